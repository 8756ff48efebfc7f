import PyProof.Rows.All
import Wide.All
import OpenK.AllK
import Wide.FinOn
import Lean
import PyProof.EqAt
import PyProof.EqKinds
import PyProof.TupleCall
import PyProof.NeKinds
import PyProof.CompFree
import KE.KIsAll
import OpenK.KOwn
import PyProof.RulesAs
import KE.RegKIsAll
import PyProof.ExcAttrAll.ValueError
import KE.KUnpack
import PyProof.Rows.StrWeight2
import PyProof.StrBlockI
import OpenK.KTop
import PyProof.ListStr
import PyProof.EnumMake
import PyProof.TupleIter
import PyProof.ListRange
import PyProof.PassesOwn
import PyProof.ExcInit
import PyProof.InstStoreFacts
import PyProof.DictFindH
import PyProof.DictIter
import PyProof.DictWalks
import PyProof.DictCompW
import PyProof.DictUpdate
import PyProof.SumWalk
import PyProof.ZipIter
import PySem.Challenge.RW_fanglue_k32_places_of_turnings
set_option Elab.async false
set_option linter.all false
set_option maxRecDepth 100000
namespace L2
open PySem PySem.Spec PyProof.Rows
abbrev Key:=Sum Int Str
def qX:Key→Value→Bool
 | .inl k,v=>Value.isInt k v
 | .inr x,v=>Value.isStrOf x v
def IU (w:World):Key→Int
 | .inl k=>hashInt k
 | .inr x=>hashStr w x
theorem cb:∀{k:Key} {v:Value},qX k v=true→(∃i t,k=Sum.inl i∧v=Value.int i t)∨(∃x t,k=Sum.inr x∧v=Value.str x t)
 | .inl i,v,h=>by
  obtain⟨t,e⟩:=Value.isInt_shape (k:=i) (v:=v) h
  exact .inl ⟨i,t,rfl,e⟩
 | .inr x,v,h=>by
  obtain⟨t,e⟩:=Value.isStrOf_shape (x:=x) (v:=v) h
  exact .inr ⟨x,t,rfl,e⟩
theorem rn (i:Int) (t:Tok):qX (.inl i) (.int i t)=true:=by simp [qX,Value.isInt]
theorem y1 (x:Str) (t:Tok):qX (.inr x) (.str x t)=true:=by simp [qX,Value.isStrOf]
theorem GB (a b:Int):decide ((Sum.inl a:Key)=Sum.inl b)=(a == b):=by
 by_cases e:a=b
 ·subst e;simp
 ·have h:¬ (Sum.inl a:Key)=Sum.inl b:=fun q=>e (Sum.inl.inj q)
  rw [decide_eq_false h]
  exact (beq_eq_false_iff_ne.mpr e).symm
theorem Gv (a b:Str):decide ((Sum.inr a:Key)=Sum.inr b)=decide (a=b):=by
 by_cases e:a=b
 ·subst e;simp
 ·have h:¬ (Sum.inr a:Key)=Sum.inr b:=fun q=>e (Sum.inr.inj q)
  rw [decide_eq_false h,decide_eq_false e]
theorem ED (a:Int) (b:Str):decide ((Sum.inl a:Key)=Sum.inr b)=false:=decide_eq_false (fun q=>nomatch q)
theorem Fc (a:Str) (b:Int):decide ((Sum.inr a:Key)=Sum.inl b)=false:=decide_eq_false (fun q=>nomatch q)
def cA (prog:Program) (w:World):PySem.KeyKind prog w Key where
 is:=qX
 hash:=IU w
 inj:=fun v a b ha hb=>by
  rcases cb ha with ⟨i,t,rfl,rfl⟩ | ⟨x,t,rfl,rfl⟩
  ·rcases cb hb with ⟨j,u,rfl,e⟩ | ⟨y,u,rfl,e⟩
   ·injection e with e1 _;rw [e1]
   ·exact nomatch e
  ·rcases cb hb with ⟨j,u,rfl,e⟩ | ⟨y,u,rfl,e⟩
   ·exact nomatch e
   ·injection e with e1 _;rw [e1]
 byValue:=fun k v h=>by
  rcases cb h with ⟨i,t,rfl,rfl⟩ | ⟨x,t,rfl,rfl⟩ <;> rfl
 pyHash:=fun hv h=>by
  rcases cb hv with ⟨i,t,rfl,rfl⟩ | ⟨x,t,rfl,rfl⟩
  ·exact wpAny_pyHash_int h
  ·exact wpAny_pyHash_str h
 eqBool:=fun hu hv h=>by
  rcases cb hu with ⟨i,t,rfl,rfl⟩ | ⟨x,t,rfl,rfl⟩
  ·rcases cb hv with ⟨j,u,rfl,rfl⟩ | ⟨y,u,rfl,rfl⟩
   ·rw [GB] at h;exact wpAny_eqBool_int h
   ·rw [ED] at h;exact SeqAt.EqAt.int_str i t y u _ _ _ _ h
  ·rcases cb hv with ⟨j,u,rfl,rfl⟩ | ⟨y,u,rfl,rfl⟩
   ·rw [Fc] at h;exact SeqAt.EqAt.str_int x t j u _ _ _ _ h
   ·rw [Gv] at h;exact wpAny_eqBool_str h
 «strs»:=fun k x t v h=>by
  rcases cb h with ⟨i,u,rfl,e⟩ | ⟨y,u,rfl,e⟩
  ·exact nomatch e
  ·injection e with e1 _
   subst e1
   cases v <;> rfl
theorem vp (prog:Program) (w:World) (i:Int) (t:Tok):(cA prog w).is (.inl i) (.int i t)=true:=rn i t
theorem uO (prog:Program) (w:World) (x:Str) (t:Tok):(cA prog w).is (.inr x) (.str x t)=true:=y1 x t
end L2
namespace L2
open PySem PySem.Spec PyProof.Rows
inductive V where
 | non | bl (b:Bool) | int (i:Int) | str (x:Str) | byt (b:Array UInt8) | flt (b:UInt64) | ref (a:Addr) | ty (n:String)
 deriving DecidableEq
def RelV:V→Value→Prop
 | .non,u=>u=Value.none
 | .bl b,u=>u=Value.bool b
 | .int i,u=>∃t,u=Value.int i t
 | .str x,u=>∃t,u=Value.str x t
 | .byt b,u=>∃t,u=Value.bytes b t
 | .flt b,u=>∃t,u=Value.float b t
 | .ref a,u=>u=Value.ref a
 | .ty n,u=>u=Value.type n
abbrev Vals:List V→List Value→Prop:=Paired RelV
theorem Vals.length {xs:List V} {us:List Value} (r:Vals xs us):xs.length=us.length:=Paired.length r
theorem Vals.get:∀{xs:List V} {us:List Value} {i:Nat} {x:V},Vals xs us→xs[i]?=some x→∃u,us[i]?=some u∧RelV x u
 | _,_,_,_,.nil,e=>by simp at e
 | _,_,0,_,.cons r _,e=>by simp at e;subst e;exact⟨_,rfl,r⟩
 | _,_,i + 1,x,.cons _ t,e=>by
  obtain⟨u,h1,h2⟩:=Vals.get (i:=i) (x:=x) t (by simpa using e)
  exact⟨u,by simpa using h1,h2⟩
theorem Vals.set {x:V} {u:Value} (r:RelV x u):∀{xs:List V} {us:List Value} (i:Nat),Vals xs us→Vals (xs.set i x) (us.set i u)
 | _,_,_,.nil=>.nil
 | _,_,0,.cons _ t=>.cons r t
 | _,_,i + 1,.cons q t=>.cons q (Vals.set r i t)
theorem Vals.append:∀{xs ys:List V} {us ws:List Value},Vals xs us→Vals ys ws→Vals (xs ++ ys) (us ++ ws)
 | _,_,_,_,.nil,s=>s
 | _,_,_,_,.cons r t,s=>.cons r (Vals.append t s)
theorem Vals.take:∀{xs:List V} {us:List Value} (n:Nat),Vals xs us→Vals (xs.take n) (us.take n)
 | _,_,0,_=>.nil
 | _,_,_ + 1,.nil=>.nil
 | _,_,n + 1,.cons r t=>.cons r (Vals.take n t)
theorem Vals.drop:∀{xs:List V} {us:List Value} (n:Nat),Vals xs us→Vals (xs.drop n) (us.drop n)
 | _,_,0,r=>r
 | _,_,_ + 1,.nil=>.nil
 | _,_,n + 1,.cons _ t=>Vals.drop n t
def uf:Option V→Option Value→Prop
 | some v,some u=>RelV v u
 | none,none=>True
 | _,_=>False
def KV {κ:Type}:List (κ×V)→List (κ×Value)→Prop:=Paired fun (p:κ×V) (q:κ×Value)=>p.1=q.1∧RelV p.2 q.2
def kV:Key→V
 | .inl i=>.int i
 | .inr x=>.str x
inductive HO where
 | lst (xs:List V)
 | tup (xs:List V)
 | dK (kvs:List (Key×V)) | dT (kvs:List (List Key×V))
 | set (S:Int→Bool) (n:Nat)
 | ins (C dx:Addr) (fs:List (Str×V))
 | own (x:Addr)
 | xd (fs:List (Str×V))
 | met (f x:Addr)
 | rng (lo hi:Int)
 | frz (o:Obj) (u:HO)
 | Cn (ps:Array Value)
 | ext (φ:Heap→Prop)
abbrev Hp:=Addr→Option HO
def upd (H:Hp) (a:Addr) (o:HO):Hp:=fun b=>if b=a then some o else H b
theorem aI {H:Hp} {a:Addr} {o:HO}:upd H a o a=some o:=by unfold upd;rw [if_pos rfl]
theorem aB {H:Hp} {a b:Addr} {o:HO} (h:b≠a):upd H a o b=H b:=by unfold upd;rw [if_neg h]
theorem bS {H:Hp} {a b:Addr} {o:HO} (h:H a=some o) (h':H b=none):a≠b:=by
 intro e;subst e;rw [h] at h';cases h'
def rY (h:Heap) (a:Addr) (its:Array Value):Prop:=∃o,h.get? a=some o∧o.cls=.type "tuple"∧(∃n,o.data=.seq its n)∧o.dict=none
theorem rY.tup {h:Heap} {a:Addr} {its:Array Value} (x:rY h a its):IsTup h a its:=let ⟨o,e,c,d,_⟩:=x;⟨o,e,c,d⟩
theorem rY.new (h:Heap) (its:Array Value):rY (h.push { cls:=.type "tuple",data:=.seq its }) h.objs.size its:=⟨_,Heap.get?_push_size _ rfl,rfl,⟨_,rfl⟩,rfl⟩
section
variable (P:Program) (w:World)
def bF (H:Hp) (h:Heap) (a:Addr):HO→Prop
 | .lst xs=>xs.length≤sizeLine∧∃(its:List Value) (n:Nat),Vals xs its∧h.get? a=some { cls:=.type "list",data:=.seq its.toArray n }
 | .tup xs=>xs.length≤sizeLine∧∃its:List Value,Vals xs its∧rY h a its.toArray
 | .dK kvs=>kvs.length≤sizeLine∧(a == sysModules)=false∧∃vs,KV kvs vs∧h.DictOf (cA P w) a vs
 | .dT kvs=>kvs.length≤sizeLine∧(a == sysModules)=false∧∃xs:List (List Key×Addr×Value),
   Paired (fun (p:List Key×V) (q:List Key×Addr×Value)=>p.1=q.1∧H q.2.1=some (.tup (p.1.map kV))∧RelV p.2 q.2.2) kvs xs ∧
   ∃o es ep,h.get? a=some o∧o.ExactDict∧o.data=.dict es ep∧es.toList=xs.map (entryOfKey (tupleKind (cA P w)))∧(xs.map (·.1)).Nodup
 | .set S n=>h.SetOf (intKind P w) a S n
 | .ins C dx fs=>H dx=some (.own a)∧fs.length≤1000∧dx≠a∧h.get? a=some (PySem.W.instObj C dx) ∧
   ∃mA,h.Ns1 dx mA∧(∀f,uf (fs.lookup f) (mA f))∧PySem.Within mA (fs.map (·.1))
 | .own _=>∃o,h.get? a=some o
 | .xd fs=>∃mA,h.Ns1 a mA∧∀f,uf (fs.lookup f) (mA f)
 | .rng lo hi=>∃t u v,h.get? a=some { cls:=.type "range",data:=.fields #[.int lo t,.int hi u,.int 1 v] }
 | .frz o u=>h.get? a=some o∧bF H h a u
 | .Cn ps=>h.get? a=some { cls:=.none,data:=.fields ps }
 | .met f x=>h.get? a=some (PySem.W.methodObj (.ref f) (.ref x))
 | .ext φ=>φ h∧(∃o,h.get? a=some o)∧∀h1 h2:Heap,φ h1→(∀o,h1.get? a=some o→h2.get? a=some o)→φ h2
def jO (H:Hp) (h:Heap):Prop:=∀a o,H a=some o→bF P w H h a o
end
section
variable {P:Program} {w:World} {H H':Hp} {h h':Heap} {a:Addr} {o:HO}
theorem bF.lt (x:bF P w H h a o):a < h.objs.size:=by
 cases o with
 | lst xs=>obtain⟨_,_,_,_,e⟩:=x;exact Heap.lt_size e
 | tup xs=>obtain⟨_,_,_,p⟩:=x;exact p.tup.lt
 | dK kvs=>obtain⟨_,_,_,_,o,_,_,e,_⟩:=x;exact Heap.lt_size e
 | dT kvs=>obtain⟨_,_,_,_,o,_,_,e,_⟩:=x;exact Heap.lt_size e
 | set S n=>obtain⟨o,_,_,_,e,_⟩:=x;exact Heap.lt_size e
 | ins C dx fs=>obtain⟨_,_,_,e,_⟩:=x;exact Heap.lt_size e
 | own y=>obtain⟨_,e⟩:=x;exact Heap.lt_size e
 | xd fs=>obtain⟨_,⟨_,_,_,e,_⟩,_⟩:=x;exact Heap.lt_size e
 | rng lo hi=>obtain⟨_,_,_,e⟩:=x;exact Heap.lt_size e
 | frz ob u=>obtain⟨e,_⟩:=x;exact Heap.lt_size e
 | Cn ps=>exact Heap.lt_size (show h.get? a=some _ from x)
 | met f y=>exact Heap.lt_size (show h.get? a=some _ from x)
 | ext φ=>obtain⟨_,⟨_,e⟩,_⟩:=x;exact Heap.lt_size e
theorem Paired.GY {α β:Type} {F G:α→β→Prop}:∀{l₁:List α} {l₂:List β},Paired F l₁ l₂→(∀a b,F a b→G a b)→Paired G l₁ l₂
 | _,_,.nil,_=>.nil
 | _,_,.cons r t,f=>.cons (f _ _ r) (Paired.GY t f)
theorem bF.oo (x:bF P w H h a o) (k:∀b u,(b=a∨H b=some (.own a))→h.get? b=some u→h'.get? b=some u)
  (ho:∀b,H b=some (.own a)→H' b=some (.own a)) (ht:∀b xs,H b=some (.tup xs)→H' b=some (.tup xs)):bF P w H' h' a o:=by
 induction o with
 | lst xs=>obtain⟨z,its,n,r,e⟩:=x;exact⟨z,its,n,r,k _ _ (.inl rfl) e⟩
 | tup xs=>obtain⟨z,its,r,ob,e,c⟩:=x;exact⟨z,its,r,ob,k _ _ (.inl rfl) e,c⟩
 | dK kvs=>obtain⟨z,y,vs,r,ob,es,ep,e,c⟩:=x;exact⟨z,y,vs,r,ob,es,ep,k _ _ (.inl rfl) e,c⟩
 | dT kvs =>
  obtain⟨z,y,xs,r,ob,es,ep,e,c⟩:=x
  exact⟨z,y,xs,Paired.GY r fun p q z=>⟨z.1,ht _ _ z.2.1,z.2.2⟩,ob,es,ep,k _ _ (.inl rfl) e,c⟩
 | set S n=>obtain⟨ob,es,ep,t,e,c⟩:=x;exact⟨ob,es,ep,t,k _ _ (.inl rfl) e,c⟩
 | ins C dx fs =>
  obtain⟨d,z,ne,e,mA,⟨od,es,ep,e2,c⟩,r⟩:=x
  exact⟨ho _ d,z,ne,k _ _ (.inl rfl) e,mA,⟨od,es,ep,k _ _ (.inr d) e2,c⟩,r⟩
 | own y=>obtain⟨ob,e⟩:=x;exact⟨ob,k _ _ (.inl rfl) e⟩
 | xd fs=>obtain⟨mA,⟨od,es,ep,e,c⟩,r⟩:=x;exact⟨mA,⟨od,es,ep,k _ _ (.inl rfl) e,c⟩,r⟩
 | rng lo hi=>obtain⟨t,u,v,e⟩:=x;exact⟨t,u,v,k _ _ (.inl rfl) e⟩
 | frz ob u ih=>obtain⟨e,q⟩:=x;exact⟨k _ _ (.inl rfl) e,ih q⟩
 | Cn ps =>
  have e:h.get? a=some { cls:=.none,data:=.fields ps }:=x
  show h'.get? a=some { cls:=.none,data:=.fields ps }
  exact k a _ (.inl rfl) e
 | met f y =>
  have e:h.get? a=some (PySem.W.methodObj (.ref f) (.ref y)):=x
  show h'.get? a=some (PySem.W.methodObj (.ref f) (.ref y))
  exact k a _ (.inl rfl) e
 | ext φ=>obtain⟨p,⟨o,e⟩,st⟩:=x;exact⟨st _ _ p fun o q=>k _ _ (.inl rfl) q,⟨o,k _ _ (.inl rfl) e⟩,st⟩
theorem jO.lt (x:jO P w H h) (e:H a=some o):a < h.objs.size:=(x a o e).lt
theorem jO.fresh (x:jO P w H h) (e:h.objs.size≤a):H a=none:=by
 cases q:H a with
 | none=>rfl
 | some u=>exact absurd (Nat.lt_of_lt_of_le (x.lt q) e) (Nat.lt_irrefl _)
theorem jO.kept (x:jO P w H h) (k:∀b u,h.get? b=some u→h'.get? b=some u):jO P w H h':=fun a o e =>
 (x a o e).oo (fun b u _ q=>k b u q) (fun _ q=>q) fun _ _ q=>q
theorem jO.laid (x:jO P w H h) (k:∀b u,h.get? b=some u→h'.get? b=some u) (hp:h.objs.size≤a) (new:bF P w (upd H a o) h' a o):jO P w (upd H a o) h':=fun b u e=>by
 have hn:=x.fresh hp
 by_cases hb:b=a
 ·subst hb;rw [aI] at e;cases e;exact new
 ·rw [aB hb] at e
  exact (x b u e).oo (fun c v _ q=>k c v q) (fun c q=>by rw [aB (bS q hn)];exact q) fun c xs q=>by rw [aB (bS q hn)];exact q
end
def Rd (H:Hp) (a:Addr) (u:HO):Prop:=H a=some u∨∃o,H a=some (.frz o u)
theorem Rd.ok {P:Program} {w:World} {H:Hp} {h:Heap} {a:Addr} {u:HO} (r:Rd H a u) (x:jO P w H h):bF P w H h a u:=by
 rcases r with r | ⟨o,r⟩
 ·exact x a u r
 ·obtain⟨_,q⟩:=x a _ r
  exact q
def Ib:Option HO→Prop
 | some (.lst _)=>True
 | some (.dK _)=>True
 | some (.dT _)=>True
 | some (.set _ _)=>True
 | some (.ins _ _ _)=>True
 | some (.ext _)=>True
 | _=>False
section
variable {P:Program} {w:World} {H:Hp} {h h':Heap} {x e:Addr} {o':HO}
theorem jO.write (ok:jO P w H h) (mu:Ib (H x)) (he:e=x∨H e=some (.own x)) (k:∀b u,b≠e→h.get? b=some u→h'.get? b=some u) (heo:∃u,h'.get? e=some u)
  (new:bF P w (upd H x o') h' x o'):jO P w (upd H x o') h':=fun b u q=>by
 have nown:∀c y,H c=some (.own y)→c≠x:=fun c y r z=>by subst z;rw [r] at mu;exact mu
 have ntup:∀c xs,H c=some (.tup xs)→c≠x:=fun c xs r z=>by subst z;rw [r] at mu;exact mu
 by_cases hb:b=x
 ·subst hb;rw [aI] at q;cases q;exact new
 ·rw [aB hb] at q
  by_cases hbe:b=e
  ·have q':H b=some (.own x):=by
    rcases he with z | z
    ·exact absurd (hbe.trans z) hb
    ·rw [hbe];exact z
   rw [q] at q';cases q'
   obtain⟨v,hv⟩:=heo
   exact⟨v,by rw [hbe];exact hv⟩
  ·refine (ok b u q).oo (fun c v hc r=>k c v ?_ r) (fun c r=>by rw [aB (nown c b r)];exact r) fun c xs r=>by rw [aB (ntup c xs r)];exact r
   rcases hc with rfl | hc
   ·exact hbe
   ·rintro rfl
    rcases he with z | z
    ·exact nown c b hc z
    ·rw [hc] at z;cases z;exact hb rfl
end
structure Un (fs ex:List Addr) (H H':Hp) (h h':Heap):Prop where
 keep:∀b o,h.get? b=some o→H b=none→b∉fs→b∉ex→h'.get? b=some o
 slot:∀b o,h.get? b=some o→H b=none→b∈fs→b∉ex→∃sl,h'.get? b=some { o with slots:=sl }
 free:∀b o,h.get? b=some o→H b=none→b∉ex→H' b=none
 there:∀b o,h.get? b=some o→b∉ex→∃o',h'.get? b=some o'
 tups:∀b xs,H b=some (.tup xs)→H' b=some (.tup xs)
 frzs:∀b o u,H b=some (.frz o u)→H' b=some (.frz o u)
 tbls:∀b ps,H b=some (.Cn ps)→∃more,H' b=some (.Cn (ps ++ more))
section
variable {fs fs' ex ex':List Addr} {H H1 H2:Hp} {h h1 h2 h':Heap} {a x e:Addr} {o:HO}
theorem Un.any (u:Un fs ex H H1 h h1) {b:Addr} {ob:Obj} (q:h.get? b=some ob) (n:H b=none) (hx:b∉ex):∃sl,h1.get? b=some { ob with slots:=sl }:=by
 by_cases hb:b∈fs
 ·exact u.slot b ob q n hb hx
 ·exact⟨ob.slots,u.keep b ob q n hb hx⟩
theorem Un.kept (k:∀b u,h.get? b=some u→h'.get? b=some u):Un fs ex H H h h' :=
 ⟨fun b ob q _ _ _=>k b ob q,fun b ob q _ _ _=>⟨ob.slots,k b ob q⟩,fun _ _ _ n _=>n,fun b ob q _=>⟨ob,k b ob q⟩,fun _ _ q=>q,fun _ _ _ q=>q,fun _ ps q=>⟨#[],by rw [q];simp⟩⟩
theorem Un.refl:Un fs ex H H h h:=Un.kept fun _ _ q=>q
theorem Un.laid (k:∀b u,h.get? b=some u→h'.get? b=some u) (hp:h.objs.size≤a) (hn:H a=none):Un fs ex H (upd H a o) h h' where
 keep:=fun b u q _ _ _=>k b u q
 slot:=fun b u q _ _ _=>⟨u.slots,k b u q⟩
 free:=fun b u q n _=>by rw [aB (Nat.ne_of_lt (Nat.lt_of_lt_of_le (Heap.lt_size q) hp))];exact n
 there:=fun b u q _=>⟨u,k b u q⟩
 tups:=fun b xs q=>by rw [aB (bS q hn)];exact q
 frzs:=fun b u xs q=>by rw [aB (bS q hn)];exact q
 tbls:=fun b ps q=>⟨#[],by rw [aB (bS q hn),q];simp⟩
theorem Un.write (mu:Ib (H x)) (he:e=x∨H e=some (.own x)) (k:∀b u,b≠e→h.get? b=some u→h'.get? b=some u) (heo:∃u,h'.get? e=some u):Un fs ex H (upd H x o) h h':=by
 have hx:∀b,H b=none→b≠x:=fun b n z=>by subst z;rw [n] at mu;exact mu
 have hb:∀b,H b=none→b≠e:=fun b n z=>by
  subst z
  rcases he with r | r
  ·exact hx b n r
  ·rw [n] at r;cases r
 have hm:∀b u,H b=some u→¬ Ib (some u)→b≠x:=fun b u q nm z=>by subst z;rw [q] at mu;exact nm mu
 refine⟨fun b u q n _ _=>k b u (hb b n) q,fun b u q n _ _=>⟨u.slots,k b u (hb b n) q⟩,fun b u q n _=>by rw [aB (hx b n)];exact n,fun b u q _=>?_,
  fun b xs q=>by rw [aB (hm b _ q fun z=>z)];exact q,fun b u xs q=>by rw [aB (hm b _ q fun z=>z)];exact q,fun b ps q=>⟨#[],by rw [aB (hm b _ q fun z=>z),q];simp⟩⟩
 by_cases hbe:b=e
 ·subst hbe;exact heo
 ·exact⟨u,k b u hbe q⟩
end
def Fo (h:Heap) (H:Hp):List Addr:=(List.range h.objs.size).filter fun a=>(H a).isSome
def tJ (h:Heap) (H:Hp):Heap:=PySem.W.hideAll h (Fo h H)
theorem zq (h:Heap) (H:Hp):(tJ h H).objs.size=h.objs.size:=PySem.W.hideAll_size _ _
theorem Bz {h:Heap} {H:Hp} {b:Addr} {o:Obj} (e:h.get? b=some o) (n:H b=none):(tJ h H).get? b=some o :=
 PySem.W.hideAll_get _ e fun hm=>by
  have q:(H b).isSome=true:=(List.mem_filter.mp hm).2
  rw [n] at q;simp at q
theorem CD {h:Heap} {H:Hp} {b:Addr} {o:Obj} (e:(tJ h H).get? b=some o):h.get? b=some o∧H b=none:=by
 have e':h.get? b=some o:=PySem.W.of_hideAll (Fo h H) e
 refine⟨e',?_⟩
 cases q:H b with
 | none=>rfl
 | some x =>
  have hm:b∈Fo h H:=List.mem_filter.mpr ⟨List.mem_range.mpr (Heap.lt_size e'),by simp [q]⟩
  have z:(tJ h H).get? b=none:=PySem.W.hideAll_none (Fo h H) hm
  rw [z] at e;cases e
end L2
namespace L2
open PySem PySem.Spec PyProof.Rows
structure Mod (K:PySem.W.Frag) (mg:Str→Option Value) (base:Heap):Prop where
 kin:K.In base
 glob:base.Ns mainGlobals mg
 blt:∃mb,base.Ns builtinsNs mb∧∀x:Str,x≠"__name__"→mb x=bootBuiltins x
 nolimit:base.NoLimit
structure Cx where
 prog:Program
 w:World
 K:PySem.W.Frag
 mg:Str→Option Value
 base:Heap
 A:Around
 N:List Str
 s₀:Shared
 H₀:Hp
 env:Env
 outer:List Env
 stack:List Env
 ex:List Addr
 fn:Str→Bool
 calm:Bool
 pn:List (Addr×Obj)
 xe:Value→Shared→Prop
def nA (l:List Env):List Addr:=l.filterMap (·.frame)
abbrev Cx.fs (X:Cx):List Addr:=nA X.outer
def xS (sc:Scope) (x:Str):Prop:=sc.names.lookup x=some .local∨sc.names.lookup x=some .cell∨sc.names.lookup x=some .free
def Loc (sc:Scope) (x:Str):Prop:=sc.names.lookup x=some .local∨sc.names.lookup x=some .cell
def Look (env:Env) (h:Heap) (m:Str→Option Value) (x:Str) (u:Value):Prop :=
 (env.kindOf x=some .local∧m x=some u)∨((env.kindOf x=some .cell∨env.kindOf x=some .free)∧∃c,env.cells.lookup x=some c∧h.IsCell c (some u))
structure Cx.Ok (X:Cx):Prop where
 mod:Mod X.K X.mg X.base
 kind:X.env.scope.kind=.function
 glob:X.env.globals=mainGlobals
 blt:X.env.builtins=builtinsNs
 above:X.s₀.heap.objs.size≤X.env.locals
 inj:∀x y c,X.env.cells.lookup x=some c→X.env.cells.lookup y=some c→x=y
 has:∀x,(X.env.kindOf x=some .cell∨X.env.kindOf x=some .free)→∃c,X.env.cells.lookup x=some c
 cab:∀x c,X.fn x=true→X.env.cells.lookup x=some c→X.s₀.heap.objs.size≤c
 hd:X.calm=true→X.A.handled=none
 frames:X.A.frames=some X.stack
 stk:X.stack=X.outer∨(X.stack=X.env :: X.outer∧X.env.frame=some X.env.locals)
 exf:∀b∈X.ex,b≠X.env.locals∧∀x c,X.env.cells.lookup x=some c→c≠b
 bs:∀b o,X.base.get? b=some o→X.s₀.heap.get? b=some o∧X.H₀ b=none
 bsz:X.base.objs.size≤X.s₀.heap.objs.size
 noex:∀b o,X.base.get? b=some o→b∉X.ex
 exfs:∀b∈X.ex,b∉X.fs
 kj:X.s₀.heap.FunFrames X.base X.outer
 frf:∀b∈X.fs,X.H₀ b=none
structure Inv (X:Cx) (pins:List (Addr×Obj)) (σ:List (Option V)) (H:Hp) (s:Shared):Prop where
 ok:X.Ok
 os:s.os=X.s₀.os
 bare:AllBare s.gens
 base:Un X.fs X.ex X.H₀ H X.s₀.heap s.heap
 loc:∃m,s.heap.Ns X.env.locals m∧∀(i:Nat) (x:Str) (v:V),X.N[i]?=some x→σ[i]?=some (some v)→xS X.env.scope x→∃u,RelV v u∧Look X.env s.heap m x u
 cell:∀x c,X.env.cells.lookup x=some c→∃v,s.heap.IsCell c v
 free:H X.env.locals=none
 freeC:∀x c,X.env.cells.lookup x=some c→H c=none
 pin:∀p∈X.pn ++ pins,s.heap.get? p.1=some p.2∧H p.1=none∧p.1≠X.env.locals∧p.1∉X.fs∧∀v,p.2.data≠.cell v
 hok:jO X.prog X.w H s.heap
 len:σ.length=X.N.length
section
variable {X:Cx} {pins:List (Addr×Obj)} {σ:List (Option V)} {H H':Hp} {s:Shared} {h':Heap}
theorem Cx.Ok.JG (ok:X.Ok) {b:Addr} {o:Obj} (e:X.base.get? b=some o):b∉X.fs:=fun hb=>by
 have:=(ok.kj.mem hb).1
 rw [e] at this;cases this
theorem Inv.bs (I:Inv X pins σ H s):∀b o,X.base.get? b=some o→s.heap.get? b=some o∧H b=none:=fun b o e =>
 ⟨I.base.keep b o (I.ok.bs b o e).1 (I.ok.bs b o e).2 (I.ok.JG e) (I.ok.noex b o e),I.base.free b o (I.ok.bs b o e).1 (I.ok.bs b o e).2 (I.ok.noex b o e)⟩
theorem Inv.bk (I:Inv X pins σ H s):∀b o,X.base.get? b=some o→s.heap.get? b=some o:=fun b o e=>(I.bs b o e).1
theorem Inv.mod (I:Inv X pins σ H s):Mod X.K X.mg X.base:=I.ok.mod
theorem Inv.qR (I:Inv X pins σ H s):X.K.In s.heap:=I.ok.mod.kin.keeps I.bk
theorem Inv.lt (I:Inv X pins σ H s):X.env.locals < s.heap.objs.size:=let ⟨_,hn,_⟩:=I.loc;hn.lt
theorem Inv.sz (I:Inv X pins σ H s):X.s₀.heap.objs.size≤s.heap.objs.size:=Nat.le_trans I.ok.above (Nat.le_of_lt I.lt)
theorem Inv.IH (I:Inv X pins σ H s) {a:Addr} (h:s.heap.objs.size≤a):a∉X.fs:=fun hb=>by
 obtain⟨_,o,ho,_⟩:=I.ok.kj.mem hb
 exact absurd (Nat.lt_of_lt_of_le (Heap.lt_size ho) (Nat.le_trans I.sz h)) (Nat.lt_irrefl _)
theorem Inv.D0 (I:Inv X pins σ H s):∀x c,X.env.cells.lookup x=some c→c≠X.env.locals:=fun x c e z=>by
 obtain⟨v,o,ho,hd⟩:=I.cell x c e
 obtain⟨m,⟨o',es,ep,ho',hd',_⟩,_⟩:=I.loc
 rw [z,ho'] at ho;cases ho;rw [hd'] at hd;cases hd
theorem Inv.kj (I:Inv X pins σ H s):s.heap.FunFrames X.base X.outer:=by
 have all:∀(l:List Env),(∀b∈nA l,b∈X.fs)→X.s₀.heap.FunFrames X.base l→s.heap.FunFrames X.base l:=by
  intro l
  induction l with
  | nil=>intro _ _;trivial
  | cons env r ih =>
   intro hs hl
   obtain⟨hk,⟨L,o,hf,hn,ho,hd⟩,hr⟩:=hl
   have hL:L∈X.fs:=hs L (by unfold nA;rw [List.filterMap_cons,hf];exact List.mem_cons_self)
   obtain⟨sl,e⟩:=I.base.slot L o ho (I.ok.frf L hL) hL fun z=>I.ok.exfs L z hL
   exact⟨hk,⟨L,_,hf,hn,e,hd⟩,ih (fun b hb=>hs b (by unfold nA;rw [List.filterMap_cons,hf];exact List.mem_cons_of_mem _ hb)) hr⟩
 exact all X.outer (fun _ hb=>hb) I.ok.kj
theorem Inv.stack (I:Inv X pins σ H s):s.heap.FunFrames X.base X.stack:=by
 rcases I.ok.stk with e | ⟨e,hf⟩
 ·rw [e];exact I.kj
 ·rw [e]
  obtain⟨m,hn,_⟩:=I.loc
  refine .cons (by rw [I.ok.kind];decide) hf hn ?_ I.kj
  exact Heap.get?_none_of_le (Nat.le_trans I.ok.bsz I.ok.above)
theorem Inv.pv (I:Inv X pins σ H s):∀b∈nA X.stack,b∈X.env.locals :: X.fs:=fun b hb=>by
 rcases I.ok.stk with e | ⟨e,hf⟩
 ·rw [e] at hb;exact List.mem_cons_of_mem _ hb
 ·rw [e] at hb
  unfold nA at hb
  rw [List.filterMap_cons,hf] at hb
  exact hb
theorem Inv.sN (I:Inv X pins σ H s):∀b∈nA X.stack,H b=none:=fun b hb=>by
 rcases List.mem_cons.mp (I.pv b hb) with e | hb
 ·rw [e];exact I.free
 ·obtain⟨_,o,ho,_⟩:=I.ok.kj.mem hb
  exact I.base.free b o ho (I.ok.frf b hb) fun z=>I.ok.exfs b z hb
theorem Inv.step {g':Array GenState} {t':Nat} {d':Drawn} {ch:List Addr} (I:Inv X pins σ H s)
  (hch:∀b∈ch,(b∈X.ex∨X.s₀.heap.objs.size≤b)∧b≠X.env.locals∧(∀x c,X.env.cells.lookup x=some c→c≠b)∧∀p∈X.pn ++ pins,p.1≠b)
  (keep:∀b o,b≠X.env.locals→b∉X.fs→b∉ch→s.heap.get? b=some o→H b=none→h'.get? b=some o)
  (slot:∀b o,b≠X.env.locals→b∈X.fs→b∉ch→s.heap.get? b=some o→H b=none→∃sl,h'.get? b=some { o with slots:=sl }) (free:∀b o,b∉ch→s.heap.get? b=some o→H b=none→H' b=none)
  (there:∀b o,b∉ch→s.heap.get? b=some o→∃o',h'.get? b=some o')
  (tups:∀b xs,H b=some (.tup xs)→H' b=some (.tup xs)) (frzs:∀b o u,H b=some (.frz o u)→H' b=some (.frz o u)) (tbls:∀b ps,H b=some (.Cn ps)→∃more,H' b=some (.Cn (ps ++ more)))
  (ns:∀m,s.heap.Ns X.env.locals m→h'.Ns X.env.locals m) (hok:jO X.prog X.w H' h') (hg:AllBare g') :
  Inv X pins σ H' { s with heap:=h',gens:=g',drawn:=d',toks:=t' }:=by
 have neL:∀b o,X.s₀.heap.get? b=some o→b≠X.env.locals:=fun b o e=>Nat.ne_of_lt (Nat.lt_of_lt_of_le (Heap.lt_size e) I.ok.above)
 have neC:∀b o,X.s₀.heap.get? b=some o→b∉X.ex→b∉ch:=fun b o e hx hb=>by
  rcases (hch b hb).1 with z | z
  ·exact hx z
  ·exact absurd (Nat.lt_of_lt_of_le (Heap.lt_size e) z) (Nat.lt_irrefl _)
 have cellK:∀x c,X.env.cells.lookup x=some c→∀v,s.heap.IsCell c v→h'.IsCell c v:=fun x c e v ⟨o,ho,hd⟩=>by
  have nch:c∉ch:=fun z=>(hch c z).2.2.1 x c e rfl
  by_cases hc:c∈X.fs
  ·obtain⟨sl,q⟩:=slot c o (I.D0 x c e) hc nch ho (I.freeC x c e)
   exact⟨_,q,hd⟩
  ·exact⟨o,keep c o (I.D0 x c e) hc nch ho (I.freeC x c e),hd⟩
 refine⟨I.ok,I.os,hg,⟨fun b o e n hb hx=>?_,fun b o e n hb hx=>?_,fun b o e n hx=>?_,fun b o e hx=>?_,fun b xs e=>tups b xs (I.base.tups b xs e),fun b o xs e=>frzs b o xs (I.base.frzs b o xs e),fun b ps e=>?_⟩,?_,fun x c e=>?_,?_,fun x c e=>?_,fun p hp=>?_,hok,I.len⟩
 ·exact keep b o (neL b o e) hb (neC b o e hx) (I.base.keep b o e n hb hx) (I.base.free b o e n hx)
 ·obtain⟨sl,e1⟩:=I.base.slot b o e n hb hx
  obtain⟨sl',e2⟩:=slot b _ (neL b o e) hb (neC b o e hx) e1 (I.base.free b o e n hx)
  exact⟨sl',e2⟩
 ·obtain⟨o',e1⟩:=I.base.there b o e hx
  exact free b o' (neC b o e hx) e1 (I.base.free b o e n hx)
 ·obtain⟨o',e1⟩:=I.base.there b o e hx
  exact there b o' (neC b o e hx) e1
 ·obtain⟨m1,e1⟩:=I.base.tbls b ps e
  obtain⟨m2,e2⟩:=tbls b _ e1
  exact⟨m1 ++ m2,by rw [e2,Array.append_assoc]⟩
 ·obtain⟨m,hn,hl⟩:=I.loc
  refine⟨m,ns m hn,fun i x v e1 e2 e3=>?_⟩
  obtain⟨u,r,l⟩:=hl i x v e1 e2 e3
  refine⟨u,r,?_⟩
  rcases l with l | ⟨k,c,e,z⟩
  ·exact .inl l
  ·exact .inr ⟨k,c,e,cellK x c e _ z⟩
 ·obtain⟨v,z⟩:=I.cell x c e
  exact⟨v,cellK x c e v z⟩
 ·obtain⟨m,⟨o,_,_,ho,_⟩,_⟩:=I.loc
  exact free _ o (fun z=>(hch _ z).2.1 rfl) ho I.free
 ·obtain⟨v,o,ho,hd⟩:=I.cell x c e
  exact free c o (fun z=>(hch c z).2.2.1 x c e rfl) ho (I.freeC x c e)
 ·obtain⟨e,n,ne,nf,d⟩:=I.pin p hp
  have nch:p.1∉ch:=fun z=>(hch p.1 z).2.2.2 p hp rfl
  exact⟨keep p.1 p.2 ne nf nch e n,free p.1 p.2 nch e n,ne,nf,d⟩
theorem Inv.un {t':Nat} (I:Inv X pins σ H s) (u:Un X.fs [] H H' s.heap h') (hok:jO X.prog X.w H' h'):Inv X pins σ H' { s with heap:=h',toks:=t' }:=by
 obtain⟨m,⟨o,es,ep,ho,r⟩,_⟩:=id I.loc
 obtain⟨sl,hL⟩:=u.any ho I.free (by simp)
 exact I.step (g':=s.gens) (d':=s.drawn) (ch:=[]) (fun _ z=>nomatch z) (fun b o _ hb _ e n=>u.keep b o e n hb (by simp)) (fun b o _ hb _ e n=>u.slot b o e n hb (by simp)) (fun b o _ e n=>u.free b o e n (by simp)) (fun b o _ e=>u.there b o e (by simp)) u.tups u.frzs u.tbls (fun m' hm=>by
  obtain⟨o',es',ep',ho',r'⟩:=hm
  rw [ho] at ho';cases ho'
  exact⟨_,es',ep',hL,r'⟩) hok I.bare
theorem Inv.call {g':Array GenState} {t':Nat} {d':Drawn} {ch:List Addr} (I:Inv X pins σ H s) (u:Un (nA X.stack) ch H H' s.heap h') (hok:jO X.prog X.w H' h') (hg:AllBare g')
  (hch:∀b∈ch,(b∈X.ex∨X.s₀.heap.objs.size≤b)∧b≠X.env.locals∧(∀x c,X.env.cells.lookup x=some c→c≠b)∧∀p∈X.pn ++ pins,p.1≠b) :
  Inv X pins σ H' { s with heap:=h',gens:=g',drawn:=d',toks:=t' }:=by
 obtain⟨m,⟨o,es,ep,ho,r⟩,_⟩:=id I.loc
 obtain⟨sl,hL⟩:=u.any ho I.free fun z=>(hch _ z).2.1 rfl
 exact I.step (ch:=ch) hch (fun b o hL hb hc e n=>u.keep b o e n (fun z=>(List.mem_cons.mp (I.pv b z)).elim hL hb) hc) (fun b o _ _ hc e n=>u.any e n hc) (fun b o hc e n=>u.free b o e n hc) (fun b o hc e=>u.there b o e hc) u.tups u.frzs u.tbls (fun m' hm=>by
  obtain⟨o',es',ep',ho',r'⟩:=hm
  rw [ho] at ho';cases ho'
  exact⟨_,es',ep',hL,r'⟩) hok hg
theorem Inv.turned {t':Nat} {it:Addr} (I:Inv X pins σ H s) (k:∀b o,b≠it→s.heap.get? b=some o→h'.get? b=some o) (hn:H it=none) (hL:it≠X.env.locals)
  (h1:it∈X.ex∨X.s₀.heap.objs.size≤it) (h2:∀x c,X.env.cells.lookup x=some c→c≠it) (h3:∀p∈X.pn ++ pins,p.1≠it):Inv X pins σ H { s with heap:=h',toks:=t' }:=by
 have nit:∀b u,H b=some u→b≠it:=fun b u e z=>by rw [z,hn] at e;cases e
 refine I.step (g':=s.gens) (d':=s.drawn) (ch:=[it]) (fun b hb=>?_) (fun b o _ _ hc e _=>k b o (fun z=>hc (by simp [z])) e) (fun b o _ _ hc e _=>⟨o.slots,k b o (fun z=>hc (by simp [z])) e⟩) (fun _ _ _ _ n=>n)
  (fun b o hc e=>⟨o,k b o (fun z=>hc (by simp [z])) e⟩) (fun _ _ e=>e) (fun _ _ _ e=>e) (fun b ps e=>⟨#[],by rw [e];simp⟩) (fun m hm=>?_) (fun b u e=>?_) I.bare
 ·have e:b=it:=by simpa using hb
  subst e
  exact⟨h1,hL,h2,h3⟩
 ·obtain⟨o,es,ep,ho,r⟩:=hm
  exact⟨o,es,ep,k _ o (Ne.symm hL) ho,r⟩
 ·refine (I.hok b u e).oo (fun c v hc q=>k c v ?_ q) (fun _ q=>q) fun _ _ q=>q
  rcases hc with z | z
  ·rw [z];exact nit b u e
  ·exact nit c _ z
theorem Inv.tok (I:Inv X pins σ H s) (t:Nat):Inv X pins σ H { s with toks:=t }:=I.un (h':=s.heap) (t':=t) Un.refl I.hok
theorem Inv.kept {t':Nat} (I:Inv X pins σ H s) (k:∀b u,s.heap.get? b=some u→h'.get? b=some u):Inv X pins σ H { s with heap:=h',toks:=t' }:=I.un (Un.kept k) (I.hok.kept k)
theorem Inv.laid {a:Addr} {o:HO} {t':Nat} (I:Inv X pins σ H s) (k:∀b u,s.heap.get? b=some u→h'.get? b=some u) (hp:s.heap.objs.size≤a) (new:bF X.prog X.w (upd H a o) h' a o) :
  Inv X pins σ (upd H a o) { s with heap:=h',toks:=t' }:=I.un (Un.laid k hp (I.hok.fresh hp)) (I.hok.laid k hp new)
theorem Inv.write {x e:Addr} {o:HO} {t':Nat} (I:Inv X pins σ H s) (mu:Ib (H x)) (he:e=x∨H e=some (.own x)) (k:∀b u,b≠e→s.heap.get? b=some u→h'.get? b=some u) (heo:∃u,h'.get? e=some u)
  (new:bF X.prog X.w (upd H x o) h' x o):Inv X pins σ (upd H x o) { s with heap:=h',toks:=t' }:=I.un (Un.write mu he k heo) (I.hok.write mu he k heo new)
theorem Inv.yv {pins':List (Addr×Obj)} (I:Inv X pins σ H s) (h:∀p∈pins',s.heap.get? p.1=some p.2∧H p.1=none∧p.1≠X.env.locals∧p.1∉X.fs∧∀v,p.2.data≠.cell v):Inv X pins' σ H s :=
 ⟨I.ok,I.os,I.bare,I.base,I.loc,I.cell,I.free,I.freeC,fun p hp=>(List.mem_append.mp hp).elim (fun z=>I.pin p (List.mem_append_left _ z)) (h p),I.hok,I.len⟩
theorem u4 {N:List Str} (hN:N.Nodup) {i j:Nat} {x:Str} (a:N[i]?=some x) (b:N[j]?=some x):i=j:=by
 obtain⟨h1,e1⟩:=List.getElem?_eq_some_iff.mp a
 obtain⟨h2,e2⟩:=List.getElem?_eq_some_iff.mp b
 exact (List.getElem_inj hN).mp (e1.trans e2.symm)
theorem qZ {M:Model} {A:Around} {E:Value→Shared→Prop} {i:Nat} {x:Str} {v:V} {u:Value} {Q:Unit→Shared→Prop} (I:Inv X pins σ H s) (hN:X.N.Nodup) (hi:X.N[i]?=some x) (hx:Loc X.env.scope x) (r:RelV v u)
  (h:∀s',Inv X pins (σ.set i (some v)) H s'→(∃a,Heap.SameBut a s.heap s'.heap∧(a=X.env.locals∨X.env.cells.lookup x=some a))→Q () s') (hf:X.fn x=true∨X.env.scope.names.lookup x=some .local:=by first | exact .inl rfl | exact .inr rfl | assumption):wpAny M A (storeName X.env x u) Q E s:=by
 obtain⟨m,hn,hl⟩:=id I.loc
 have hcls:(X.env.scope.kind == .class || (X.env.scope.kind == .module && X.env.locals != X.env.globals))=false:=by rw [I.ok.kind];rfl
 have hiσ:i < σ.length:=by rw [I.len];exact (List.getElem?_eq_some_iff.mp hi).1
 have D0:=I.D0
 have tracked:∀{a:Addr} {h':Heap},(∃o,s.heap.get? a=some o∧H a=none)→Heap.SameBut a s.heap h'→jO X.prog X.w H h':=fun {a h'} ha hs b ob e=>by
  obtain⟨_,_,hfree⟩:=ha
  refine (I.hok b ob e).oo (fun c w' hc q=>(hs.2 c ?_).trans q) (fun _ q=>q) fun _ _ q=>q
  rintro rfl
  rcases hc with rfl | hc
  ·rw [hfree] at e;cases e
  ·rw [hfree] at hc;cases hc
 rcases hx with hk | hk
 ·refine wpAny_storeName_local hk hn (fun h' hn' hs=>?_) hcls
  obtain⟨oL,_,_,hoL,_⟩:=id hn
  refine h _ ⟨I.ok,I.os,I.bare,⟨fun b o e n hb hx=>?_,fun b o e n hb hx=>?_,I.base.free,fun b o e hx=>?_,I.base.tups,I.base.frzs,I.base.tbls⟩,⟨_,hn',fun j y v' e1 e2 e3=>?_⟩,fun y c e=>?_,I.free,I.freeC,fun p hp=>?_,tracked ⟨oL,hoL,I.free⟩ hs,by simpa using I.len⟩ ⟨_,hs,.inl rfl⟩
  ·exact (hs.2 b (Nat.ne_of_lt (Nat.lt_of_lt_of_le (Heap.lt_size e) I.ok.above))).trans (I.base.keep b o e n hb hx)
  ·obtain⟨sl,e1⟩:=I.base.slot b o e n hb hx
   exact⟨sl,(hs.2 b (Nat.ne_of_lt (Nat.lt_of_lt_of_le (Heap.lt_size e) I.ok.above))).trans e1⟩
  ·obtain⟨o',e1⟩:=I.base.there b o e hx
   exact⟨o',(hs.2 b (Nat.ne_of_lt (Nat.lt_of_lt_of_le (Heap.lt_size e) I.ok.above))).trans e1⟩
  ·by_cases hj:j=i
   ·subst hj
    rw [hi] at e1;cases e1
    rw [List.getElem?_set_self hiσ] at e2
    cases e2
    exact⟨u,r,.inl ⟨hk,by simp⟩⟩
   ·rw [List.getElem?_set_ne (Ne.symm hj)] at e2
    obtain⟨u',r',q⟩:=hl j y v' e1 e2 e3
    refine⟨u',r',?_⟩
    rcases q with ⟨k,e⟩ | ⟨k,c,e,z⟩
    ·refine .inl ⟨k,?_⟩
     have:y≠x:=fun e=>hj (u4 hN e1 (e▸hi))
     simp [this,e]
    ·exact .inr ⟨k,c,e,z.sameBut hs (D0 y c e)⟩
  ·obtain⟨w',z⟩:=I.cell y c e
   exact⟨w',z.sameBut hs (D0 y c e)⟩
  ·obtain⟨e,n,ne,nf,d⟩:=I.pin p hp
   exact⟨(hs.2 p.1 ne).trans e,n,ne,nf,d⟩
 ·have hfn:X.fn x=true:=by
   rcases hf with z | z
   ·exact z
   ·rw [z] at hk;cases hk
  obtain⟨c,hc⟩:=I.ok.has x (.inl hk)
  obtain⟨w',z⟩:=I.cell x c hc
  refine wpAny_storeName_cell I.ok.kind hk hc z (fun h' hc' hs=>?_)
  obtain⟨oc,hoc,hocd⟩:=id z
  refine h { s with heap:=h' } ⟨I.ok,I.os,I.bare,⟨fun b o e n hb hx=>?_,fun b o e n hb hx=>?_,I.base.free,fun b o e hx=>?_,I.base.tups,I.base.frzs,I.base.tbls⟩,⟨m,hn.sameBut hs (Ne.symm (D0 x c hc)),fun j y v' e1 e2 e3=>?_⟩,fun y c' e=>?_,I.free,I.freeC,fun p hp=>?_,tracked ⟨oc,hoc,I.freeC x c hc⟩ hs,by simpa using I.len⟩ ⟨c,hs,.inr hc⟩
  ·exact (hs.2 b (Nat.ne_of_lt (Nat.lt_of_lt_of_le (Heap.lt_size e) (I.ok.cab x c hfn hc)))).trans (I.base.keep b o e n hb hx)
  ·obtain⟨sl,e1⟩:=I.base.slot b o e n hb hx
   exact⟨sl,(hs.2 b (Nat.ne_of_lt (Nat.lt_of_lt_of_le (Heap.lt_size e) (I.ok.cab x c hfn hc)))).trans e1⟩
  ·obtain⟨o',e1⟩:=I.base.there b o e hx
   exact⟨o',(hs.2 b (Nat.ne_of_lt (Nat.lt_of_lt_of_le (Heap.lt_size e) (I.ok.cab x c hfn hc)))).trans e1⟩
  ·by_cases hj:j=i
   ·subst hj
    rw [hi] at e1;cases e1
    rw [List.getElem?_set_self hiσ] at e2
    cases e2
    exact⟨u,r,.inr ⟨.inl hk,c,hc,hc'⟩⟩
   ·rw [List.getElem?_set_ne (Ne.symm hj)] at e2
    obtain⟨u',r',q⟩:=hl j y v' e1 e2 e3
    refine⟨u',r',?_⟩
    rcases q with q | ⟨k,c',e,z'⟩
    ·exact .inl q
    ·refine .inr ⟨k,c',e,z'.sameBut hs ?_⟩
     rintro rfl
     exact hj (u4 hN e1 (I.ok.inj _ _ _ e hc▸hi))
  ·by_cases hcc:c'=c
   ·subst hcc;exact⟨_,hc'⟩
   ·obtain⟨w2,z2⟩:=I.cell y c' e
    exact⟨w2,z2.sameBut hs hcc⟩
  ·obtain⟨e,n,ne,nf,d⟩:=I.pin p hp
   refine⟨(hs.2 p.1 ?_).trans e,n,ne,nf,d⟩
   intro q
   rw [q,hoc] at e
   have q':oc=p.2:=Option.some.inj e
   exact d w' (by rw [← q'];exact hocd)
theorem lq {M:Model} {A:Around} {E:Value→Shared→Prop} {i:Nat} {x:Str} {v:V} {u:Value} {Q:Unit→Shared→Prop} (I:Inv X pins σ H s) (hN:X.N.Nodup) (hi:X.N[i]?=some x) (hx:Loc X.env.scope x) (r:RelV v u)
  (h:∀s',Inv X pins (σ.set i (some v)) H s'→Q () s') (hf:X.fn x=true∨X.env.scope.names.lookup x=some .local:=by first | exact .inl rfl | exact .inr rfl | assumption):wpAny M A (storeName X.env x u) Q E s :=
 qZ I hN hi hx r (fun s' I' _=>h s' I') hf
theorem Inv.Bn {s':Shared} {ch:List Addr} (I:Inv X pins σ H s) (ho:s'.os=s.os) (u:Un (nA X.stack) ch H H' s.heap s'.heap) (hok:jO X.prog X.w H' s'.heap) (hg:AllBare s'.gens)
  (hch:∀b∈ch,(b∈X.ex∨X.s₀.heap.objs.size≤b)∧b≠X.env.locals∧(∀x c,X.env.cells.lookup x=some c→c≠b)∧∀p∈X.pn ++ pins,p.1≠b):Inv X pins σ H' s':=by
 obtain⟨h',g',d',t',o'⟩:=s'
 have e:o'=s.os:=ho
 subst e
 exact I.call (g':=g') (t':=t') (d':=d') u hok hg hch
end
abbrev XK:=Value→Option Addr→Hp→Prop
abbrev St:=List (Option V)
abbrev VK:=V→Hp→Prop
abbrev TE:=St→Hp→VK→Prop
abbrev TT:=St→Hp→(Bool→Hp→Prop)→Prop
abbrev TA:=St→Hp→(List V→Hp→Prop)→Prop
structure Ends where
 nx:St→Hp→Prop
 rt:VK
 bk:St→Hp→Prop:=fun _ _=>False
 ct:St→Hp→Prop:=fun _ _=>False
abbrev TS:=Ends→St→Hp→Prop
def EP (X:Cx) (pins:List (Addr×Obj)) (σ:St) (Q:VK) (u:Value) (s':Shared):Prop:=∃v H',Inv X pins σ H' s'∧RelV v u∧Q v H'
def TP (X:Cx) (pins:List (Addr×Obj)) (σ:St) (Q:Bool→Hp→Prop) (b:Bool) (s':Shared):Prop:=∃H',Inv X pins σ H' s'∧Q b H'
def AP (X:Cx) (pins:List (Addr×Obj)) (σ:St) (Q:List V→Hp→Prop) (us:List Value) (s':Shared):Prop:=∃vs H',Inv X pins σ H' s'∧Vals vs us∧Q vs H'
def SP (X:Cx) (pins:List (Addr×Obj)) (D:Ends) (f:Flow) (s':Shared):Prop :=
 match f with
 | .next=>∃σ' H',Inv X pins σ' H' s'∧D.nx σ' H'
 | .brk=>∃σ' H',Inv X pins σ' H' s'∧D.bk σ' H'
 | .cont=>∃σ' H',Inv X pins σ' H' s'∧D.ct σ' H'
 | .ret u=>∃v σ' H',Inv X pins σ' H' s'∧RelV v u∧D.rt v H'
def PE (X:Cx) (e:Expr) (t:TE):Prop :=
 ∀(pins:List (Addr×Obj)) (s:Shared) (σ:St) (H:Hp) (Q:VK),Inv X pins σ H s→t σ H Q→wpAny (model X.prog X.w) X.A (eval e X.env) (EP X pins σ Q) X.xe s
def PT (X:Cx) (e:Expr) (t:TT):Prop :=
 ∀(pins:List (Addr×Obj)) (s:Shared) (σ:St) (H:Hp) (Q:Bool→Hp→Prop),Inv X pins σ H s→t σ H Q→wpAny (model X.prog X.w) X.A (isTrue e X.env (eval e X.env)) (TP X pins σ Q) X.xe s
def PW (X:Cx) (e:Expr) (t:TT):Prop :=
 ∀(whole:Sem Value) (pins:List (Addr×Obj)) (s:Shared) (σ:St) (H:Hp) (Q:Bool→Hp→Prop),Inv X pins σ H s→t σ H Q→wpAny (model X.prog X.w) X.A (isTrue e X.env whole) (TP X pins σ Q) X.xe s
def PA (X:Cx) (es:List Expr) (t:TA):Prop :=
 ∀(pos:Pos) (pins:List (Addr×Obj)) (s:Shared) (σ:St) (H:Hp) (Q:List V→Hp→Prop),Inv X pins σ H s→t σ H Q→wpAny (model X.prog X.w) X.A (spliced (backTo pos (starEach es X.env))) (AP X pins σ Q) X.xe s
def PS (X:Cx) (st:Stmt) (t:TS):Prop :=
 ∀(pins:List (Addr×Obj)) (s:Shared) (σ:St) (H:Hp) (D:Ends),Inv X pins σ H s→t D σ H→wpAny (model X.prog X.w) X.A (exec st X.env) (SP X pins D) X.xe s
def vc (X:Cx) (st:List Stmt) (t:TS):Prop :=
 ∀(pins:List (Addr×Obj)) (s:Shared) (σ:St) (H:Hp) (D:Ends),Inv X pins σ H s→t D σ H→wpAny (model X.prog X.w) X.A (execs st X.env) (SP X pins D) X.xe s
theorem bP {α:Type} {t:Sem α} {Q Q':α→Shared→Prop} {M:Model} {A:Around} {E:Value→Shared→Prop} {s:Shared} (h:wpAny M A t Q E s) (hQ:∀a s,Q a s→Q' a s):wpAny M A t Q' E s:=wpAny_mono h hQ fun _ _ x=>x
end L2
namespace L2
open PySem PySem.Spec PyProof.Rows
section
variable {X:Cx}
def IT (i:Nat):TE:=fun σ H Q=>∃v,σ[i]?=some (some v)∧Q v H
def tC (v:V):TE:=fun _ H Q=>Q v H
theorem eF {i:Nat} {x:Str} {pos:Pos} (hN:X.N[i]?=some x) (hv:xS X.env.scope x) (hd:(x == ("__debug__" : Str))=false:=by decide) (hcd:(x == ("__classdict__" : Str))=false:=by decide):PE X (.Name x pos) (IT i):=by
 intro pins s σ H Q I h
 obtain⟨v,e,h⟩:=h
 obtain⟨m,hn,hl⟩:=I.loc
 obtain⟨u,r,l⟩:=hl i x v hN e hv
 have fin:EP X pins σ Q u s:=⟨v,H,I,r,h⟩
 rcases l with ⟨hk,hm⟩ | ⟨hk,c,hc,hcell⟩
 ·exact wpAny_Name (wpAny_loadName_local I.ok.kind hk hn hm fin) hd
 ·rcases hk with hk | hk
  ·exact wpAny_Name (wpAny_loadName_cell I.ok.kind hk hc hcell fin) hd
  ·exact wpAny_Name (wpAny_loadName_free I.ok.kind hk hc hcell fin hcd) hd
theorem w4 {i j pos}:PE X (.Constant (.int i) j pos) (tC (.int i)):=fun _ _ _ H _ I h=>wpAny_Constant_int ⟨.int i,H,I.tok _,⟨_,rfl⟩,h⟩
theorem Hh {b j pos}:PE X (.Constant (.bool b) j pos) (tC (.bl b)):=fun _ _ _ H _ I h=>Constant_bool ⟨.bl b,H,I,rfl,h⟩
theorem FG {j pos}:PE X (.Constant .none j pos) (tC .non):=fun _ _ _ H _ I h=>Constant_none ⟨.non,H,I,rfl,h⟩
theorem A4 {x j pos}:PE X (.Constant (.str x) j pos) (tC (.str x)):=fun _ _ _ H _ I h=>Calls.Constant_str ⟨.str x,H,I.tok _,⟨_,rfl⟩,h⟩
def Gl (X:Cx) (x:Str):Prop:=X.env.kindOf x=some .globalImplicit
theorem hV {E:Value→Shared→Prop} {pins:List (Addr×Obj)} {s:Shared} {σ:St} {H:Hp} {x:Str} {u:Value} {pos:Pos} {Q:Value→Shared→Prop} (I:Inv X pins σ H s) (hg:Gl X x) (hm:X.mg x=some u) (h:Q u s)
  (hd:(x == ("__debug__" : Str))=false:=by decide):wpAny (model X.prog X.w) X.A (eval (.Name x pos) X.env) Q E s :=
 Calls.Name_function_global I.ok.kind hg (Calls.loadGlobal_global (by rw [I.ok.glob];exact I.mod.glob.keeps I.bk) hm h) hd
theorem jZ {E:Value→Shared→Prop} {pins:List (Addr×Obj)} {s:Shared} {σ:St} {H:Hp} {x:Str} {u:Value} {pos:Pos} {Q:Value→Shared→Prop} (I:Inv X pins σ H s) (hg:Gl X x) (hm:X.mg x=none) (hv:bootBuiltins x=some u) (h:Q u s)
  (hn:x≠"__name__":=by decide) (hd:(x == ("__debug__" : Str))=false:=by decide):wpAny (model X.prog X.w) X.A (eval (.Name x pos) X.env) Q E s:=by
 obtain⟨mb,h1,h2⟩:=I.mod.blt
 exact Calls.Name_function_global I.ok.kind hg (Calls.loadGlobal_builtin (by rw [I.ok.glob];exact I.mod.glob.keeps I.bk) hm (by rw [I.ok.blt];exact h1.keeps I.bk) ((h2 x hn).trans hv) h) hd
theorem Dd {x:Str} {v:V} {u:Value} {pos:Pos} (hg:Gl X x) (hm:X.mg x=none) (hv:bootBuiltins x=some u) (r:RelV v u) (hn:x≠"__name__":=by decide) (hd:(x == ("__debug__" : Str))=false:=by decide):PE X (.Name x pos) (tC v) :=
 fun _ _ _ H _ I h=>jZ I hg hm hv ⟨v,H,I,r,h⟩ hn hd
variable {a b:Expr} {ta tb:TE} {pos:Pos}
def tB (t:TE):TT:=fun σ H Q=>t σ H fun x H1=>∃c,x=.bl c∧Q c H1
theorem E8 {e:Expr} {t:TE} (h:PE X e t) (he:∀whole,isTrue e X.env whole=(do let v ← whole;standAt e.pos;holding [v] (truthy v)):=by intro _;rfl):PT X e (tB t):=by
 intro pins s σ H Q I hw
 refine isTrue_plain (bP (h pins s σ H _ I hw) fun v s1 ⟨x,H1,I1,r1,q1⟩=>?_) (he _)
 obtain⟨d,rfl,q⟩:=q1
 cases r1
 exact wpAny_truthy_bool ⟨H1,I1,q⟩
variable {tA tB':TT} {rest:List Expr}
def Jp (t u:TT):TT:=fun σ H Q=>t σ H fun c H1=>if c=true then u σ H1 Q else Q false H1
def J6 (t u:TT):TT:=fun σ H Q=>t σ H fun c H1=>if c=true then Q true H1 else u σ H1 Q
def JE (t:TT):TT:=fun σ H Q=>t σ H fun c H1=>Q (!c) H1
theorem CP (ha:PT X a tA):PW X (.BoolOp .And [a] pos) tA:=by
 intro wh pins s σ H Q I h
 refine isTrue_and (bP (ha pins s σ H Q I h) fun c s1 e=>?_)
 cases c with
 | true=>exact isTrue_and_nil e
 | false=>exact e
theorem FN (ha:PT X a tA):PW X (.BoolOp .Or [a] pos) tA:=by
 intro wh pins s σ H Q I h
 refine isTrue_or (bP (ha pins s σ H Q I h) fun c s1 e=>?_)
 cases c with
 | false=>exact isTrue_or_nil e
 | true=>exact e
theorem Fq (ha:PT X a tA) (hb:PW X (.BoolOp .And (b :: rest) pos) tB'):PW X (.BoolOp .And (a :: b :: rest) pos) (Jp tA tB'):=by
 intro wh pins s σ H Q I h
 refine isTrue_and (bP (ha pins s σ H _ I h) fun c s1 ⟨H1,I1,q1⟩=>?_)
 cases c with
 | true=>exact hb wh pins s1 σ H1 Q I1 q1
 | false=>exact⟨H1,I1,q1⟩
theorem HR (ha:PT X a tA) (hb:PW X (.BoolOp .Or (b :: rest) pos) tB'):PW X (.BoolOp .Or (a :: b :: rest) pos) (J6 tA tB'):=by
 intro wh pins s σ H Q I h
 refine isTrue_or (bP (ha pins s σ H _ I h) fun c s1 ⟨H1,I1,q1⟩=>?_)
 cases c with
 | true=>exact⟨H1,I1,q1⟩
 | false=>exact hb wh pins s1 σ H1 Q I1 q1
theorem Fu (ha:PT X a tA):PT X (.UnaryOp .Not a pos) (JE tA):=by
 intro pins s σ H Q I h
 exact isTrue_not (ha pins s σ H (fun c H1=>Q (!c) H1) I h)
def Ia (ta tb:TE):TE:=fun σ H Q=>ta σ H fun x H1=>∃c,x=.bl c∧if c=true then tb σ H1 Q else Q (.bl false) H1
def Js (ta tb:TE):TE:=fun σ H Q=>ta σ H fun x H1=>∃c,x=.bl c∧if c=true then Q (.bl true) H1 else tb σ H1 Q
def Hd (ta:TE):TE:=fun σ H Q=>ta σ H fun x H1=>∃c,x=.bl c∧Q (.bl (!c)) H1
theorem Fv {op} {t:TE} (h:PE X a t):PE X (.BoolOp op [a] pos) t:=fun pins s σ H Q I hw=>BoolOp_one (h pins s σ H Q I hw)
theorem Ey (ha:PE X a ta) (hb:PE X (.BoolOp .And (b :: rest) pos) tb):PE X (.BoolOp .And (a :: b :: rest) pos) (Ia ta tb):=by
 intro pins s σ H Q I h
 refine BoolOp_and (bP (ha pins s σ H _ I h) fun v s1 ⟨x,H1,I1,r1,q1⟩=>?_)
 obtain⟨c,rfl,q1⟩:=q1
 cases r1
 refine wpAny_truthy_bool ?_
 cases c with
 | true=>exact hb pins s1 σ H1 Q I1 q1
 | false=>exact⟨.bl false,H1,I1,rfl,q1⟩
theorem Hv (ha:PE X a ta) (hb:PE X (.BoolOp .Or (b :: rest) pos) tb):PE X (.BoolOp .Or (a :: b :: rest) pos) (Js ta tb):=by
 intro pins s σ H Q I h
 refine BoolOp_or (bP (ha pins s σ H _ I h) fun v s1 ⟨x,H1,I1,r1,q1⟩=>?_)
 obtain⟨c,rfl,q1⟩:=q1
 cases r1
 refine wpAny_truthy_bool ?_
 cases c with
 | false=>exact hb pins s1 σ H1 Q I1 q1
 | true=>exact⟨.bl true,H1,I1,rfl,q1⟩
theorem Gm (ha:PE X a ta):PE X (.UnaryOp .Not a pos) (Hd ta):=by
 intro pins s σ H Q I h
 refine UnaryOp_ (bP (ha pins s σ H _ I h) fun v s1 ⟨x,H1,I1,r1,q1⟩=>?_)
 obtain⟨c,rfl,q1⟩:=q1
 cases r1
 exact not_of (wpAny_truthy_bool ⟨.bl (!c),H1,I1,rfl,q1⟩)
def JZ (t:TT) (ta tb:TE):TE:=fun σ H Q=>t σ H fun c H1=>if c=true then ta σ H1 Q else tb σ H1 Q
theorem BE {c:Expr} (hc:PT X c tA) (ha:PE X a ta) (hb:PE X b tb):PE X (.IfExp c a b pos) (JZ tA ta tb):=by
 intro pins s σ H Q I h
 refine wpAny_IfExp (bP (hc pins s σ H _ I h) fun d s1 ⟨H1,I1,q1⟩=>?_)
 cases d with
 | true=>exact ha pins s1 σ H1 Q I1 q1
 | false=>exact hb pins s1 σ H1 Q I1 q1
end
end L2
namespace L2
open PySem PySem.Spec PyProof.Rows
def fz (K:PySem.W.Frag) (H:Hp) (a:Addr) (xs:List V):Prop :=
 Rd H a (.lst xs) ∨
  ∃(o:Obj) (its:Array Value) (n:Nat),K.lookup a=some o∧o.cls=.type "list"∧o.dict=none∧o.data=.seq its n∧its.size≤sizeLine∧Vals xs its.toList
def iy (K:PySem.W.Frag) (H:Hp) (a:Addr) (xs:List V):Prop :=
 Rd H a (.tup xs) ∨
  ∃(o:Obj) (its:Array Value) (n:Nat),K.lookup a=some o∧o.cls=.type "tuple"∧o.data=.seq its n∧its.size≤sizeLine∧Vals xs its.toList∧o.dict=none
def Jf:Value→Option V
 | .none=>some .non
 | .bool b=>some (.bl b)
 | .int i _=>some (.int i)
 | .str x _=>some (.str x)
 | .bytes b _=>some (.byt b)
 | .float b _=>some (.flt b)
 | .ref a=>some (.ref a)
 | .type n=>some (.ty n)
 | _=>none
theorem RelV.abs {x:V} {u:Value} (r:RelV x u):Jf u=some x:=by
 cases x with
 | non=>cases r;rfl
 | bl _=>cases r;rfl
 | int _=>obtain⟨t,rfl⟩:=r;rfl
 | str _=>obtain⟨t,rfl⟩:=r;rfl
 | byt _=>obtain⟨t,rfl⟩:=r;rfl
 | flt _=>obtain⟨t,rfl⟩:=r;rfl
 | ref _=>cases r;rfl
 | ty _=>cases r;rfl
theorem RelV.inj {x y:V} {u:Value} (r:RelV x u) (q:RelV y u):x=y:=Option.some.inj (r.abs.symm.trans q.abs)
theorem Vals.inj:∀{xs ys:List V} {us:List Value},Vals xs us→Vals ys us→xs=ys
 | _,_,_,.nil,.nil=>rfl
 | _,_,_,.cons r t,.cons r' t'=>by rw [r.inj r',Vals.inj t t']
section
variable {X:Cx} {pins:List (Addr×Obj)} {σ:St} {H:Hp} {s:Shared} {a:Addr} {xs ys:List V}
theorem fz.of {K:PySem.W.Frag} (h:H a=some (.lst xs)):fz K H a xs:=.inl (.inl h)
theorem iy.of {K:PySem.W.Frag} (h:H a=some (.tup xs)):iy K H a xs:=.inl (.inl h)
theorem Inv.list (I:Inv X pins σ H s) (h:fz X.K H a xs):∃its:List Value,Vals xs its∧PlainL s.heap a its.toArray∧xs.length≤sizeLine:=by
 rcases h with h | ⟨o,its,n,hk,hc,hd,hs,hz,r⟩
 ·obtain⟨z,its,n,r,e⟩:=h.ok I.hok
  exact⟨its,r,⟨_,n,e,rfl,rfl,rfl⟩,z⟩
 ·refine⟨its.toList,r,⟨o,n,I.qR a o hk,hc,hd,by simpa using hs⟩,?_⟩
  have e:=r.length
  simp only [Array.length_toList] at e
  omega
theorem Inv.tuple (I:Inv X pins σ H s) (h:iy X.K H a xs):∃its:List Value,Vals xs its∧IsTup s.heap a its.toArray∧xs.length≤sizeLine:=by
 rcases h with h | ⟨o,its,n,hk,hc,hs,hz,r,_⟩
 ·obtain⟨z,its,r,p⟩:=h.ok I.hok
  exact⟨its,r,p.tup,z⟩
 ·refine⟨its.toList,r,⟨o,I.qR a o hk,hc,n,by simpa using hs⟩,?_⟩
  have e:=r.length
  simp only [Array.length_toList] at e
  omega
theorem Inv.oG (I:Inv X pins σ H s) (h:fz X.K H a xs) (h':fz X.K H a ys):xs=ys:=by
 obtain⟨its,r,⟨o,n,e,_,_,d⟩,_⟩:=I.list h
 obtain⟨its',r',⟨o',n',e',_,_,d'⟩,_⟩:=I.list h'
 rw [e] at e';cases e'
 rw [d] at d'
 injection d' with d1 _
 have:its=its':=by simpa using congrArg Array.toList d1
 subst this
 exact r.inj r'
theorem Inv.md (I:Inv X pins σ H s) (h:iy X.K H a xs) (h':iy X.K H a ys):xs=ys:=by
 obtain⟨its,r,⟨o,e,_,n,d⟩,_⟩:=I.tuple h
 obtain⟨its',r',⟨o',e',_,n',d'⟩,_⟩:=I.tuple h'
 rw [e] at e';cases e'
 rw [d] at d'
 injection d' with d1 _
 have:its=its':=by simpa using congrArg Array.toList d1
 subst this
 exact r.inj r'
end
abbrev Cx.cv (X:Cx) (E:Value→Shared→Prop):Cx:={ X with xe:=E }
abbrev Cx.nF (X:Cx):Cx:=X.cv fun _ _=>False
theorem Cx.Ok.cv {X:Cx} (ok:X.Ok) (E:Value→Shared→Prop):(X.cv E).Ok :=
 ⟨ok.mod,ok.kind,ok.glob,ok.blt,ok.above,ok.inj,ok.has,ok.cab,ok.hd,ok.frames,ok.stk,ok.exf,ok.bs,ok.bsz,ok.noex,ok.exfs,ok.kj,ok.frf⟩
theorem Cx.Ok.bj {X:Cx} {E:Value→Shared→Prop} (ok:(X.cv E).Ok):X.Ok :=
 ⟨ok.mod,ok.kind,ok.glob,ok.blt,ok.above,ok.inj,ok.has,ok.cab,ok.hd,ok.frames,ok.stk,ok.exf,ok.bs,ok.bsz,ok.noex,ok.exfs,ok.kj,ok.frf⟩
section
variable {X:Cx} {pins:List (Addr×Obj)} {σ:St} {H:Hp} {s:Shared} {E:Value→Shared→Prop}
theorem Inv.cv (I:Inv X pins σ H s) (E:Value→Shared→Prop):Inv (X.cv E) pins σ H s:=⟨I.ok.cv E,I.os,I.bare,I.base,I.loc,I.cell,I.free,I.freeC,I.pin,I.hok,I.len⟩
theorem Inv.bj (I:Inv (X.cv E) pins σ H s):Inv X pins σ H s:=⟨I.ok.bj,I.os,I.bare,I.base,I.loc,I.cell,I.free,I.freeC,I.pin,I.hok,I.len⟩
theorem SP.bj {D:Ends} {f:Flow} {s':Shared} (h:SP (X.cv E) pins D f s'):SP X pins D f s':=by
 cases f with
 | next=>obtain⟨σ',H',I,q⟩:=h;exact⟨σ',H',I.bj,q⟩
 | brk=>obtain⟨σ',H',I,q⟩:=h;exact⟨σ',H',I.bj,q⟩
 | cont=>obtain⟨σ',H',I,q⟩:=h;exact⟨σ',H',I.bj,q⟩
 | ret u=>obtain⟨v,σ',H',I,r,q⟩:=h;exact⟨v,σ',H',I.bj,r,q⟩
theorem vc.nF {st:List Stmt} {t:TS} (h:vc X.nF st t):vc X st t:=fun pins s σ H D I hw =>
 wpAny_mono (h pins s σ H D (I.cv _) hw) (fun _ _ q=>q.bj) fun _ _ z=>False.elim z
end
section
variable {X:Cx} {st:Stmt} {rest:List Stmt} {t u:TS} {e:Expr} {te:TE} {pos:Pos}
def Hj:TS:=fun D σ H=>D.nx σ H
def JF (t u:TS):TS:=fun D σ H=>t { D with nx:=u D } σ H
theorem Dv:vc X [] Hj:=fun _ _ σ H _ I h=>wpAny_execs_nil ⟨σ,H,I,h⟩
theorem uH (h1:PS X st t) (h2:vc X rest u):vc X (st :: rest) (JF t u):=by
 intro pins s σ H D I h
 refine wpAny_execs_cons (bP (h1 pins s σ H { D with nx:=u D } I h) fun f s1 q=>?_)
 cases f with
 | next =>
  obtain⟨σ',H',I',q⟩:=q
  exact h2 pins s1 σ' H' D I' q
 | ret v=>exact q
 | brk=>exact q
 | cont=>exact q
theorem si (h1:PS X st t):vc X [st] t:=by
 intro pins s σ H D I h
 refine wpAny_execs_cons (bP (h1 pins s σ H D I h) fun f s1 q=>?_)
 cases f with
 | next=>exact wpAny_execs_nil q
 | ret v=>exact q
 | brk=>exact q
 | cont=>exact q
def Fz:TS:=fun D σ H=>D.bk σ H
theorem Bf:PS X (.Break pos) Fz:=fun _ _ σ H _ I h=>wpAny_Break ⟨σ,H,I,h⟩
theorem Inv.quiet {pins:List (Addr×Obj)} {σ:St} {H:Hp} {s:Shared} (I:Inv X pins σ H s):interactive X.env=false:=by simp [interactive,I.ok.kind]
def HL (te:TE):TS:=fun D σ H=>te σ H fun _ H1=>D.nx σ H1
theorem sA (he:PE X e te) (hs:swapsWith e none pos.line X.env=pure false:=by rfl):PS X (.Expr e pos) (HL te):=by
 intro pins s σ H D I h
 exact wpAny_Expr_any (bP (he pins s σ H _ I h) fun v s1 ⟨x,H1,I1,r1,q1⟩=>⟨σ,H1,I1,q1⟩) I.quiet hs
def Jo (te:TE):TS:=fun D σ H=>te σ H D.rt
theorem xA (he:PE X e te):PS X (.Return (some e) pos) (Jo te):=by
 intro pins s σ H D I h
 exact wpAny_Return_some (bP (he pins s σ H _ I h) fun v s1 ⟨x,H1,I1,r1,q1⟩=>⟨x,σ,H1,I1,r1,q1⟩)
def Jr (c:TT) (t u:TS):TS:=fun D σ H=>c σ H fun b H1=>if b=true then t D σ H1 else u D σ H1
theorem Ed {c:Expr} {a b:List Stmt} {tc:TT} (hc:PT X c tc) (ha:vc X a t) (hb:vc X b u):PS X (.If c a b pos) (Jr tc t u):=by
 intro pins s σ H D I h
 refine wpAny_If (bP (hc pins s σ H _ I h) fun d s1 ⟨H1,I1,q1⟩=>?_)
 cases d with
 | true=>exact ha pins s1 σ H1 D I1 q1
 | false=>exact hb pins s1 σ H1 D I1 q1
end
abbrev TG:=V→St→Hp→(St→Hp→Prop)→Prop
abbrev Ct:=List V→St→Hp→(St→Hp→Prop)→Prop
def PG (X:Cx) (target:Expr) (t:TG):Prop :=
 ∀(pins:List (Addr×Obj)) (s:Shared) (σ:St) (H:Hp) (v:V) (u:Value) (Q:St→Hp→Prop),Inv X pins σ H s→RelV v u→t v σ H Q →
  wpAny (model X.prog X.w) X.A (assign target X.env u) (fun _ s'=>∃σ' H',Inv X pins σ' H' s'∧Q σ' H') X.xe s
def GO (X:Cx) (ts:List Expr) (t:Ct):Prop :=
 ∀(pins:List (Addr×Obj)) (s:Shared) (σ:St) (H:Hp) (vs:List V) (us:List Value) (Q:St→Hp→Prop),Inv X pins σ H s→Vals vs us→t vs σ H Q →
  wpAny (model X.prog X.w) X.A (assignInOrder ((assignEach ts X.env).map (·.2)) us) (fun _ s'=>∃σ' H',Inv X pins σ' H' s'∧Q σ' H') X.xe s
abbrev Gq:=V→V→V→Hp→(Hp→Prop)→Prop
def EY (X:Cx) (t:Gq):Prop :=
 ∀(pins:List (Addr×Obj)) (s:Shared) (σ:St) (H:Hp) (o i v:V) (ov iv u:Value) (Q:Hp→Prop),Inv X pins σ H s→RelV o ov→RelV i iv→RelV v u→t o i v H Q →
  wpAny (model X.prog X.w) X.A (setItem ov iv u) (fun _ s'=>∃H',Inv X pins σ H' s'∧Q H') X.xe s
section
variable {X:Cx} {pos:Pos}
def Ef (i:Nat):TG:=fun v σ H Q=>Q (σ.set i (some v)) H
theorem CL {i:Nat} {x:Str} (hN:X.N.Nodup) (hi:X.N[i]?=some x) (hx:Loc X.env.scope x) (hf:X.fn x=true∨X.env.scope.names.lookup x=some .local:=by first | exact .inl rfl | exact .inr rfl | assumption):PG X (.Name x pos) (Ef i):=by
 intro pins s σ H v u Q I r h
 exact wpAny_assign_Name (lq I hN hi hx r (fun s' I'=>⟨_,H,I',h⟩) hf)
def Jh:Ct:=fun vs σ H Q=>vs=[]∧Q σ H
def HP (t:TG) (u:Ct):Ct:=fun vs σ H Q=>∃v r,vs=v :: r∧t v σ H fun σ' H'=>u r σ' H' Q
theorem Dc:GO X [] Jh:=by
 intro pins s σ H vs us Q I r h
 obtain⟨e,h⟩:=h
 subst e
 cases r
 exact assignInOrder_nil ⟨σ,H,I,h⟩
theorem BJ {e:Expr} {es:List Expr} {t:TG} {u:Ct} (h1:PG X e t) (h2:GO X es u)
  (hs:(assignEach (e :: es) X.env).map (·.2)=assign e X.env :: (assignEach es X.env).map (·.2):=by rfl):GO X (e :: es) (HP t u):=by
 intro pins s σ H vs us Q I r h
 obtain⟨v,vr,e1,h⟩:=h
 subst e1
 cases r with
 | cons r rr =>
  rw [hs]
  refine assignInOrder_cons (bP (h1 pins s σ H _ _ _ I r h) fun _ s1 ⟨σ1,H1,I1,q1⟩=>?_)
  exact h2 pins s1 σ1 H1 _ _ Q I1 rr q1
def Jg (K:PySem.W.Frag) (n:Nat) (t:Ct):TG:=fun v σ H Q=>∃a xs,v=.ref a∧iy K H a xs∧xs.length=n∧t xs σ H Q
theorem FJ {es:List Expr} {k:Nat} {t:Ct} {n:Nat} (hc:X.calm=true) (h:GO X es t)
  (hn:(assignEach es X.env).length=n:=by rfl) (hst:(assignEach es X.env).findIdx? (·.1)=none:=by rfl):PG X (.Tuple es k pos) (Jg X.K n t):=by
 intro pins s σ H v u Q I r hw
 obtain⟨a,xs,e1,hq,hl,hw⟩:=hw
 subst e1
 cases r
 obtain⟨its,rv,ht,hz⟩:=I.tuple hq
 refine assign_Tuple_tuple (I.ok.hd hc) ht (by simp [hn,← hl,rv.length]) hst fun h' hx=>?_
 have I1:Inv X pins σ H { s with heap:=h' }:=I.kept (t':=s.toks) fun b o e=>hx b o (Nat.ne_of_lt (Heap.lt_size e)) e
 exact h pins _ σ H xs _ Q I1 (by simpa using rv) hw
def JJ (to ti:TE) (t:Gq):TG:=fun v σ H Q=>to σ H fun o H1=>ti σ H1 fun i H2=>t o i v H2 fun H3=>Q σ H3
theorem Av {o i:Expr} {to ti:TE} {t:Gq} (ho:PE X o to) (hi:PE X i ti) (hs:EY X t)
  (ha:∀v,assign (.Subscript o i pos) X.env v=(do
   let ov ← holding [v] (eval o X.env)
   let iv ← holding [v,ov] (eval i X.env)
   standAt pos
   holding [v,ov,iv] (setItem ov iv v)
   release [v,ov,iv] []):=by intro _;rfl):PG X (.Subscript o i pos) (JJ to ti t):=by
 intro pins s σ H v u Q I r h
 rw [ha]
 refine wpAny_bind (wpAny_holding (bP (ho pins s σ H _ I h) fun ov s1 ⟨x,H1,I1,r1,q1⟩=>?_))
 refine wpAny_bind (wpAny_holding (bP (hi pins s1 σ H1 _ I1 q1) fun iv s2 ⟨y,H2,I2,r2,q2⟩=>?_))
 refine wpAny_bind (wpAny_standAt (wpAny_bind (wpAny_holding (bP (hs pins s2 σ H2 x y v ov iv u _ I2 r1 r2 r q2) fun _ s3 ⟨H3,I3,q3⟩=>?_))))
 exact wpAny_release ⟨σ,H3,I3,q3⟩
def HZ (te:TE) (g:TG):TS:=fun D σ H=>te σ H fun x H1=>g x σ H1 D.nx
theorem wb {tg e:Expr} {te:TE} {g:TG} (he:PE X e te) (hg:PG X tg g) (hs:swapsWithSole [tg] e pos.line X.env=pure false:=by rfl) (hw:swappedStores [tg] e X.env=pure none:=by rfl)
  (h1:(assignEach [tg] X.env).map (·.2)=[assign tg X.env]:=by rfl):PS X (.Assign [tg] e pos) (HZ te g):=by
 intro pins s σ H D I h
 refine wpAny_Assign_stores (bP (he pins s σ H _ I h) fun v s1 ⟨x,H1,I1,r1,q1⟩=>?_) hs hw
 rw [h1]
 exact bP (hg pins s1 σ H1 x v _ I1 r1 q1) fun _ s2 q=>q
theorem tY {i:Nat} {x:Str} {e:Expr} {te:TE} {pos':Pos} (hN:X.N.Nodup) (hi:X.N[i]?=some x) (hx:Loc X.env.scope x) (he:PE X e te) (hs:swapsWith e (some (.Name x pos')) pos.line X.env=pure false:=by rfl) (hf:X.fn x=true∨X.env.scope.names.lookup x=some .local:=by first | exact .inl rfl | exact .inr rfl | assumption) :
  PS X (.Assign [.Name x pos'] e pos) (HZ te (Ef i)):=by
 intro pins s σ H D I h
 refine wpAny_Assign_Name (bP (he pins s σ H _ I h) fun v s1 ⟨y,H1,I1,r1,q1⟩=>?_) hs
 exact lq I1 hN hi hx r1 (fun s2 I2=>⟨_,H1,I2,q1⟩) hf
end
section
variable {X:Cx} {pos:Pos}
def Gp (c:TT) (tb:TS):TS:=fun D σ H=>∃W:Nat→St→Hp→Prop,(∃m,W m σ H)∧∀m σ H,W m σ H →
 c σ H fun b H1=>if b=true then ∃N:St→Hp→Prop,(∀σ' H',N σ' H'→∃m',m' < m∧W m' σ' H')∧tb { D with nx:=N,ct:=N,bk:=D.nx } σ H1 else D.nx σ H1
theorem vR {c:Expr} {body:List Stmt} {tc:TT} {tb:TS} (hp:PassesOwn (model X.prog X.w) X.A X.env X.xe) (hc:PT X c tc) (hb:vc X body tb):PS X (.While c body [] pos) (Gp tc tb):=by
 intro pins s σ H D I h
 obtain⟨W,⟨m0,w0⟩,turn⟩:=h
 refine wpAny_While (codeAny_whileLoop (fun n s'=>∃σ' H',Inv X pins σ' H' s'∧W n σ' H') ?_ m0 ⟨σ,H,I,w0⟩)
 rintro n s1 ⟨σ1,H1,I1,w1⟩
 refine wpAny_passesOwn hp (bP (hc pins s1 σ1 H1 _ I1 (turn n σ1 H1 w1)) fun b s2 ⟨H2,I2,q2⟩=>?_)
 cases b with
 | true =>
  obtain⟨N,hN,q2⟩:=q2
  rw [if_pos rfl]
  refine wpAny_passesOwn hp (bP (hb pins s2 σ1 H2 _ I2 q2) fun f s3 q3=>?_)
  cases f with
  | next =>
   obtain⟨σ3,H3,I3,n3⟩:=q3
   obtain⟨m',hm,w3⟩:=hN σ3 H3 n3
   exact⟨m',hm,σ3,H3,I3,w3⟩
  | cont =>
   obtain⟨σ3,H3,I3,n3⟩:=q3
   obtain⟨m',hm,w3⟩:=hN σ3 H3 n3
   exact⟨m',hm,σ3,H3,I3,w3⟩
  | brk=>exact q3
  | ret v=>exact q3
 | false =>
  rw [if_neg Bool.false_ne_true]
  exact wpAny_execs_nil ⟨σ1,H2,I2,q2⟩
end
structure It where
 go:Nat→Hp→Prop
 yld:Nat→Hp→V→Hp→Prop
 stop:Nat→Hp→Prop
def lS (X:Cx) (pins:List (Addr×Obj)) (H:Hp) (b:Addr):Prop :=
 H b=none∧b≠X.env.locals∧b∉X.fs∧(b∈X.ex∨X.s₀.heap.objs.size≤b)∧(∀x c,X.env.cells.lookup x=some c→c≠b)∧∀p∈X.pn ++ pins,p.1≠b
theorem Inv.zh {X:Cx} {pins:List (Addr×Obj)} {σ:St} {H H':Hp} {s:Shared} {b:Addr} (I:Inv X pins σ H s) (hb:s.heap.objs.size≤b) (hn:H' b=none):lS X pins H' b:=by
 refine⟨hn,Nat.ne_of_gt (Nat.lt_of_lt_of_le I.lt hb),I.IH hb,.inr (Nat.le_trans I.sz hb),fun x c e z=>?_,fun p hp z=>?_⟩
 ·obtain⟨v,q⟩:=I.cell x c e
  exact absurd (Nat.lt_of_lt_of_le q.lt (by rw [z];exact hb)) (Nat.lt_irrefl _)
 ·exact absurd (Nat.lt_of_lt_of_le (Heap.lt_size (I.pin p hp).1) (by rw [z];exact hb)) (Nat.lt_irrefl _)
structure Turn (P:Program) (w:World) (K:PySem.W.Frag) (tg:Expr) (J:It) (fp:List Addr) (it:Addr) (tn:Nat→Heap→Prop):Prop where
 mem:it∈fp
 obj:∀i h,tn i h→∀b∈fp,∃o,h.get? b=some o∧∀v,o.data≠.cell v
 keep:∀i h h',tn i h→(∀b∈fp,∀o,h.get? b=some o→h'.get? b=some o)→tn i h'
 item:∀(X:Cx),X.prog=P→X.w=w→X.K=K→X.calm=true→∀(i:Nat) (pins:List (Addr×Obj)) (s:Shared) (σ:St) (H:Hp) (E:Value→Shared→Prop),Inv X pins σ H s→(∀b∈fp,lS X pins H b)→tn i s.heap→J.go i H →
  wpAny (model P w) X.A (pyNext (.ref it)) (fun r s1=>∃u,r=some u ∧
   wpAny (model P w) X.A (letOwnedTupleGo tg (.ref it) u) (fun _ s2=>∃x H',Inv X pins σ H' s2∧RelV x u∧J.yld i H x H'∧tn (i + 1) s2.heap∧∀b∈fp,H' b=none) E s1) E s
 done:∀(X:Cx),X.prog=P→X.w=w→X.K=K→X.calm=true→∀(i:Nat) (pins:List (Addr×Obj)) (s:Shared) (σ:St) (H:Hp) (E:Value→Shared→Prop),Inv X pins σ H s→(∀b∈fp,lS X pins H b)→tn i s.heap→J.stop i H →
  wpAny (model P w) X.A (pyNext (.ref it)) (fun r s1=>r=none∧Inv X pins σ H s1) E s
 self:∀(A:Around) (i:Nat) (s:Shared) (Q:Value→Shared→Prop) (E:Value→Shared→Prop),tn i s.heap→Q (.ref it) s→wpAny (model P w) A (pyIter (.ref it)) Q E s
abbrev TI:=St→Hp→(It→Hp→Prop)→Prop
def Iw (X:Cx) (pins:List (Addr×Obj)) (σ:St) (tg:Expr) (R:It→Hp→Prop) (itv:Value) (s2:Shared):Prop :=
 ∃(it:Addr) (fp:List Addr) (tn:Nat→Heap→Prop) (J:It) (H':Hp),itv=.ref it∧Inv X pins σ H' s2∧Turn X.prog X.w X.K tg J fp it tn∧tn 0 s2.heap∧(∀b∈fp,lS X pins H' b)∧R J H'
def PI (X:Cx) (tg iter:Expr) (wi:TI):Prop :=
 ∀(pins:List (Addr×Obj)) (s:Shared) (σ:St) (H:Hp) (R:It→Hp→Prop),Inv X pins σ H s→wi σ H R →
  wpAny (model X.prog X.w) X.A (eval iter X.env) (fun v s1=>wpAny (model X.prog X.w) X.A (pyIter v) (Iw X pins σ tg R) X.xe s1) X.xe s
theorem vD {M:Model} {A:Around} {E:Value→Shared→Prop} {s:Shared} {tg:Expr} {it:Addr} {u:Value} {o:Obj} {n:String} {vs:Array Value} {Q:Unit→Shared→Prop} (ho:s.heap.get? it=some o) (hc:o.cls=.type n) (hd:o.data=.fields vs)
    (hn:["enumerate","zip","dict_itemiterator","dict_reverseitemiterator","odict_iterator","itertools.zip_longest","itertools.pairwise"].contains n=false) (hQ:Q () s):wpAny M A (letOwnedTupleGo tg (.ref it) u) Q E s:=by
  unfold letOwnedTupleGo
  cases tg <;> first
    | exact wpAny_pure hQ
    | (cases u <;> first
        | exact wpAny_pure hQ
        | (refine wpAny_bind (wpAny_load ho ?_)
           rw [hc,hd]
           show wpAny M A (if (["enumerate","zip","dict_itemiterator","dict_reverseitemiterator","odict_iterator","itertools.zip_longest","itertools.pairwise"].contains n && vs[0]? == some (rawInt _))=true then _ else _) Q E s
           rw [if_neg (by intro h;rw [hn,Bool.false_and] at h;cases h)]
           exact wpAny_pure hQ))
def IE (K:PySem.W.Frag) (a:Addr):It :=
 ⟨fun i H=>∃xs x,fz K H a xs∧xs[i]?=some x,fun i H x H'=>H'=H∧∀xs,fz K H a xs→xs[i]?=some x,fun i H=>∃xs,fz K H a xs∧xs.length≤i⟩
def Iu (K:PySem.W.Frag) (a:Addr):It :=
 ⟨fun i H=>∃xs x,iy K H a xs∧xs[i]?=some x,fun i H x H'=>H'=H∧∀xs,iy K H a xs→xs[i]?=some x,fun i H=>∃xs,iy K H a xs∧xs.length≤i⟩
def El (lo:Int) (n:Nat):It:=⟨fun i _=>i < n,fun i H x H'=>H'=H∧x=.int (lo + i),fun i _=>n≤i⟩
theorem yN {P:Program} {w:World} {K:PySem.W.Frag} {tg:Expr} (a it:Addr):Turn P w K tg (IE K a) [it] it (fun i h=>h.IsListIter it a i) where
 mem:=by simp
 obj:=fun i h st b hb=>by
  have e:b=it:=by simpa using hb
  subst e
  obtain⟨o,e,c,d⟩:=st
  exact⟨o,e,fun v z=>by rw [d] at z;cases z⟩
 keep:=fun i h h' st k=>st.at fun o e=>k it (by simp) o e
 item:=by
  intro X hP hw hK hc i pins s σ H E I hf st hg
  subst hP hw hK
  obtain⟨xs,x,hq,hx⟩:=hg
  obtain⟨its,rv,p,hz⟩:=I.list hq
  obtain⟨u,hu,ru⟩:=rv.get hx
  obtain⟨f0,f1,f2,f3,f4,f5⟩:=hf it (by simp)
  refine wpAny_pyNext_list_item st p.isList (x:=u) (by simpa using hu) fun h' st' sb=>?_
  have I1:Inv X pins σ H { s with heap:=h' }:=I.turned (t':=s.toks) (fun b o hb e=>(sb.2 b hb).trans e) f0 f1 f3 f4 f5
  obtain⟨o,e,c,d⟩:=id st'
  exact⟨u,rfl,vD (s:={ s with heap:=h' }) e c d (by decide) ⟨x,H,I1,ru,⟨rfl,fun ys hy=>by rw [I.oG hy hq];exact hx⟩,st',fun b hb=>(hf b hb).1⟩⟩
 done:=by
  intro X hP hw hK hc i pins s σ H E I hf st hg
  subst hP hw hK
  obtain⟨xs,hq,hx⟩:=hg
  obtain⟨its,rv,p,hz⟩:=I.list hq
  obtain⟨f0,f1,f2,f3,f4,f5⟩:=hf it (by simp)
  have hl:=rv.length
  exact wpAny_pyNext_list_end (I.ok.hd hc) st p.isList (by simp;omega) fun h' eb=>⟨rfl,I.turned (t':=s.toks) (fun b o hb e=>eb b o hb e) f0 f1 f3 f4 f5⟩
 self:=fun _ _ _ _ _ st h=>wpAny_pyIter_listiter st h
theorem xH {P:Program} {w:World} {K:PySem.W.Frag} {tg:Expr} (a it:Addr):Turn P w K tg (Iu K a) [it] it (fun i h=>h.IsTupleIter it a i) where
 mem:=by simp
 obj:=fun i h st b hb=>by
  have e:b=it:=by simpa using hb
  subst e
  obtain⟨o,e,c,d⟩:=st
  exact⟨o,e,fun v z=>by rw [d] at z;cases z⟩
 keep:=fun i h h' st k=>st.at fun o e=>k it (by simp) o e
 item:=by
  intro X hP hw hK hc i pins s σ H E I hf st hg
  subst hP hw hK
  obtain⟨xs,x,hq,hx⟩:=hg
  obtain⟨its,rv,p,hz⟩:=I.tuple hq
  obtain⟨u,hu,ru⟩:=rv.get hx
  obtain⟨f0,f1,f2,f3,f4,f5⟩:=hf it (by simp)
  refine wpAny_pyNext_tuple_item st (show s.heap.IsTuple a its.toArray from p) (x:=u) (by simpa using hu) fun h' st' sb=>?_
  have I1:Inv X pins σ H { s with heap:=h' }:=I.turned (t':=s.toks) (fun b o hb e=>(sb.2 b hb).trans e) f0 f1 f3 f4 f5
  obtain⟨o,e,c,d⟩:=id st'
  exact⟨u,rfl,vD (s:={ s with heap:=h' }) e c d (by decide) ⟨x,H,I1,ru,⟨rfl,fun ys hy=>by rw [I.md hy hq];exact hx⟩,st',fun b hb=>(hf b hb).1⟩⟩
 done:=by
  intro X hP hw hK hc i pins s σ H E I hf st hg
  subst hP hw hK
  obtain⟨xs,hq,hx⟩:=hg
  obtain⟨its,rv,p,hz⟩:=I.tuple hq
  obtain⟨f0,f1,f2,f3,f4,f5⟩:=hf it (by simp)
  have hl:=rv.length
  exact wpAny_pyNext_tuple_end (I.ok.hd hc) st (show s.heap.IsTuple a its.toArray from p) (by simp;omega) fun h' eb=>⟨rfl,I.turned (t':=s.toks) (fun b o hb e=>eb b o hb e) f0 f1 f3 f4 f5⟩
 self:=fun _ _ _ _ _ st h=>wpAny_pyIter_tupleiter st h
theorem xP {P:Program} {w:World} {K:PySem.W.Frag} {tg:Expr} (it:Addr) (lo:Int) (n:Nat):Turn P w K tg (El lo n) [it] it (fun i h=>IsRangeIter h it (lo + (i:Nat) * 1) ((n:Int) - (i:Nat)) 1) where
 mem:=by simp
 obj:=fun i h st b hb=>by
  have e:b=it:=by simpa using hb
  subst e
  exact⟨_,st,fun v z=>by
   have z':Data.fields _=Data.cell v:=z
   cases z'⟩
 keep:=fun i h h' st k=>k it (by simp) _ st
 item:=by
  intro X hP hw hK hc i pins s σ H E I hf st hg
  subst hP hw hK
  obtain⟨f0,f1,f2,f3,f4,f5⟩:=hf it (by simp)
  have W:=Walks.range (prog:=X.prog) (w:=X.w) (I.ok.hd hc) it lo 1 n
  refine W.item i s _ _ hg st fun v h' tk hv st' kk=>?_
  obtain⟨t,rfl⟩:=hv
  have I1:Inv X pins σ H { s with heap:=h',toks:=tk }:=I.turned (fun b o hb e=>kk b o (by simpa using hb) e) f0 f1 f3 f4 f5
  refine⟨_,rfl,vD (s:={ s with heap:=h',toks:=tk }) (n:="range_iterator") st' rfl rfl (by decide) ⟨.int (lo + i),H,I1,⟨t,?_⟩,⟨rfl,rfl⟩,st',fun b hb=>(hf b hb).1⟩⟩
  rw [Int.mul_one]
 done:=by
  intro X hP hw hK hc i pins s σ H E I hf st hg
  subst hP hw hK
  obtain⟨f0,f1,f2,f3,f4,f5⟩:=hf it (by simp)
  exact wpAny_pyNext_range_end (I.ok.hd hc) st (by have:n≤i:=hg;omega) fun h' eb=>⟨rfl,I.turned (t':=s.toks) (fun b o hb e=>eb b o hb e) f0 f1 f3 f4 f5⟩
 self:=fun _ _ _ _ _ st h=>wpAny_pyIter_rangeiter st h
end L2
namespace L2
open PySem PySem.Spec PyProof.Rows
section
variable {X:Cx} {tg:Expr}
theorem vg {pins:List (Addr×Obj)} {σ:St} {H:Hp} {s:Shared} {R:It→Hp→Prop} {E:Value→Shared→Prop} {lo hi:Int} {t u v:Tok} {tk:Nat} (I:Inv X pins σ H s) (h1:-(2 ^ 62)≤lo) (h2:lo < 2 ^ 62) (h3:-(2 ^ 62)≤hi) (h4:hi < 2 ^ 62)
  (q:R (El lo (hi - lo).toNat) H):wpAny (model X.prog X.w) X.A (pyIter (.ref s.heap.objs.size)) (Iw X pins σ tg R) E { s with heap:=s.heap.push { cls:=.type "range",data:=.fields #[.int lo t,.int hi u,.int 1 v] },toks:=tk }:=by
 refine wpAny_pyIter_range (IsRange.new ..) (small_one h1 h2 h3 h4) ?_
 have I1:Inv X pins σ H { s with heap:=s.heap.push { cls:=.type "range",data:=.fields #[.int lo t,.int hi u,.int 1 v] },toks:=tk }:=I.kept fun b o e=>Heap.get?_push_of_some _ e
 refine⟨(s.heap.push { cls:=.type "range",data:=.fields #[.int lo t,.int hi u,.int 1 v] }).objs.size,[(s.heap.push { cls:=.type "range",data:=.fields #[.int lo t,.int hi u,.int 1 v] }).objs.size],_,_,H,rfl,
  I1.kept (t':=tk) fun b o e=>Heap.get?_push_of_some _ e,xP _ lo (hi - lo).toNat,?_,fun b hb=>?_,q⟩
 ·have e1:lo + ((0:Nat):Int) * 1=lo:=by simp
  have e2:(((hi - lo).toNat:Nat):Int) - ((0:Nat):Int)=Builtin.Range.rangeSize lo hi 1:=by rw [rangeSize_one];split <;> omega
  show IsRangeIter _ _ (lo + ((0:Nat):Int) * 1) ((((hi - lo).toNat:Nat):Int) - ((0:Nat):Int)) 1
  rw [e1,e2]
  exact Heap.get?_push_size _ rfl
 ·have e:b=(s.heap.push { cls:=.type "range",data:=.fields #[.int lo t,.int hi u,.int 1 v] }).objs.size:=by simpa using hb
  subst e
  exact I1.zh (Nat.le_refl _) (I1.hok.fresh (Nat.le_refl _))
def HG (ta:TA):TI:=fun σ H R=>ta σ H fun vs H1=>∃j:Int,vs=[.int j]∧-(2 ^ 62)≤j∧j < 2 ^ 62∧R (El 0 j.toNat) H1
def Io (ta:TA):TI:=fun σ H R=>ta σ H fun vs H1=>∃i j:Int,vs=[.int i,.int j]∧(-(2 ^ 62)≤i∧i < 2 ^ 62∧-(2 ^ 62)≤j∧j < 2 ^ 62)∧R (El i (j - i).toNat) H1
theorem jz {a:Expr} {ta:TA} {p pos:Pos} (hg:Gl X "range") (hm:X.mg "range" = none) (ha:PA X [a] ta) (hs:starEach [a] X.env=[(false,eval a X.env)]:=by rfl):PI X tg (.Call (.Name "range" p) [a] [] pos) (HG ta):=by
 intro pins s σ H R I h
 refine Call_ (jZ I hg hm boot_range (PyProof.Rows.callWith_type1 (bP (ha pos pins s σ H _ I h) fun us s1 ⟨vs,H1,I1,r1,q1⟩=>?_) hs rfl))
 obtain⟨j,e,q1,q2,q⟩:=q1
 subst e
 cases r1 with
 | cons r rr =>
  cases rr
  obtain⟨t,rfl⟩:=r
  exact call_range_1 (vg I1 (by omega) (by omega) q1 q2 (by simpa using q))
theorem zg {a b:Expr} {ta:TA} {p pos:Pos} (hg:Gl X "range") (hm:X.mg "range" = none) (ha:PA X [a,b] ta) (hs:starEach [a,b] X.env=[(false,eval a X.env),(false,eval b X.env)]:=by rfl) (hs2:starEach [b] X.env=[(false,eval b X.env)]:=by rfl) :
  PI X tg (.Call (.Name "range" p) [a,b] [] pos) (Io ta):=by
 intro pins s σ H R I h
 refine Call_ (jZ I hg hm boot_range (PyProof.Rows.callWith_type1 (bP (ha pos pins s σ H _ I h) fun us s1 ⟨vs,H1,I1,r1,q1⟩=>?_) (by rw [hs,hs2]) (by rw [hs2];rfl)))
 obtain⟨i,j,e,⟨q1,q2,q3,q4⟩,q⟩:=q1
 subst e
 cases r1 with
 | cons r rr =>
  cases rr with
  | cons r' rr =>
   cases rr
   obtain⟨t,rfl⟩:=r
   obtain⟨t',rfl⟩:=r'
   exact call_range_2 (vg I1 q1 q2 q3 q4 q)
def IK (wi:TI) (g:TG) (tb:TS):TS:=fun D σ H=>wi σ H fun J H1=>∃W:Nat→Nat→St→Hp→Prop,(∃m,W 0 m σ H1)∧∀i m σ H,W i m σ H →
 (J.stop i H∧D.nx σ H)∨(J.go i H∧∃N:St→Hp→Prop,(∀σ' H',N σ' H'→∃m',m' < m∧W (i + 1) m' σ' H')∧∀x H',J.yld i H x H'→g x σ H' fun σ2 H2=>tb { D with nx:=N,ct:=N,bk:=D.nx } σ2 H2)
def og (fp:List Addr) (h:Heap):List (Addr×Obj):=fp.filterMap fun b=>(h.get? b).map fun o=>(b,o)
theorem g9 {fp:List Addr} {h:Heap} {b:Addr} {o:Obj} (hb:b∈fp) (e:h.get? b=some o):(b,o)∈og fp h:=List.mem_filterMap.mpr ⟨b,hb,by rw [e];rfl⟩
theorem ze {fp:List Addr} {h:Heap} {p:Addr×Obj} (hp:p∈og fp h):p.1∈fp∧h.get? p.1=some p.2:=by
 obtain⟨b,hb,e⟩:=List.mem_filterMap.mp hp
 cases q:h.get? b with
 | none=>rw [q] at e;cases e
 | some o =>
  rw [q] at e
  have e':(b,o)=p:=Option.some.inj e
  subst e'
  exact⟨hb,q⟩
theorem Inv.pinned {pins:List (Addr×Obj)} {σ:St} {H:Hp} {s:Shared} {fp:List Addr} (I:Inv X pins σ H s) (hf:∀b∈fp,lS X pins H b) (ho:∀b∈fp,∃o,s.heap.get? b=some o∧∀v,o.data≠.cell v):Inv X (pins ++ og fp s.heap) σ H s :=
 I.yv fun p hp=>(List.mem_append.mp hp).elim (fun z=>I.pin p (List.mem_append_right _ z)) fun z=>by
  obtain⟨hb,e⟩:=ze z
  obtain⟨f0,f1,f2,_⟩:=hf p.1 hb
  obtain⟨o,e',d⟩:=ho p.1 hb
  rw [e] at e';cases e'
  exact⟨e,f0,f1,f2,d⟩
theorem Inv.kn {pins pl:List (Addr×Obj)} {σ:St} {H:Hp} {s:Shared} (I:Inv X (pins ++ pl) σ H s):Inv X pins σ H s:=I.yv fun p hp=>I.pin p (List.mem_append_right _ (List.mem_append_left _ hp))
theorem pw {iter:Expr} {body:List Stmt} {wi:TI} {g:TG} {tb:TS} {pos:Pos} (hp:PassesOwn (model X.prog X.w) X.A X.env X.xe) (hc:X.calm=true) (hi:PI X tg iter wi) (hg:PG X tg g) (hb:vc X body tb)
  (hs:∀x,foldedSetIterable iter X.env x=pure x:=by intro _;rfl):PS X (.For tg iter body [] pos) (IK wi g tb):=by
 intro pins s σ H D I h
 refine wpAny_For (bP (hi pins s σ H _ I h) fun v s1 h1=>bP h1 fun itv s2 h2=>?_) hs
 obtain⟨it,fp,tn,J,H2,e,I2,T,st2,f2,W,⟨m0,w0⟩,turn⟩:=h2
 subst e
 have stat:∀{H':Hp},(∀b∈fp,H' b=none)→∀b∈fp,lS X pins H' b:=fun hn b hb=>⟨hn b hb,(f2 b hb).2⟩
 refine codeAny_forLoop_any (fun n s'=>∃i σ' H',Inv X pins σ' H' s'∧tn i s'.heap∧(∀b∈fp,H' b=none)∧W i n σ' H') ?_ m0 ⟨0,σ,H2,I2,st2,fun b hb=>(f2 b hb).1,w0⟩
 rintro n s3 ⟨i,σ3,H3,I3,st3,fr3,w3⟩
 rcases turn i n σ3 H3 w3 with ⟨stop,qn⟩ | ⟨go,N,hN,step⟩
 ·refine wpAny_passesOwn hp (bP (T.done X rfl rfl rfl hc i pins s3 σ3 H3 X.xe I3 (stat fr3) st3 stop) fun r s4 ⟨hr,I4⟩=>?_)
  subst hr
  exact wpAny_execs_nil ⟨σ3,H3,I4,qn⟩
 ·refine wpAny_passesOwn hp (bP (T.item X rfl rfl rfl hc i pins s3 σ3 H3 X.xe I3 (stat fr3) st3 go) fun r s4 ⟨u,hr,h4⟩=>?_)
  subst hr
  refine wpAny_passesOwn hp (bP h4 fun _ s5 ⟨x,H5,I5,r5,y5,st5,fr5⟩=>?_)
  have I5':=I5.pinned (stat fr5) (T.obj _ _ st5)
  refine wpAny_passesOwn hp (bP (hg _ s5 σ3 H5 x u _ I5' r5 (step x H5 y5)) fun _ s6 ⟨σ6,H6,I6,q6⟩=>?_)
  refine wpAny_passesOwn hp (bP (hb _ s6 σ6 H6 _ I6 q6) fun f s7 q7=>?_)
  have again:∀{σ7:St} {H7:Hp},Inv X (pins ++ og fp s5.heap) σ7 H7 s7→N σ7 H7→∃m,m < n∧∃i σ' H',Inv X pins σ' H' s7∧tn i s7.heap∧(∀b∈fp,H' b=none)∧W i m σ' H':=fun {σ7 H7} I7 n7=>by
   obtain⟨m',hm,w7⟩:=hN σ7 H7 n7
   refine⟨m',hm,i + 1,σ7,H7,I7.kn,T.keep _ _ _ st5 fun b hb o e=>(I7.pin (b,o) (List.mem_append_right _ (List.mem_append_right _ (g9 hb e)))).1,fun b hb=>?_,w7⟩
   obtain⟨o,e,d⟩:=T.obj _ _ st5 b hb
   exact (I7.pin (b,o) (List.mem_append_right _ (List.mem_append_right _ (g9 hb e)))).2.1
  cases f with
  | next=>obtain⟨σ7,H7,I7,n7⟩:=q7;exact again I7 n7
  | cont=>obtain⟨σ7,H7,I7,n7⟩:=q7;exact again I7 n7
  | brk=>obtain⟨σ7,H7,I7,q7⟩:=q7;exact⟨σ7,H7,I7.kn,q7⟩
  | ret v=>obtain⟨x7,σ7,H7,I7,r7,q7⟩:=q7;exact⟨x7,σ7,H7,I7.kn,r7,q7⟩
end
end L2
namespace L2
open PySem PySem.Spec PyProof.Rows
abbrev R2:=V→V→Hp→VK→Prop
def gT (X:Cx) (f:Value→Value→Sem Value) (r:R2):Prop :=
 ∀(pins:List (Addr×Obj)) (s:Shared) (σ:St) (H:Hp) (x y:V) (v u:Value) (Q:VK),Inv X pins σ H s→RelV x v→RelV y u→r x y H Q →
  wpAny (model X.prog X.w) X.A (f v u) (EP X pins σ Q) X.xe s
def Iy (X:Cx) (f:Value→Sem Value) (r:V→Hp→VK→Prop):Prop :=
 ∀(pins:List (Addr×Obj)) (s:Shared) (σ:St) (H:Hp) (x:V) (v:Value) (Q:VK),Inv X pins σ H s→RelV x v→r x H Q →
  wpAny (model X.prog X.w) X.A (f v) (EP X pins σ Q) X.xe s
def dq (X:Cx) (f:Value) (r:List V→Hp→VK→Prop):Prop :=
 ∀(pins:List (Addr×Obj)) (s:Shared) (σ:St) (H:Hp) (xs:List V) (us:List Value) (Q:VK),Inv X pins σ H s→Vals xs us→r xs H Q →
  wpAny (model X.prog X.w) X.A (call f us) (EP X pins σ Q) X.xe s
def GQ (r:R2) (ta tb:TE):TE:=fun σ H Q=>ta σ H fun x H1=>tb σ H1 fun y H2=>r x y H2 Q
def JV (r:V→Hp→VK→Prop) (ta:TE):TE:=fun σ H Q=>ta σ H fun x H1=>r x H1 Q
def rI (C:Int→Int→Prop) (g:Int→Int→V):R2:=fun x y H Q=>∃i j,x=.int i∧y=.int j∧C i j∧Q (g i j) H
def zX (g:Int→Int→V):R2:=fun x y H Q=>∃i j,x=.int i∧y=.int j∧Q (g i j) H
def rU (g:Int→V):V→Hp→VK→Prop:=fun x H Q=>∃i,x=.int i∧Q (g i) H
section
variable {X:Cx} {a b c:Expr} {ta tb tc:TE} {pos:Pos}
theorem FQ (ha:PE X a ta) (hb:PE X b tb) {pins:List (Addr×Obj)} {s:Shared} {σ:St} {H:Hp} {R:V→V→Hp→Prop} (I:Inv X pins σ H s)
  (h:ta σ H fun x H1=>tb σ H1 fun y H2=>R x y H2) {Q:Value→Shared→Prop} {f:Value→Value→Sem Value}
  (hf:∀v u s2 x y H2,Inv X pins σ H2 s2→RelV x v→RelV y u→R x y H2→wpAny (model X.prog X.w) X.A (f v u) Q X.xe s2) :
  wpAny (model X.prog X.w) X.A (eval a X.env) (fun v s₁=>wpAny (model X.prog X.w) X.A (eval b X.env) (fun u s₂=>wpAny (model X.prog X.w) X.A (f v u) Q X.xe s₂) X.xe s₁) X.xe s:=by
 refine bP (ha pins s σ H _ I h) fun v s1 ⟨x,H1,I1,r1,q1⟩=>?_
 refine bP (hb pins s1 σ H1 _ I1 q1) fun u s2 ⟨y,H2,I2,r2,q2⟩=>?_
 exact hf v u s2 x y H2 I2 r1 r2 q2
theorem Ih {op:Operator} {r:R2} (ho:gT X (binaryOp op) r) (ha:PE X a ta) (hb:PE X b tb):PE X (.BinOp a op b pos) (GQ r ta tb):=by
 intro pins s σ H Q I h
 exact wpAny_BinOp (FQ ha hb I h fun v u s2 x y H2 I2 rx ry q=>ho pins s2 σ H2 x y v u Q I2 rx ry q)
theorem Hw {op:UnaryOp} {r:V→Hp→VK→Prop} (ho:Iy X (unaryOp op) r) (ha:PE X a ta):PE X (.UnaryOp op a pos) (JV r ta):=by
 intro pins s σ H Q I h
 exact UnaryOp_ (bP (ha pins s σ H _ I h) fun v s1 ⟨x,H1,I1,r1,q1⟩=>ho pins s1 σ H1 x v Q I1 r1 q1)
theorem IB {f:Value→Value→Sem Value} {C:Int→Int→Prop} {g:Int→Int→Int}
  (rule:∀(i j:Int) (t u:Tok) (s:Shared) (Q:Value→Shared→Prop) (E:Value→Shared→Prop),C i j→Q (.int (g i j) s.toks) { s with toks:=s.toks + 1 }→wpAny (model X.prog X.w) X.A (f (.int i t) (.int j u)) Q E s) :
  gT X f (rI C fun i j=>.int (g i j)):=by
 intro pins s σ H x y v u Q I rx ry h
 obtain⟨i,j,rfl,rfl,hc,q⟩:=h
 obtain⟨t,rfl⟩:=rx
 obtain⟨t',rfl⟩:=ry
 exact rule i j t t' s _ _ hc ⟨.int (g i j),H,I.tok _,⟨_,rfl⟩,q⟩
theorem HJ {f:Value→Value→Sem Value} {g:Int→Int→Int}
  (rule:∀(i j:Int) (t u:Tok) (s:Shared) (Q:Value→Shared→Prop) (E:Value→Shared→Prop),Q (.int (g i j) s.toks) { s with toks:=s.toks + 1 }→wpAny (model X.prog X.w) X.A (f (.int i t) (.int j u)) Q E s) :
  gT X f (zX fun i j=>.int (g i j)):=by
 intro pins s σ H x y v u Q I rx ry h
 obtain⟨i,j,rfl,rfl,q⟩:=h
 obtain⟨t,rfl⟩:=rx
 obtain⟨t',rfl⟩:=ry
 exact rule i j t t' s _ _ ⟨.int (g i j),H,I.tok _,⟨_,rfl⟩,q⟩
theorem CH {f:Value→Value→Sem Value} {g:Int→Int→Bool}
  (rule:∀(i j:Int) (t u:Tok) (s:Shared) (Q:Value→Shared→Prop) (E:Value→Shared→Prop),Q (.bool (g i j)) s→wpAny (model X.prog X.w) X.A (f (.int i t) (.int j u)) Q E s) :
  gT X f (zX fun i j=>.bl (g i j)):=by
 intro pins s σ H x y v u Q I rx ry h
 obtain⟨i,j,rfl,rfl,q⟩:=h
 obtain⟨t,rfl⟩:=rx
 obtain⟨t',rfl⟩:=ry
 exact rule i j t t' s _ _ ⟨.bl (g i j),H,I,rfl,q⟩
def EK (i j:Int):Prop:=0≤j∧j≤1000000∧i.natAbs < 2 ^ 64
theorem EG:gT X (binaryOp .Add) (zX fun i j=>.int (i + j)):=HJ fun _ _ _ _ _ _ _ q=>add_int q
theorem Ga:gT X (binaryOp .Sub) (zX fun i j=>.int (i - j)):=HJ fun _ _ _ _ _ _ _ q=>sub_int q
theorem C4:gT X (binaryOp .Mod) (rI (fun _ j=>j≠0) fun i j=>.int (i.fmod j)):=IB fun _ _ _ _ _ _ _ hc q=>mod_int' hc q
theorem EL:gT X (binaryOp .Pow) (rI EK fun i j=>.int (i ^ j.toNat)):=IB fun _ _ _ _ _ _ _ hc q=>pow_int_small hc.1 hc.2.1 hc.2.2 q
theorem J7 {f:Value→Sem Value} {g:Int→Int}
  (rule:∀(i:Int) (t:Tok) (s:Shared) (Q:Value→Shared→Prop) (E:Value→Shared→Prop),Q (.int (g i) s.toks) { s with toks:=s.toks + 1 }→wpAny (model X.prog X.w) X.A (f (.int i t)) Q E s) :
  Iy X f (rU fun i=>.int (g i)):=by
 intro pins s σ H x v Q I rx h
 obtain⟨i,rfl,q⟩:=h
 obtain⟨t,rfl⟩:=rx
 exact rule i t s _ _ ⟨.int (g i),H,I.tok _,⟨_,rfl⟩,q⟩
theorem E4:Iy X (unaryOp .USub) (rU fun i=>.int (-i)):=J7 fun _ _ _ _ _ q=>neg_int q
end
section
variable {X:Cx} {a b c:Expr} {ta tb tc:TE} {pos:Pos}
theorem AA {pins:List (Addr×Obj)} {σ:St} {H:Hp} {s:Shared} {Q:VK} {k k':Bool} (I:Inv X pins σ H s) (q:Q (.bl k) H) (e:k=k'):EP X pins σ Q (.bool k') s:=by
 subst e
 exact⟨.bl k,H,I,rfl,q⟩
theorem zD:gT X (compareOp .Lt) (zX fun i j=>.bl (decide (i < j))):=CH fun _ _ _ _ _ _ _ q=>lt_int q
theorem Ie:gT X (compareOp .LtE) (zX fun i j=>.bl (decide (i≤j))):=CH fun _ _ _ _ _ _ _ q=>le_int q
theorem DT:gT X (compareOp .Gt) (zX fun i j=>.bl (decide (j < i))):=CH fun _ _ _ _ _ _ _ q=>gt_int q
theorem Ir:gT X (compareOp .GtE) (zX fun i j=>.bl (decide (j≤i))):=CH fun _ _ _ _ _ _ _ q=>ge_int q
theorem E1:gT X (compareOp .Is) (fun x y H Q=>y=.non∧Q (.bl (decide (x=.non))) H):=by
 intro pins s σ H x y v u Q I rx ry h
 obtain⟨rfl,q⟩:=h
 cases ry
 refine is_none_gen (AA I q ?_)
 cases x <;> first
  | (cases rx;rfl)
  | (obtain⟨t,rfl⟩:=rx;rfl)
theorem CY:gT X (compareOp .IsNot) (fun x y H Q=>y=.non∧Q (.bl (!decide (x=.non))) H):=by
 intro pins s σ H x y v u Q I rx ry h
 obtain⟨rfl,q⟩:=h
 cases ry
 refine isnot_none_gen (AA I q ?_)
 cases x <;> first
  | (cases rx;rfl)
  | (obtain⟨t,rfl⟩:=rx;rfl)
theorem gT.or {f:Value→Value→Sem Value} {r r':R2} (h:gT X f r) (h':gT X f r'):gT X f (fun x y H Q=>r x y H Q∨r' x y H Q):=by
 intro pins s σ H x y v u Q I rx ry q
 rcases q with q | q
 ·exact h pins s σ H x y v u Q I rx ry q
 ·exact h' pins s σ H x y v u Q I rx ry q
theorem fv (b:Expr) {op:CmpOp} (h:op≠.In:=by decide) (h2:op≠.NotIn:=by decide):behindInMarks op b=false:=by
 have e1:(op == CmpOp.In)=false:=by cases op <;> first | rfl | exact absurd rfl h
 have e2:(op == CmpOp.NotIn)=false:=by cases op <;> first | rfl | exact absurd rfl h2
 cases b <;> simp [behindInMarks,e1,e2]
theorem DK {op:CmpOp} {r:R2} (ho:gT X (compareOp op) r) (ha:PE X a ta) (hb:PE X b tb) (hm:behindInMarks op b=false):PE X (.Compare a [op] [b] pos) (GQ r ta tb):=by
 intro pins s σ H Q I h
 exact wpAny_Compare1 (FQ ha hb I h fun v u s2 x y H2 I2 rx ry q=>ho pins s2 σ H2 x y v u Q I2 rx ry q) hm
def HN (t:TE):TT:=fun σ H Q=>t σ H fun x H'=>∃k,x=.bl k∧Q k H'
theorem tU {op:CmpOp} {r:R2} (ho:gT X (compareOp op) r) (ha:PE X a ta) (hb:PE X b tb) (hm:behindInMarks op b=false):PT X (.Compare a [op] [b] pos) (HN (GQ r ta tb)):=by
 intro pins s σ H Q I h
 refine wpAny_isTrue_Compare1 (bP (ha pins s σ H _ I h) fun v s1 ⟨x,H1,I1,r1,q1⟩=>bP (hb pins s1 σ H1 _ I1 q1) fun u s2 ⟨y,H2,I2,r2,q2⟩ =>
  bP (ho pins s2 σ H2 x y v u _ I2 r1 r2 q2) fun c s3 ⟨z,H3,I3,r3,k,e,q3⟩=>?_) hm
 subst e
 cases r3
 exact wpAny_truthy_bool ⟨H3,I3,q3⟩
def zQ (r r':R2) (ta tb tc:TE):TE:=fun σ H Q=>ta σ H fun x H1=>tb σ H1 fun y H2=>r x y H2 fun z H3=>∃k,z=.bl k ∧
 (if k=true then tc σ H3 fun w' H4=>r' y w' H4 Q else Q (.bl false) H3)
theorem zR {op op':CmpOp} {r r':R2} (ho:gT X (compareOp op) r) (ho':gT X (compareOp op') r') (ha:PE X a ta) (hb:PE X b tb) (hc:PE X c tc)
  (hm:lastMarks [op,op'] [b,c]=false:=by with_unfolding_all rfl):PE X (.Compare a [op,op'] [b,c] pos) (zQ r r' ta tb tc):=by
 intro pins s σ H Q I h
 refine Compare_chain (bP (ha pins s σ H _ I h) fun v s1 ⟨x,H1,I1,r1,q1⟩=>chain_link (bP (hb pins s1 σ H1 _ I1 q1) fun u s2 ⟨y,H2,I2,r2,q2⟩ =>
  bP (ho pins s2 σ H2 x y v u _ I2 r1 r2 q2) fun d s3 ⟨z,H3,I3,r3,k,e,q3⟩=>?_)) hm
 subst e
 cases r3
 refine wpAny_truthy_bool ?_
 cases k with
 | false=>exact ite_ff ⟨.bl false,H3,I3,rfl,q3⟩
 | true=>exact ite_tt (chain_last (bP (hc pins s3 σ H3 _ I3 q3) fun w' s4 ⟨z',H4,I4,r4,q4⟩=>ho' pins s4 σ H4 y z' u w' Q I4 r2 r4 q4))
theorem mx:(sizeLine:Nat) < 2 ^ 63:=by rw [sizeLine_eq];decide
theorem wL:gT X (binaryOp .Add) (fun x y H Q=>∃i j,x=.str i∧y=.str j∧i.length + j.length≤sizeLine∧Q (.str (i ++ j)) H):=by
 intro pins s σ H x y v u Q I rx ry h
 obtain⟨i,j,rfl,rfl,hz,q⟩:=h
 obtain⟨t,rfl⟩:=rx
 obtain⟨t',rfl⟩:=ry
 exact add_str (fun t' tk=>⟨.str (i ++ j),H,I.tok _,⟨_,rfl⟩,q⟩) hz
theorem vals1 {x:V} {us:List Value} (r:Vals [x] us):∃u,us=[u]∧RelV x u:=by
 cases r with
 | cons r1 r2=>cases r2;exact⟨_,rfl,r1⟩
theorem vals2 {x y:V} {us:List Value} (r:Vals [x,y] us):∃u w',us=[u,w']∧RelV x u∧RelV y w':=by
 cases r with
 | cons r1 r2 =>
  cases r2 with
  | cons r3 r4=>cases r4;exact⟨_,_,rfl,r1,r3⟩
theorem As:dq X (.builtin "abs") (fun xs H Q=>∃i,xs=[.int i]∧Q (.int (if i < 0 then -i else i)) H):=by
 intro pins s σ H xs us Q I r h
 obtain⟨i,rfl,q⟩:=h
 obtain⟨u,rfl,t,rfl⟩:=vals1 r
 exact call_abs_int fun u tk=>⟨.int (if i < 0 then -i else i),H,I.tok _,⟨_,rfl⟩,q⟩
theorem zt (hc:X.calm=true):dq X (.builtin "max") (fun xs H Q=>∃i j,xs=[.int i,.int j]∧Q (.int (if j > i then j else i)) H):=by
 intro pins s σ H xs us Q I r h
 obtain⟨i,j,rfl,q⟩:=h
 obtain⟨u,w',rfl,⟨t,rfl⟩,⟨t',rfl⟩⟩:=vals2 r
 refine max_two_ints (I.ok.hd hc) fun h' tk k=>⟨_,H,I.kept k,?_,q⟩
 by_cases hj:j > i
 ·rw [if_pos hj,if_pos hj];exact⟨_,rfl⟩
 ·rw [if_neg hj,if_neg hj];exact⟨_,rfl⟩
theorem zu (hc:X.calm=true):dq X (.builtin "min") (fun xs H Q=>∃i j,xs=[.int i,.int j]∧Q (.int (if j < i then j else i)) H):=by
 intro pins s σ H xs us Q I r h
 obtain⟨i,j,rfl,q⟩:=h
 obtain⟨u,w',rfl,⟨t,rfl⟩,⟨t',rfl⟩⟩:=vals2 r
 refine min_two_ints (I.ok.hd hc) fun h' tk k=>⟨_,H,I.kept k,?_,q⟩
 by_cases hj:j < i
 ·rw [if_pos hj,if_pos hj];exact⟨_,rfl⟩
 ·rw [if_neg hj,if_neg hj];exact⟨_,rfl⟩
theorem yR:dq X (.type "int") (fun xs H Q=>(∃i,xs=[.int i]∧Q (.int i) H)∨∃k,xs=[.bl k]∧Q (.int (if k then 1 else 0)) H):=by
 intro pins s σ H xs us Q I r h
 rcases h with ⟨i,rfl,q⟩ | ⟨k,rfl,q⟩
 ·obtain⟨u,rfl,t,rfl⟩:=vals1 r
  exact call_int_int ⟨.int i,H,I,⟨_,rfl⟩,q⟩
 ·obtain⟨u,rfl,r1⟩:=vals1 r
  cases r1
  exact call_int_bool ⟨.int (if k then 1 else 0),H,I.tok _,⟨_,rfl⟩,q⟩
end
end L2
namespace L2
open PySem PySem.Spec PyProof.Rows
theorem uf.some_of {v:V} {o:Option Value} (r:uf (some v) o):∃u,o=some u∧RelV v u:=by
 cases o with
 | none=>exact (show False from r).elim
 | some u=>exact⟨u,rfl,r⟩
section
variable {P:Program} {w:World} {H H':Hp} {h h':Heap} {a C dx:Addr} {fs fs':List (Str×V)}
end
section
variable {X:Cx} {pins:List (Addr×Obj)} {σ:St} {H:Hp} {s:Shared} {a C dx:Addr} {fs:List (Str×V)} {f:Str} {v:V} {A:Around} {E:Value→Shared→Prop}
end
end L2
namespace L2
open PySem PySem.Spec PyProof.Rows
structure cY (k:Nat) (A:Around):Prop where
 hd:A.handled=none
 dp:A.depth + 3 * k + 5 < recursionLimit
 un:A.units + 16 * k + 200 < cLine
theorem cY.mono {j k:Nat} {A:Around} (r:cY k A) (h:j≤k):cY j A:=⟨r.hd,by have:=r.dp;omega,by have:=r.un;omega⟩
theorem cY.deeper {k:Nat} {A:Around} (r:cY (k + 1) A) (env:Env):cY k (A.deeper env) :=
 ⟨r.hd,by have:=r.dp;show A.depth + 1 + 3 * k + 5 < _;omega,by have:=r.un;show A.units + 3 + 16 * k + 200 < _;omega⟩
theorem cY.depth {k:Nat} {A:Around} (r:cY k A):A.depth < recursionLimit:=by have:=r.dp;omega
theorem cY.units {k:Nat} {A:Around} (r:cY k A):A.units + 64 < cLine:=by have:=r.un;omega
def JA:TA:=fun _ H Q=>Q [] H
def Il (ta:TE) (tr:TA):TA:=fun σ H Q=>ta σ H fun x H1=>tr σ H1 fun xs H2=>Q (x :: xs) H2
section
variable {X:Cx} {e:Expr} {es:List Expr} {te:TE} {t:TA} {pos:Pos}
theorem gH:PA X [] JA:=fun _ _ _ _ H Q I h=>Calls.spliced_nil ⟨[],H,I,.nil,h⟩
theorem dQ (ha:PE X e te) (hr:PA X es t) (hs:starEach (e :: es) X.env=(false,eval e X.env) :: starEach es X.env:=by rfl):PA X (e :: es) (Il te t):=by
 intro pos pins s σ H Q I h
 rw [hs]
 show wpAny _ _ (spliced ((false,eval e X.env) :: backTo pos (starEach es X.env))) _ _ s
 refine Calls.spliced_cons (bP (ha pins s σ H _ I h) fun u s1 ⟨x,H1,I1,r1,q1⟩=>?_)
 exact bP (hr pos pins s1 σ H1 _ I1 q1) fun us s2 ⟨xs,H2,I2,r2,q2⟩=>⟨x :: xs,H2,I2,.cons r1 r2,q2⟩
def Ji (t:TA):TE:=fun σ H Q=>t σ H fun xs H1=>xs.length≤sizeLine∧∀p,H1 p=none→Q (.ref p) (upd H1 p (.tup xs))
def Jc (t:TA):TE:=fun σ H Q=>t σ H fun xs H1=>xs.length≤sizeLine∧∀p,H1 p=none→Q (.ref p) (upd H1 p (.lst xs))
theorem Fm {x1} (h:PA X es t):PE X (.Tuple es x1 pos) (Ji t):=by
 intro pins s σ H Q I hq
 refine wpAny_Tuple_spliced (bP (h pos pins s σ H _ I hq) fun us s1 ⟨xs,H1,I1,r,z,q⟩=>⟨by rw [← r.length];exact z,?_⟩)
 have hf:H1 s1.heap.objs.size=none:=I1.hok.fresh (Nat.le_refl _)
 refine⟨.ref s1.heap.objs.size,upd H1 s1.heap.objs.size (.tup xs),I1.laid (t':=s1.toks) (fun b u e=>Heap.get?_push_of_some _ e) (Nat.le_refl _) ?_,rfl,q _ hf⟩
 exact⟨z,us,r,⟨_,Heap.get?_push_size _ rfl,rfl,⟨_,rfl⟩,rfl⟩⟩
theorem wj (h:PA X es t):PE X (.List es pos) (Jc t):=by
 intro pins s σ H Q I hq
 refine wpAny_List_spliced (bP (h pos pins s σ H _ I hq) fun us s1 ⟨xs,H1,I1,r,z,q⟩=>⟨by rw [← r.length];exact z,?_⟩)
 have hf:H1 s1.heap.objs.size=none:=I1.hok.fresh (Nat.le_refl _)
 refine⟨.ref s1.heap.objs.size,upd H1 s1.heap.objs.size (.lst xs),I1.laid (t':=s1.toks) (fun b u e=>Heap.get?_push_of_some _ e) (Nat.le_refl _) ?_,rfl,q _ hf⟩
 exact⟨z,us,0,r,Heap.get?_push_size _ rfl⟩
end
abbrev Sp:=List V→Hp→VK→XK→Prop
abbrev BL:=List Env→Hp→Shared→XK→Value→Shared→Prop
structure yV (P:Program) (w:World) (K:PySem.W.Frag) (mg:Str→Option Value) (base:Heap) (A:Around) (outer:List Env) (s:Shared) (H:Hp):Prop where
 frames:A.frames=some outer
 mod:Mod K mg base
 bs:∀b o,base.get? b=some o→s.heap.get? b=some o∧H b=none
 bsz:base.objs.size≤s.heap.objs.size
 kj:s.heap.FunFrames base outer
 frf:∀b∈nA outer,H b=none
 hok:jO P w H s.heap
 bare:AllBare s.gens
def CE (outer:List Env) (P:Program) (w:World) (H:Hp) (s:Shared) (Q:VK) (u:Value) (s':Shared):Prop :=
 ∃v H',s'.os=s.os∧AllBare s'.gens∧Un (nA outer) [] H H' s.heap s'.heap∧jO P w H' s'.heap∧RelV v u∧Q v H'
def CR (CX:BL) (outer:List Env) (P:Program) (w:World) (H:Hp) (s:Shared) (Q:VK) (E:XK) (r:Result) (s':Shared):Prop :=
 match r with
 | .ok (.ret u)=>CE outer P w H s Q u s'
 | .ok _=>False
 | .error e=>CX outer H s E e s'
structure l7 (P:Program) (w:World) (K:PySem.W.Frag) (mg:Str→Option Value) (base:Heap) (CX:BL) (k:Nat) (f:Addr) (fd:FuncData) (ps:List Str) (sp:Sp):Prop where
 len:∀vs H Q E,sp vs H Q E→vs.length=ps.length
 run:∀(A:Around) (outer:List Env) (s:Shared) (H:Hp) (args:Args) (us:List Value) (vs:List V) (Q:VK) (E:XK),cY k A→yV P w K mg base A outer s H→BindsTo s fd args (ps.zip us)→Vals vs us→sp vs H Q E →
  codeAny (model P w) A (.call (.ref f) args) (CR CX outer P w H s Q E) s
section
variable {X:Cx} {pins:List (Addr×Obj)} {σ:St} {H:Hp} {s s':Shared}
theorem Inv.hW (I:Inv X pins σ H s):yV X.prog X.w X.K X.mg X.base X.A X.stack s H :=
 ⟨I.ok.frames,I.ok.mod,I.bs,Nat.le_trans I.ok.bsz I.sz,I.stack,I.sN,I.hok,I.bare⟩
theorem Inv.after {Q:VK} {u:Value} (I:Inv X pins σ H s) (h:CE X.stack X.prog X.w H s Q u s'):EP X pins σ Q u s':=by
 obtain⟨v,H',os,bare,un,hok,r,q⟩:=h
 obtain⟨hh,g,d,t,os'⟩:=s'
 obtain rfl:os'=s.os:=os
 exact⟨v,H',I.call (h':=hh) (g':=g) (d':=d) (t':=t) (ch:=[]) un hok bare (fun b z=>absurd z (by simp)),r,q⟩
end
def DW (sp:Sp) (dvs:List V) (E:XK) (t:TA):TE:=fun σ H Q=>t σ H fun vs H1=>sp (vs ++ dvs) H1 Q E
def Binds (K:PySem.W.Frag) (fd:FuncData) (ps:List Str) (ds:List Value):Prop :=
 ∀(s:Shared) (us:List Value),K.In s.heap→(us ++ ds).length=ps.length→BindsTo s fd ⟨us,[]⟩ (ps.zip (us ++ ds))
theorem Binds.all {K:PySem.W.Frag} {fd:FuncData} {ps:List Str} (h:∀us:List Value,us.length=ps.length→bindArgs fd ⟨us,[]⟩=pure (ps.zip us)):Binds K fd ps []:=fun s us _ hl=>by
 rw [List.append_nil] at hl ⊢
 exact .of_eq (h us hl)
def Passes (CX:BL) (X:Cx) (E:XK):Prop:=∀(pins:List (Addr×Obj)) (σ:St) (H:Hp) (s:Shared) (e:Value) (s':Shared),Inv X pins σ H s→CX X.stack H s E e s'→X.xe e s'
section
variable {X:Cx} {CX:BL} {k:Nat} {f C:Addr} {fd:FuncData} {ps:List Str} {sp:Sp} {dvs:List V} {ds:List Value} {E:XK} {x m:Str} {p pos apos:Pos} {e o:Expr} {es:List Expr} {ta:TE} {t:TA}
theorem FD {pins:List (Addr×Obj)} {σ:St} {H:Hp} {s:Shared} {Q:VK} {us:List Value} {vs:List V} (F:l7 X.prog X.w X.K X.mg X.base CX k f fd ps sp) (hr:cY k X.A) (hb:Binds X.K fd ps ds) (hd:Vals dvs ds) (hx:Passes CX X E)
  (I:Inv X pins σ H s) (r:Vals vs us) (h:sp (vs ++ dvs) H Q E):wpAny (model X.prog X.w) X.A (call (.ref f) us) (EP X pins σ Q) X.xe s:=by
 have r2:Vals (vs ++ dvs) (us ++ ds):=r.append hd
 have hl:(us ++ ds).length=ps.length:=by rw [← r2.length];exact F.len _ _ _ _ h
 refine wpAny_call (codeAny_mono (F.run X.A X.stack s H ⟨us,[]⟩ (us ++ ds) (vs ++ dvs) Q E hr I.hW (hb s us I.qR hl) r2 h) fun r s' hq=>?_)
 cases r with
 | error e=>exact hx pins σ H s e s' I hq
 | ok fl =>
  cases fl with
  | ret u=>exact I.after hq
  | next=>exact False.elim hq
  | brk=>exact False.elim hq
  | cont=>exact False.elim hq
theorem yp (F:l7 X.prog X.w X.K X.mg X.base CX k f fd ps sp) (hr:cY k X.A) (hg:Gl X x) (hm:X.mg x=some (.ref f)) (hk:PySem.W.keepIn X.K (.ref f)=true) (hb:Binds X.K fd ps ds) (hd:Vals dvs ds) (hx:Passes CX X E)
  (ha:PA X (e :: es) t) (hdb:(x == ("__debug__" : Str))=false:=by decide) (he:starEach (e :: es) X.env=(false,eval e X.env) :: starEach es X.env:=by rfl) (hpl:(backTo pos (starEach es X.env)).any (·.1)=false:=by rfl) :
  PE X (.Call (.Name x p) (e :: es) [] pos) (DW sp dvs E t):=by
 intro pins s σ H Q I h
 refine wpAny_Call_Name_kw (hV I hg hm ?_ hdb)
 refine PySem.W.callWith_K (h₀:=X.base) I.ok.mod.kin hk (bP (ha pos pins s σ H _ I h) fun us s1 ⟨vs,H1,I1,r,q⟩=>⟨I1.qR,?_⟩) he hpl
 exact FD F hr hb hd hx I1 r q
end
structure aG (N P:List Str) (sc:Scope):Prop where
 kind:sc.kind=.function
 co:sc.isCoroutine=false
 gen:sc.isGenerator=false
 nd:N.Nodup
 pre:N.take P.length=P
 par:∀x∈P,sc.names.lookup x=some .local∨sc.names.lookup x=some .cell
 nofree:∀y∈sc.names,y.2≠.free
theorem qG {kindOf:Str→Option NameKind} {x:Str}:∀{binds:List (Str×Value)} {m:Str→Option Value},(∀v,(x,v)∉binds)→bindL kindOf binds m x=m x
 | [],_,_=>rfl
 | (n,v) :: r,m,h=>by
  unfold bindL
  rw [qG fun w hw=>h w (List.mem_cons_of_mem _ hw)]
  split
  ·have:x≠n:=by rintro rfl;exact h v List.mem_cons_self
   simp [this]
  ·rfl
theorem rz {kindOf:Str→Option NameKind} {x:Str}:∀{binds:List (Str×Value)} {m:Str→Option Value},(∀v,(x,v)∉binds)→bindC kindOf binds m x=m x
 | [],_,_=>rfl
 | (n,v) :: r,m,h=>by
  unfold bindC
  rw [rz fun w hw=>h w (List.mem_cons_of_mem _ hw)]
  split
  ·rfl
  ·have:x≠n:=by rintro rfl;exact h v List.mem_cons_self
   simp [this]
theorem qF {kindOf:Str→Option NameKind} {x:Str} {v:Value}:∀{P:List Str} {vs:List Value} {i:Nat} {m:Str→Option Value},P.Nodup→P[i]?=some x→vs[i]?=some v→kindOf x=some .local →
  bindL kindOf (P.zip vs) m x=some v
 | [],_,_,_,_,h,_,_=>by simp at h
 | _ :: _,[],_,_,_,_,h,_=>by simp at h
 | p :: P,w :: vs,0,m,nd,h1,h2,hk=>by
  simp at h1 h2;subst h1;subst h2
  show bindL kindOf ((p,w) :: P.zip vs) m p=_
  unfold bindL
  rw [qG fun v hv=>(List.nodup_cons.mp nd).1 (List.of_mem_zip hv).1,if_pos hk]
  simp
 | p :: P,w :: vs,i + 1,m,nd,h1,h2,hk=>by
  show bindL kindOf ((p,w) :: P.zip vs) m x=_
  unfold bindL
  exact qF (i:=i) (List.nodup_cons.mp nd).2 (by simpa using h1) (by simpa using h2) hk
theorem qy {kindOf:Str→Option NameKind} {x:Str} {v:Value}:∀{P:List Str} {vs:List Value} {i:Nat} {m:Str→Option Value},P.Nodup→P[i]?=some x→vs[i]?=some v→kindOf x≠some .local →
  bindC kindOf (P.zip vs) m x=some v
 | [],_,_,_,_,h,_,_=>by simp at h
 | _ :: _,[],_,_,_,_,h,_=>by simp at h
 | p :: P,w :: vs,0,m,nd,h1,h2,hk=>by
  simp at h1 h2;subst h1;subst h2
  show bindC kindOf ((p,w) :: P.zip vs) m p=_
  unfold bindC
  rw [rz fun v hv=>(List.nodup_cons.mp nd).1 (List.of_mem_zip hv).1,if_neg hk]
  simp
 | p :: P,w :: vs,i + 1,m,nd,h1,h2,hk=>by
  show bindC kindOf ((p,w) :: P.zip vs) m x=_
  unfold bindC
  exact qy (i:=i) (List.nodup_cons.mp nd).2 (by simpa using h1) (by simpa using h2) hk
def start (N:List Str) (vs:List V):St:=vs.map some ++ List.replicate (N.length - vs.length) none
def fY (CX:BL) (P:Program) (w:World) (K:PySem.W.Frag) (mg:Str→Option Value) (base:Heap) (N:List Str) (qual:Str) (scope:Scope) (f:Addr) (cd:Value) (A:Around) (outer:List Env) (s:Shared) (H:Hp) (E:XK):Cx where
 prog:=P
 w:=w
 K:=K
 mg:=mg
 base:=base
 A:=A.deeper (envOfC qual scope s.heap.objs.size f cd)
 N:=N
 s₀:=s
 H₀:=H
 env:=envOfC qual scope s.heap.objs.size f cd
 outer:=outer
 stack:=envOfC qual scope s.heap.objs.size f cd :: outer
 ex:=[]
 calm:=true
 fn:=fun _=>true
 pn:=[]
 xe:=fun e s'=>wpAny (model P w) (A.deeper (envOfC qual scope s.heap.objs.size f cd)) (leaving (envOfC qual scope s.heap.objs.size f cd) e) (fun _ s''=>CX outer H s E e s'') (fun e' s''=>CX outer H s E e' s'') s'
theorem u7 {sc:Scope} {n:Nat} {x:Str} (h:sc.names.lookup x=some .cell):∃c,(cellsFrom n sc.names []).lookup x=some c:=by
 have q:=PySem.W.cellsFrom_some sc.names n [] (.inl h)
 exact Option.isSome_iff_exists.mp q
theorem qK {CX:BL} {P:Program} {w:World} {K:PySem.W.Frag} {mg:Str→Option Value} {base:Heap} {N ps:List Str} {qual:Str} {scope:Scope} {f:Addr} {cd:Value} {A:Around} {outer:List Env} {s s1:Shared} {H:Hp} {E:XK} {us:List Value} {vs:List V}
  (S:aG N ps scope) (hd:A.handled=none) (e0:yV P w K mg base A outer s H) (hl:vs.length=ps.length) (r:Vals vs us)
  (x:InCallC s s.heap.objs.size (bindL (envOfC qual scope s.heap.objs.size f cd).kindOf (ps.zip us) fun _=>none) (cellsFrom (s.heap.objs.size + 1) scope.names []) (bindC (envOfC qual scope s.heap.objs.size f cd).kindOf (ps.zip us) fun _=>none) s1) :
  Inv (fY CX P w K mg base N qual scope f cd A outer s H E) [] (start N vs) H s1:=by
 have hpl:ps.length≤N.length:=by have:=congrArg List.length S.pre;rw [List.length_take] at this;omega
 obtain⟨h1,tk,rfl,hk⟩:=x.done
 have noA:∀b:Addr,b∉(fY CX P w K mg base N qual scope f cd A outer s H E).ex:=fun b z=>absurd (show b∈([]:List Addr) from z) (by simp)
 refine⟨⟨e0.mod,S.kind,rfl,rfl,Nat.le_refl _,fun y z c h1 h2=>?_,fun y hy=>?_,fun y c _ h=>?_,fun _=>hd,Around.frames_deeper e0.frames,.inr ⟨rfl,rfl⟩,fun b z=>absurd z (noA b),e0.bs,e0.bsz,fun b _ _=>noA b,fun b z=>absurd z (noA b),e0.kj,e0.frf⟩,
  rfl,e0.bare,Un.kept hk,⟨_,x.toInCall.ns,fun i y v h1 h2 h3=>?_⟩,fun y c h=>⟨_,x.cell y c h⟩,e0.hok.fresh (Nat.le_refl _),fun y c h=>?_,fun p hp=>absurd (show p∈([]:List (Addr×Obj)) from hp) (by simp),e0.hok.kept hk,?_⟩
 ·exact name_of_addr x.apart (PySem.mem_of_lookup h1) (PySem.mem_of_lookup h2)
 ·have hy:scope.names.lookup y=some .cell∨scope.names.lookup y=some .free:=hy
  rcases hy with hy | hy
  ·exact u7 hy
  ·exact absurd rfl (S.nofree _ (PySem.mem_of_lookup hy))
 ·exact Nat.le_of_lt (x.above y c (PySem.mem_of_lookup h))
 ·have hi:i < vs.length:=by
   unfold start at h2
   by_cases hi:i < vs.length
   ·exact hi
   ·rw [List.getElem?_append_right (by simpa using hi)] at h2
    rw [List.getElem?_replicate] at h2
    split at h2 <;> cases h2
  have ha:vs[i]?=some v:=by
   unfold start at h2
   rw [List.getElem?_append_left (by simpa using hi),List.getElem?_map] at h2
   cases e:vs[i]? with
   | none=>rw [e] at h2;cases h2
   | some a=>rw [e] at h2;cases h2;rfl
  obtain⟨u,hu,rv⟩:=r.get ha
  have hp:ps[i]?=some y:=by
   rw [← S.pre,List.getElem?_take_of_lt (by omega)];exact h1
  have ndP:ps.Nodup:=by rw [← S.pre];exact S.nd.sublist (List.take_sublist _ _)
  refine⟨u,rv,?_⟩
  rcases S.par y (List.mem_of_getElem? hp) with k | k
  ·exact .inl ⟨k,qF ndP hp hu k⟩
  ·obtain⟨c,e⟩:=u7 (n:=s.heap.objs.size + 1) k
   refine .inr ⟨.inl k,c,e,?_⟩
   have q:=x.cell y c e
   rw [qy ndP hp hu (by show scope.names.lookup y≠_;rw [k];decide)] at q
   exact q
 ·exact e0.hok.fresh (Nat.le_of_lt (x.above y c (PySem.mem_of_lookup h)))
 ·unfold start
  show _=N.length
  rw [List.length_append,List.length_map,List.length_replicate]
  omega
theorem yM {CX:BL} {P:Program} {w:World} {K:PySem.W.Frag} {mg:Str→Option Value} {base:Heap} {k:Nat} {f:Addr} {name qual:Str} {params:Arguments} {body:List Stmt} {scope:Scope} {dV kV doc pm cdv ct oc:Value} {an od:Option Addr}
  {osl:Array (Option Value)} {N ps:List Str} {sp:Sp} (lk:K.lookup f=some ⟨oc,od,.func (PySem.W.fnOf name qual params body scope dV kV doc pm an cdv ct),osl⟩) (hcd:PySem.W.codeIn K cdv qual=true) (S:aG N ps scope)
  (len:∀vs H Q E,sp vs H Q E→vs.length=ps.length)
  (hbody:∀(A:Around) (outer:List Env) (s:Shared) (H:Hp) (vs:List V) (Q:VK) (E:XK),cY k (A.deeper (envOfC qual scope s.heap.objs.size f cdv))→sp vs H Q E →
   ∃t,vc (fY CX P w K mg base N qual scope f cdv A outer s H E) body t∧t { nx:=fun _ H'=>Q .non H',rt:=Q } (start N vs) H) :
  l7 P w K mg base CX (k + 1) f (PySem.W.fnOf name qual params body scope dV kV doc pm an cdv ct) ps sp:=by
 refine⟨len,fun A outer s H args us vs Q E hr e0 hb r hsp=>?_⟩
 have hl:=len _ _ _ _ hsp
 have KX:K.In s.heap:=e0.mod.kin.keeps fun b o e=>(e0.bs b o e).1
 have lim:s.heap.NoLimit:=e0.mod.nolimit.keeps fun b o e=>(e0.bs b o e).1
 have hkind:∀y∈ps.zip us,scope.names.lookup y.1=some .local∨(scope.names.lookup y.1=some .cell∧((cellsFrom (s.heap.objs.size + 1) scope.names []).lookup y.1).isSome=true):=fun⟨n,v⟩ hy=>by
  rcases S.par n (List.of_mem_zip hy).1 with q | q
  ·exact .inl q
  ·exact .inr ⟨q,PySem.W.cellsFrom_some _ _ _ (.inl q)⟩
 refine codeAny_call_function hr.depth (KX _ _ lk) rfl S.co S.gen rfl (PySem.W.codeRec_of KX hcd) (hb _ _ _ _ ?_)
 refine wpAny_newFunctionEnv_cells S.kind hkind fun env he s1 x=>?_
 subst he
 refine⟨lim.keeps x.toInCall.keep,codeAny_func ?_⟩
 obtain⟨t,ht,hq⟩:=hbody A outer s H vs Q E (hr.deeper _) hsp
 have I:Inv (fY CX P w K mg base N qual scope f cdv A outer s H E) [] (start N vs) H s1:=qK S hr.hd e0 hl r x
 refine wpAny_mono (ht [] s1 (start N vs) H _ I hq) (fun fl s' hs=>?_) fun e s' hs=>hs
 have fin:∀{σ':St} {H':Hp} {v:V} {u:Value},Inv (fY CX P w K mg base N qual scope f cdv A outer s H E) [] σ' H' s'→RelV v u→Q v H'→CE outer P w H s Q u s' :=
  fun {σ' H' v u} J rv q=>⟨v,H',J.os,J.bare,J.base,J.hok,rv,q⟩
 cases fl with
 | ret u =>
  obtain⟨v,σ',H',J,rv,q⟩:=hs
  exact fin J rv q
 | next =>
  obtain⟨σ',H',J,q⟩:=hs
  exact fin (v:=V.non) (u:=Value.none) J rfl q
 | brk =>
  obtain⟨_,_,_,q⟩:=hs
  exact False.elim q
 | cont =>
  obtain⟨_,_,_,q⟩:=hs
  exact False.elim q
end L2
namespace L2
open PySem PySem.Spec PyProof.Rows
section
variable {X:Cx} {x:Str} {p pos:Pos} {e:Expr} {es:List Expr} {t:TA} {id T:String} {r:List V→Hp→VK→Prop}
def Jj (r:List V→Hp→VK→Prop) (t:TA):TE:=fun σ H Q=>t σ H fun vs H1=>r vs H1 Q
theorem uS (hc:dq X (.builtin id) r) (hg:Gl X x) (hm:X.mg x=none) (hv:bootBuiltins x=some (.builtin id)) (ha:PA X (e :: es) t) (hn:x≠"__name__":=by decide) (hdb:(x == ("__debug__" : Str))=false:=by decide)
  (he:starEach (e :: es) X.env=(false,eval e X.env) :: starEach es X.env:=by rfl) (hpl:(backTo pos (starEach es X.env)).any (·.1)=false:=by rfl):PE X (.Call (.Name x p) (e :: es) [] pos) (Jj r t):=by
 intro pins s σ H Q I h
 refine wpAny_Call_Name_kw (jZ I hg hm hv ?_ hn hdb)
 exact PyProof.Rows.callWith_builtin1 (bP (ha pos pins s σ H _ I h) fun us s1 ⟨vs,H1,I1,r1,q1⟩=>hc pins s1 σ H1 vs us Q I1 r1 q1) he hpl
theorem mj (hc:dq X (.type T) r) (hg:Gl X x) (hm:X.mg x=none) (hv:bootBuiltins x=some (.type T)) (ha:PA X (e :: es) t) (hn:x≠"__name__":=by decide) (hdb:(x == ("__debug__" : Str))=false:=by decide)
  (he:starEach (e :: es) X.env=(false,eval e X.env) :: starEach es X.env:=by rfl) (hpl:(backTo pos (starEach es X.env)).any (·.1)=false:=by rfl):PE X (.Call (.Name x p) (e :: es) [] pos) (Jj r t):=by
 intro pins s σ H Q I h
 refine wpAny_Call_Name_kw (jZ I hg hm hv ?_ hn hdb)
 exact PyProof.Rows.callWith_type1 (bP (ha pos pins s σ H _ I h) fun us s1 ⟨vs,H1,I1,r1,q1⟩=>hc pins s1 σ H1 vs us Q I1 r1 q1) he hpl
end
end L2
namespace HT
open PySem PyProof.Rows
section
variable {prog:Program} {w:World} {A:Around} {E:Value→Shared→Prop} {s:Shared}
theorem C5 {t b:Addr} {vs ws:List Value} {Q:Value→Shared→Prop} (ht:IsTup s.heap t vs.toArray) (hb:IsTup s.heap b ws.toArray) (hv:vs≠[])
  (h1:ws=[]→Q (.ref t) s) (h2:ws≠[]→Q (.ref s.heap.objs.size) { s with heap:=s.heap.push { cls:=.type "tuple",data:=.seq (vs ++ ws).toArray } })
  (hsz:vs.length + ws.length≤sizeLine):wpAny (model prog w) A (binaryOp .Add (.ref t) (.ref b)) Q E s:=by
 obtain⟨⟨cls,dd,data,sl⟩,ho,hc,n,hd⟩:=id ht
 obtain⟨⟨cls2,dd2,data2,sl2⟩,ho2,hc2,n2,hd2⟩:=id hb
 simp only at hc hd hc2 hd2
 subst hc hd hc2 hd2
 have e:vs.toArray ++ ws.toArray=(vs ++ ws).toArray:=by simp
 by_cases hw:ws=[]
 ·exact concat_meets ⟨_,ho,rfl⟩ ⟨_,ho2,rfl⟩ noFill_tuple_add seq_tuple_add PySem.F.slot_tuple_add PySem.F.entry_tuple_add (PySem.F.args_tuple_add_2 _ _)
   (tuple_addW1 t b vs.toArray ws.toArray n n2 dd dd2 sl sl2 (by simpa using hv) (by simp [hw])) ⟨ho,ho2,h1 hw⟩
 ·refine concat_meets ⟨_,ho,rfl⟩ ⟨_,ho2,rfl⟩ noFill_tuple_add seq_tuple_add PySem.F.slot_tuple_add PySem.F.entry_tuple_add (PySem.F.args_tuple_add_2 _ _)
   (tuple_addW2 t b vs.toArray ws.toArray n n2 dd dd2 sl sl2 (by simpa using hv) (by simpa using hw) (by rw [List.size_toArray,List.size_toArray];exact hsz)) ⟨ho,ho2,?_⟩
  rw [e]
  exact h2 hw
def dZ (n d:Nat):Option Int→Nat
 | none=>d
 | some v=>if v < 0 then (v + (n:Int)).toNat else min v.toNat n
theorem x5 (n d k:Nat):dZ n d (some (k:Int))=min k n:=by
 show (if (k:Int) < 0 then ((k:Int) + (n:Int)).toNat else min (k:Int).toNat n)=min k n
 rw [if_neg (by omega),Int.toNat_natCast]
theorem Gu (n d:Nat) (hd:d≤n) (o:Option Int):dZ n d o≤n:=by
 cases o with
 | none=>exact hd
 | some v =>
  show (if v < 0 then (v + (n:Int)).toNat else min v.toNat n)≤n
  by_cases hv:v < 0
  ·rw [if_pos hv];omega
  ·rw [if_neg hv];exact Nat.min_le_right _ _
theorem yG (v:Int) (n d:Nat):(if v < 0 then max (v + (n:Int)) 0 else min v (n:Int))=((dZ n d (some v):Nat):Int):=by
 show (if v < 0 then max (v + (n:Int)) 0 else min v (n:Int))=(((if v < 0 then (v + (n:Int)).toNat else min v.toNat n):Nat):Int)
 by_cases hv:v < 0
 ·simp only [if_pos hv];omega
 ·simp only [if_neg hv];omega
theorem xN (lo hi:Option Int) (n:Nat):Builtin.Slice.sliceAdjust lo hi 1 (n:Int)=(((dZ n 0 lo:Nat):Int),((dZ n n hi:Nat):Int)):=by
 have h1:¬ ((1:Int) < 0):=by omega
 unfold Builtin.Slice.sliceAdjust
 simp only [h1,if_false]
 refine Prod.ext ?_ ?_
 ·cases lo with
  | none=>rfl
  | some v=>exact yG v n 0
 ·cases hi with
  | none=>rfl
  | some v=>exact yG v n n
theorem xV (i j:Nat):Builtin.Slice.slicePlaces (i:Int) (j:Int) 1=j - i:=by
 unfold Builtin.Slice.slicePlaces
 have h1:(1:Int) > 0:=by omega
 simp only [h1,if_true,Int.ediv_one]
 split <;> omega
theorem oN {v:Value} {o:Option Int} {Q:Option Int→Shared→Prop} (p:IsPart v o) (h:Q o s):wpAny (model prog w) A (Builtin.Slice.slicePartIndex v) Q E s:=by
 cases p with
 | none=>exact slicePart_none h
 | int i t=>exact slicePart_int h
theorem l9 {sl:Addr} {vl vu:Value} {lo hi:Option Int} {n:Nat} {Q:Int×Int×Nat→Shared→Prop} (hs:s.heap.IsSliceOf sl vl vu .none) (pl:IsPart vl lo) (pu:IsPart vu hi)
  (h:Q (((dZ n 0 lo:Nat):Int),1,dZ n n hi - dZ n 0 lo) s):wpAny (model prog w) A (Builtin.Slice.sliceApplied (.ref sl) (pure (n:Int))) Q E s:=by
 obtain⟨os,hos,hcs,hds⟩:=id hs
 unfold Builtin.Slice.sliceApplied Builtin.Slice.sliceFields
 refine wpAny_bind (wpAny_bind (wpAny_field hos hds (x:=vl) rfl (wpAny_bind (wpAny_field hos hds (x:=vu) rfl (wpAny_bind (wpAny_field hos hds (x:=.none) rfl (wpAny_pure ?_)))))))
 refine wpAny_bind (slicePart_none ?_)
 show wpAny _ _ (if ((1:Int) == 0)=true then _ else _) _ _ s
 rw [if_neg (by decide)]
 refine wpAny_bind (oN pl (wpAny_bind (oN pu (wpAny_bind (wpAny_pure ?_)))))
 show wpAny _ _ (match Builtin.Slice.sliceAdjust lo hi 1 (n:Int) with | (lo,hi)=>pure (lo,(1:Int),Builtin.Slice.slicePlaces lo hi 1)) _ _ s
 rw [xN lo hi n]
 show wpAny _ _ (pure (((dZ n 0 lo:Nat):Int),(1:Int),Builtin.Slice.slicePlaces ((dZ n 0 lo:Nat):Int) ((dZ n n hi:Nat):Int) 1)) _ _ s
 rw [xV]
 exact wpAny_pure h
theorem zG (xs:Array Value) (i k:Nat):((List.range k).filterMap fun (m:Nat)=>xs[((i:Int) + (m:Int) * 1).toNat]?).toArray=((xs.toList.drop i).take k).toArray:=by
 have e:(fun (m:Nat)=>xs[((i:Int) + (m:Int) * 1).toNat]?)=fun m=>xs[i + m]?:=by
  funext m
  have:((i:Int) + (m:Int) * 1).toNat=i + m:=by omega
  rw [this]
 rw [e]
 have:=pick_run xs i k
 rw [List.filterMap_map] at this
 have e2:((fun x=>xs[x]?)∘fun x=>i + x)=fun m=>xs[i + m]?:=rfl
 rw [e2] at this
 rw [this]
theorem kL {t sl:Addr} {items:Array Value} {vl vu:Value} {lo hi:Option Int} {Q:Value→Shared→Prop} (ht:IsTup s.heap t items) (hs:s.heap.IsSliceOf sl vl vu .none) (pl:IsPart vl lo) (pu:IsPart vu hi)
  (hw:¬ (dZ items.size 0 lo=0∧dZ items.size items.size hi=items.size))
  (h:Q (.ref s.heap.objs.size) { s with heap:=s.heap.push { cls:=.type "tuple",data:=.seq ((items.toList.drop (dZ items.size 0 lo)).take (dZ items.size items.size hi - dZ items.size 0 lo)).toArray } })
  (hsz:items.size≤sizeLine):wpAny (model prog w) A (getItem (.ref t) (.ref sl)) Q E s:=by
 have htake:sizeOk (.seq ((items.toList.drop (dZ items.size 0 lo)).take (dZ items.size items.size hi - dZ items.size 0 lo)).toArray):=by
  show ((items.toList.drop (dZ items.size 0 lo)).take (dZ items.size items.size hi - dZ items.size 0 lo)).toArray.size≤sizeLine
  rw [List.size_toArray,List.length_take,List.length_drop,Array.length_toList]
  omega
 have hj:dZ items.size items.size hi≤items.size:=Gu _ _ (Nat.le_refl _) hi
 obtain⟨os,hos,hcs,hds⟩:=id hs
 have hTs:s.TypeIs (.ref sl) "slice":=⟨os,hos,hcs⟩
 unfold getItem
 try with_reducible refine wpAny_holding ?_
 first | refine wpAny_bind (wpAny_pure ?_) | skip
 refine wpAny_bind (wpAny_sequenceKey ht.typeIs (by decide) ?_)
 refine wpAny_bind (wpAny_callSpecial?_slot (name:=Str.ofString "__getitem__") ht.typeIs PyProof.Rows.slot_tuple_getitem
  (wpAny_call_entry PyProof.Rows.slot_tuple_getitem ht.typeIs entry_tuple_getitem ?_ (args_tuple_getitem _ _)))
 show wpAny _ _ (Builtin.Tuple.tupleItemsOf (.ref t) >>= _) _ _ s
 refine wpAny_bind (tupleItemsOf_ ht ?_)
 refine wpAny_bind (wpAny_typeOf hTs ?_)
 rw [if_pos (by decide)]
 refine wpAny_bind (l9 hs pl pu ?_)
 have hno:¬ ((((dZ items.size 0 lo:Nat):Int) == 0 && (1:Int) == 1 && (dZ items.size items.size hi - dZ items.size 0 lo) == items.size)=true):=by
  intro q
  rw [Bool.and_eq_true,Bool.and_eq_true] at q
  have q1:((dZ items.size 0 lo:Nat):Int)=0:=eq_of_beq q.1.1
  have q2:dZ items.size items.size hi - dZ items.size 0 lo=items.size:=eq_of_beq q.2
  exact hw ⟨by omega,by omega⟩
 show wpAny _ _ (if (((dZ items.size 0 lo:Nat):Int) == 0 && (1:Int) == 1 && (dZ items.size items.size hi - dZ items.size 0 lo) == items.size)=true then _ else _) _ _ s
 rw [if_neg hno,zG]
 first
  | exact wpAny_bind (m:=Builtin.Tuple.tupleExact _) (wpAny_newObj_type (wpAny_pure ⟨_,rfl,wpAny_pure h⟩) htake)
  | exact wpAny_bind (m:=Builtin.Tuple.tupleExact _) (wpAny_newObj_type (wpAny_bind (wpAny_pure (wpAny_pure ⟨_,rfl,wpAny_pure h⟩))) htake)
  | exact wpAny_bind (wpAny_bind (m:=Builtin.Tuple.tupleExact _) (wpAny_newObj_type (wpAny_pure (wpAny_pure ⟨_,rfl,wpAny_pure h⟩)) htake))
  | exact wpAny_bind (wpAny_bind (m:=Builtin.Tuple.tupleExact _) (wpAny_newObj_type (wpAny_pure ⟨_,rfl,wpAny_pure h⟩) htake))
end
end HT
namespace L2
open PySem PySem.Spec PyProof.Rows
abbrev TO:=St→Hp→(Option Int→Hp→Prop)→Prop
def PO (X:Cx) (e:Option Expr) (t:TO):Prop :=
 ∀(pins:List (Addr×Obj)) (s:Shared) (σ:St) (H:Hp) (Q:Option Int→Hp→Prop),Inv X pins σ H s→t σ H Q →
  wpAny (model X.prog X.w) X.A (evalPart e X.env) (fun u s'=>∃o H',Inv X pins σ H' s'∧IsPart u o∧Q o H') X.xe s
def DA:TO:=fun _ H Q=>Q none H
def Ij (t:TE):TO:=fun σ H Q=>t σ H fun x H1=>∃i,x=.int i∧Q (some i) H1
section
variable {X:Cx} {e:Expr} {te:TE} {lo hi:Option Expr} {tl th:TO} {pos p2:Pos}
theorem Di:PO X none DA:=by
 intro pins s σ H Q I h
 rw [evalPart_none]
 exact wpAny_pure ⟨none,H,I,.none,h⟩
theorem C7 (h:PE X e te):PO X (some e) (Ij te):=by
 intro pins s σ H Q I hw
 rw [evalPart_some]
 refine bP (h pins s σ H _ I hw) fun u s1 ⟨x,H1,I1,r1,q1⟩=>?_
 obtain⟨i,rfl,q⟩:=q1
 obtain⟨t,rfl⟩:=r1
 exact⟨some i,H1,I1,.int i t,q⟩
def C3 (X:Cx) (r:V→Option Int→Option Int→Hp→VK→Prop):Prop :=
 ∀(pins:List (Addr×Obj)) (s:Shared) (σ:St) (H:Hp) (x:V) (v vl vu:Value) (lo hi:Option Int) (sl:Addr) (Q:VK),Inv X pins σ H s→RelV x v→s.heap.IsSliceOf sl vl vu .none→IsPart vl lo→IsPart vu hi→r x lo hi H Q →
  ∃T id,typeLookup (.type T) "__getitem__" = pure (some (.builtin id))∧s.TypeIs v T∧wpAny (model X.prog X.w) X.A (getItem v (.ref sl)) (EP X pins σ Q) X.xe s
theorem C3.or {r r':V→Option Int→Option Int→Hp→VK→Prop} (h:C3 X r) (h':C3 X r'):C3 X (fun x lo hi H Q=>r x lo hi H Q∨r' x lo hi H Q):=by
 intro pins s σ H x v vl vu lo hi sl Q I rx hs pl pu q
 rcases q with q | q
 ·exact h pins s σ H x v vl vu lo hi sl Q I rx hs pl pu q
 ·exact h' pins s σ H x v vl vu lo hi sl Q I rx hs pl pu q
def JU (r:V→Option Int→Option Int→Hp→VK→Prop) (te:TE) (tl th:TO):TE:=fun σ H Q=>te σ H fun x H1=>tl σ H1 fun l H2=>th σ H2 fun u H3=>r x l u H3 Q
theorem vT {r:V→Option Int→Option Int→Hp→VK→Prop} (hr:C3 X r) (he:PE X e te) (hl:PO X lo tl) (hu:PO X hi th):PE X (.Subscript e (.Slice lo hi none p2) pos) (JU r te tl th):=by
 intro pins s σ H Q I h
 refine Subscript_ (bP (he pins s σ H _ I h) fun v s1 ⟨x,H1,I1,r1,q1⟩=>?_)
 refine wpAny_Slice (bP (hl pins s1 σ H1 _ I1 q1) fun vl s2 ⟨l,H2,I2,pl,q2⟩=>bP (hu pins s2 σ H2 _ I2 q2) fun vu s3 ⟨u,H3,I3,pu,q3⟩=>?_)
 rw [evalPart_none]
 refine wpAny_pure ?_
 have I4:Inv X pins σ H3 { s3 with heap:=s3.heap.push { cls:=.type "slice",data:=.fields #[vl,vu,.none] } }:=I3.kept (t':=s3.toks) fun b ob q=>Heap.get?_push_of_some _ q
 obtain⟨T,id,hT,ht,hg⟩:=hr pins { s3 with heap:=s3.heap.push { cls:=.type "slice",data:=.fields #[vl,vu,.none] } } σ H3 x v vl vu l u s3.heap.objs.size Q I4 r1 (Heap.IsSliceOf.new ..) pl pu q3
 show wpAny (model X.prog X.w) X.A (subscriptTail e (.Slice lo hi none p2) v (.ref s3.heap.objs.size)) (EP X pins σ Q) X.xe { s3 with heap:=s3.heap.push { cls:=.type "slice",data:=.fields #[vl,vu,.none] } }
 exact tail_any (ops:=[.ref s3.heap.objs.size,v]) ht hT hg (by with_unfolding_all rfl)
def qg (xs:List V) (lo hi:Option Int):List V:=(xs.drop (HT.dZ xs.length 0 lo)).take (HT.dZ xs.length xs.length hi - HT.dZ xs.length 0 lo)
theorem mL (xs:List V) (lo hi:Option Int):(qg xs lo hi).length≤xs.length:=by
 unfold qg
 rw [List.length_take,List.length_drop]
 omega
def IL (K:PySem.W.Frag):V→Option Int→Option Int→Hp→VK→Prop:=fun x lo hi H Q=>∃a xs,x=.ref a∧iy K H a xs ∧
 ¬ (HT.dZ xs.length 0 lo=0∧HT.dZ xs.length xs.length hi=xs.length)∧∀p,H p=none→Q (.ref p) (upd H p (.tup (qg xs lo hi)))
theorem Fb:C3 X (IL X.K):=by
 intro pins s σ H x v vl vu lo hi sl Q I rx hs pl pu h
 obtain⟨a,xs,rfl,hx,hw,q⟩:=h
 cases rx
 obtain⟨its,r,ht,hz⟩:=I.tuple hx
 have hlen:its.toArray.size=xs.length:=by rw [List.size_toArray];exact r.length.symm
 refine⟨"tuple",_,PyProof.Rows.slot_tuple_getitem.lookup,ht.typeIs,?_⟩
 refine HT.kL ht hs pl pu (by rw [hlen];exact hw) ?_ (by rw [hlen];exact hz)
 rw [hlen]
 refine⟨.ref s.heap.objs.size,_,I.laid (t':=s.toks) (o:=.tup (qg xs lo hi)) (fun b ob q=>Heap.get?_push_of_some _ q) (Nat.le_refl _) ?_,rfl,q _ (I.hok.fresh (Nat.le_refl _))⟩
 exact⟨Nat.le_trans (mL xs lo hi) hz,_,(r.drop (HT.dZ xs.length 0 lo)).take (HT.dZ xs.length xs.length hi - HT.dZ xs.length 0 lo),rY.new _ _⟩
def Eh (K:PySem.W.Frag):R2:=fun x y H Q=>∃a b xs ys,x=.ref a∧y=.ref b∧iy K H a xs∧iy K H b ys∧xs≠[]∧xs.length + ys.length≤sizeLine ∧
 (ys=[]→Q (.ref a) H)∧(ys≠[]→∀p,H p=none→Q (.ref p) (upd H p (.tup (xs ++ ys))))
theorem Vals.tu {xs:List V} {us:List Value} (r:Vals xs us):us=[]↔xs=[]:=by
 cases r with
 | nil=>simp
 | cons _ _=>simp
theorem Cs:gT X (binaryOp .Add) (Eh X.K):=by
 intro pins s σ H x y v u Q I rx ry h
 obtain⟨a,b,xs,ys,rfl,rfl,ha,hb,hx,hz,q1,q2⟩:=h
 cases rx
 cases ry
 obtain⟨its,r1,p1,_⟩:=I.tuple ha
 obtain⟨its2,r2,p2,_⟩:=I.tuple hb
 refine HT.C5 p1 p2 (fun z=>hx (r1.tu.mp z)) (fun z=>⟨.ref a,H,I,rfl,q1 (r2.tu.mp z)⟩) (fun z=>?_) (by rw [← r1.length,← r2.length];exact hz)
 refine⟨.ref s.heap.objs.size,_,I.laid (t':=s.toks) (o:=.tup (xs ++ ys)) (fun b ob q=>Heap.get?_push_of_some _ q) (Nat.le_refl _) ?_,rfl,q2 (fun w=>z (r2.tu.mpr w)) _ (I.hok.fresh (Nat.le_refl _))⟩
 exact⟨by rw [List.length_append];exact hz,_,r1.append r2,rY.new _ _⟩
end
end L2
namespace L2
open PySem PySem.Spec PyProof.Rows
def r9 (n:Nat) (i:Int):Option Nat:=if 0≤i then (if i < n then some i.toNat else none) else if -(n:Int)≤i then some (i + n).toNat else none
def jN {α:Type} (xs:List α) (i:Int):Option α:=(r9 xs.length i).bind fun j=>xs[j]?
theorem nN {n:Nat} {i:Int} {j:Nat} (h:r9 n i=some j):seqIndex? i n=some j∧j < n∧-(n:Int)≤i∧i < n:=by
 unfold r9 at h
 by_cases h0:0≤i
 ·rw [if_pos h0] at h
  by_cases h1:i < n
  ·rw [if_pos h1] at h
   have e:i.toNat=j:=Option.some.inj h
   exact⟨by rw [seqIndex_of h0 h1,e],by omega,by omega,h1⟩
  ·rw [if_neg h1] at h;cases h
 ·rw [if_neg h0] at h
  by_cases h1:-(n:Int)≤i
  ·rw [if_pos h1] at h
   have e:(i + n).toNat=j:=Option.some.inj h
   exact⟨by rw [seqIndex_neg (by omega) h1,e],by omega,h1,by omega⟩
  ·rw [if_neg h1] at h;cases h
theorem rK {α:Type} {xs:List α} {i:Int} {v:α} (h:jN xs i=some v):∃j,seqIndex? i xs.length=some j∧xs[j]?=some v∧j < xs.length∧-(xs.length:Int)≤i∧i < xs.length:=by
 unfold jN at h
 cases e:r9 xs.length i with
 | none=>rw [e] at h;cases h
 | some j =>
  rw [e] at h
  obtain⟨h1,h2,h3,h4⟩:=nN e
  exact⟨j,h1,h,h2,h3,h4⟩
def kP (b:Expr):Prop:=∀o i,subscripted b false o i=operate [o,i] (getItem o i)
def zU (X:Cx) (r:R2):Prop :=
 ∀(value slice:Expr) (pins:List (Addr×Obj)) (s:Shared) (σ:St) (H:Hp) (x y:V) (v u:Value) (Q:VK),Inv X pins σ H s→RelV x v→RelV y u→r x y H Q →
  subscripted slice false v u=operate [v,u] (getItem v u)→wpAny (model X.prog X.w) X.A (subscriptTail value slice v u) (EP X pins σ Q) X.xe s
def JS (X:Cx) (id:String) (r:V→List V→Hp→VK→Prop):Prop :=
 ∀(pins:List (Addr×Obj)) (s:Shared) (σ:St) (H:Hp) (x:V) (xs:List V) (v:Value) (us:List Value) (Q:VK),Inv X pins σ H s→RelV x v→Vals xs us→r x xs H Q →
  wpAny (model X.prog X.w) X.A (call (.builtin id) (v :: us)) (EP X pins σ Q) X.xe s
section
variable {X:Cx} {a b:Expr} {ta tb:TE} {pos:Pos}
theorem zU.or {r r':R2} (h:zU X r) (h':zU X r'):zU X (fun x y H Q=>r x y H Q∨r' x y H Q):=by
 intro value slice pins s σ H x y v u Q I rx ry q hs
 rcases q with q | q
 ·exact h value slice pins s σ H x y v u Q I rx ry q hs
 ·exact h' value slice pins s σ H x y v u Q I rx ry q hs
theorem yi {r:R2} (hr:zU X r) (ha:PE X a ta) (hb:PE X b tb) (hs:kP b):PE X (.Subscript a b pos) (GQ r ta tb):=by
 intro pins s σ H Q I h
 exact Subscript_ (FQ ha hb I h fun v u s2 x y H2 I2 rx ry q=>hr a b pins s2 σ H2 x y v u Q I2 rx ry q (hs _ _))
def GS (K:PySem.W.Frag):R2:=fun x y H Q=>∃p xs i v,x=.ref p∧y=.int i∧fz K H p xs∧jN xs i=some v∧Q v H
def He (K:PySem.W.Frag):R2:=fun x y H Q=>∃p xs i v,x=.ref p∧y=.int i∧iy K H p xs∧jN xs i=some v∧Q v H
def G7:R2:=fun x y H Q=>∃z i c,x=.str z∧y=.int i∧z.length≤sizeLine∧jN z.cps.toList i=some c∧Q (.str ⟨#[c]⟩) H
theorem yf:zU X (GS X.K):=by
 intro value slice pins s σ H x y v u Q I rx ry h hs
 obtain⟨p,xs,i,z,rfl,rfl,hq,he,q⟩:=h
 cases rx
 obtain⟨t,rfl⟩:=ry
 obtain⟨its,r,pl,hz⟩:=I.list hq
 obtain⟨j,h1,h2,h3,h4,h5⟩:=rK he
 obtain⟨w,ew,rw'⟩:=r.get h2
 have hl:=r.length
 have hn:=mx
 have fin:EP X pins σ Q w s:=⟨z,H,I,rw',q⟩
 by_cases h0:0≤i
 ·have hj:i.toNat=j:=by
   rw [seqIndex_of h0 h5] at h1
   exact Option.some.inj h1
  exact item_listR pl.isList h0 (by omega) (by rw [hj];simpa using ew) fin hs
 ·have hj:(i + (its.toArray.size:Int)).toNat=j:=by
   rw [seqIndex_neg (by omega) h4] at h1
   rw [List.size_toArray,← hl]
   exact Option.some.inj h1
  exact subscriptTail_builtinR (x:=w) pl.isList.typeIs slot_list_getitem.lookup
   (wpAny_getItem_list_neg (Q:=fun r s'=>r=w∧EP X pins σ Q r s') pl.isList (by omega) (by rw [List.size_toArray] <;> omega) (by omega) (by rw [hj];simpa using ew) ⟨rfl,fin⟩) hs
theorem Gn:zU X (He X.K):=by
 intro value slice pins s σ H x y v u Q I rx ry h hs
 obtain⟨p,xs,i,z,rfl,rfl,hq,he,q⟩:=h
 cases rx
 obtain⟨t,rfl⟩:=ry
 obtain⟨its,r,pl,hz⟩:=I.tuple hq
 obtain⟨j,h1,h2,h3,h4,h5⟩:=rK he
 obtain⟨w,ew,rw'⟩:=r.get h2
 have hl:=r.length
 have hn:=mx
 have fin:EP X pins σ Q w s:=⟨z,H,I,rw',q⟩
 exact subscriptTail_builtinR (x:=w) pl.typeIs slot_tuple_getitem.lookup
  (getItem_tuple (j:=j) (Q:=fun r s'=>r=w∧EP X pins σ Q r s') pl (by omega) (by omega) (by rw [List.size_toArray,← hl];exact h1) (by simpa using ew) ⟨rfl,fin⟩) hs
theorem Gd:zU X G7:=by
 intro value slice pins s σ H x y v u Q I rx ry h hs
 obtain⟨z,i,c,rfl,rfl,hz,he,q⟩:=h
 obtain⟨t,rfl⟩:=rx
 obtain⟨t',rfl⟩:=ry
 obtain⟨j,h1,h2,h3,h4,h5⟩:=rK he
 have hl:z.cps.toList.length=z.length:=by simp [Str.length]
 rw [hl] at h1 h4 h5
 have hn:=mx
 exact tail_any (typeIs_str s z t) slot_str_getitem.lookup (getItem_str (c:=c) (by
  have e1:decide (i < -(2 ^ 63:Int))=false:=decide_eq_false (by omega)
  have e2:decide (i≥2 ^ 63)=false:=decide_eq_false (by omega)
  rw [e1,e2,Bool.or_false]) (by rw [h1];simpa using h2) ⟨.str ⟨#[c]⟩,H,I.tok _,⟨_,rfl⟩,q⟩) hs
def Jz (K:PySem.W.Frag):R2:=fun x y H Q=>GS K x y H Q∨He K x y H Q∨G7 x y H Q
theorem zZ:zU X (Jz X.K):=yf.or (Gn.or Gd)
theorem xB (its:List Value) (n j:Nat) (u:Value):Obj.mapSeq (·.setIfInBounds j u) { cls:=.type "list",data:=.seq its.toArray n }={ cls:=.type "list",data:=.seq (its.set j u).toArray n }:=by
 simp [Obj.mapSeq]
theorem Inv.lst {pins:List (Addr×Obj)} {σ:St} {H:Hp} {s:Shared} {p:Addr} {xs:List V} (I:Inv X pins σ H s) (h:H p=some (.lst xs)) :
  ∃(its:List Value) (n:Nat),Vals xs its∧s.heap.get? p=some { cls:=.type "list",data:=.seq its.toArray n }∧xs.length≤sizeLine:=by
 obtain⟨z,its,n,r,e⟩:=I.hok p _ h
 exact⟨its,n,r,e,z⟩
theorem Inv.Fp {pins:List (Addr×Obj)} {σ:St} {H:Hp} {s:Shared} {p:Addr} {xs ys:List V} {its its':List Value} {n n':Nat} {f:Obj→Obj} (I:Inv X pins σ H s) (h:H p=some (.lst xs))
  (ho:s.heap.get? p=some { cls:=.type "list",data:=.seq its.toArray n }) (hf:f { cls:=.type "list",data:=.seq its.toArray n }={ cls:=.type "list",data:=.seq its'.toArray n' }) (r:Vals ys its') (hz:ys.length≤sizeLine) (t:Nat) :
  Inv X pins σ (upd H p (.lst ys)) { s with heap:=s.heap.update p f,toks:=t }:=by
 have e:(s.heap.update p f).get? p=some { cls:=.type "list",data:=.seq its'.toArray n' }:=by
  rw [Heap.get?_update_self f ho (by rw [hf] <;> rfl),hf]
 refine I.write (x:=p) (e:=p) (by rw [h];trivial) (.inl rfl) (fun b u hb q=>(Heap.get?_update_other _ _ (Ne.symm hb)).trans q) ⟨_,e⟩ ?_
 exact⟨hz,its',n',r,e⟩
def HM:V→V→V→Hp→(Hp→Prop)→Prop:=fun o i v H Q=>∃p xs k j,o=.ref p∧i=.int k∧H p=some (.lst xs)∧r9 xs.length k=some j∧Q (upd H p (.lst (xs.set j v)))
theorem set_list:EY X HM:=by
 intro pins s σ H o i v ov iv u Q I ro ri rv h
 obtain⟨p,xs,k,j,rfl,rfl,hp,hj,q⟩:=h
 cases ro
 obtain⟨t,rfl⟩:=ri
 obtain⟨its,n,r,ho,hz⟩:=I.lst hp
 obtain⟨h1,h2,h3,h4⟩:=nN hj
 have hl:=r.length
 have hn:=mx
 have I':Inv X pins σ (upd H p (.lst (xs.set j v))) { s with heap:=s.heap.update p (Obj.mapSeq (·.setIfInBounds j u)) } :=
  I.Fp hp ho (xB its n j u) (r.set rv j) (by rw [List.length_set];exact hz) s.toks
 by_cases h0:0≤k
 ·have hk:k.toNat=j:=by
   rw [seqIndex_of h0 h4] at h1
   exact Option.some.inj h1
  exact PySem.W.ki_setAt ho h0 (by omega) (by rw [List.size_toArray,← hl];exact h4) (by rw [hk];exact⟨_,I',q⟩)
 ·have hk:(k + (its.toArray.size:Int)).toNat=j:=by
   rw [seqIndex_neg (by omega) h3] at h1
   rw [List.size_toArray,← hl]
   exact Option.some.inj h1
  exact PySem.W.ki_setBack ho (by omega) (by rw [List.size_toArray,← hl];exact h3) (by omega) (by rw [hk];exact⟨_,I',q⟩)
theorem tE (lo hi:Option Int) (n:Nat):(sliceBounds lo hi none n).1=((HT.dZ n 0 lo:Nat):Int)∧(sliceBounds lo hi none n).2.1=((HT.dZ n n hi:Nat):Int)∧(sliceBounds lo hi none n).2.2=1:=by
 refine⟨?_,?_,rfl⟩
 ·cases lo with
  | none=>simp [sliceBounds,HT.dZ]
  | some i =>
   simp only [sliceBounds,HT.dZ,Option.getD_none,show (1:Int) > 0 by decide,if_true]
   by_cases h:i < 0
   ·simp only [h,if_true] <;> omega
   ·simp only [h,if_false] <;> omega
 ·cases hi with
  | none=>simp [sliceBounds,HT.dZ]
  | some i =>
   simp only [sliceBounds,HT.dZ,Option.getD_none,show (1:Int) > 0 by decide,if_true]
   by_cases h:i < 0
   ·simp only [h,if_true] <;> omega
   ·simp only [h,if_false] <;> omega
theorem p7 (its:List Value) (lo hi:Option Int):slicePick its.toArray lo hi none=((its.drop (HT.dZ its.length 0 lo)).take (HT.dZ its.length its.length hi - HT.dZ its.length 0 lo)).toArray:=by
 obtain⟨h1,h2,h3⟩:=tE lo hi its.toArray.size
 unfold slicePick
 rw [h1,h2,h3]
 simp only [sliceRange_one,pick_run,List.size_toArray] <;> rfl
def II (K:PySem.W.Frag):V→Option Int→Option Int→Hp→VK→Prop:=fun x lo hi H Q=>∃a xs,x=.ref a∧fz K H a xs∧∀p,H p=none→Q (.ref p) (upd H p (.lst (qg xs lo hi)))
theorem CF:C3 X (II X.K):=by
 intro pins s σ H x v vl vu lo hi sl Q I rx hs pl pu h
 obtain⟨a,xs,rfl,hx,q⟩:=h
 cases rx
 obtain⟨its,r,ht,hz⟩:=I.list hx
 have hlen:=r.length
 refine⟨"list",_,slot_list_getitem.lookup,ht.isList.typeIs,?_⟩
 refine wpAny_getItem_list_slice ht.isList hs pl pu .none (by simp) ?_ (by rw [List.size_toArray] <;> omega)
 rw [p7,← hlen]
 refine⟨.ref s.heap.objs.size,_,I.laid (t':=s.toks) (o:=.lst (qg xs lo hi)) (fun b ob q=>Heap.get?_push_of_some _ q) (Nat.le_refl _) ?_,rfl,q _ (I.hok.fresh (Nat.le_refl _))⟩
 exact⟨Nat.le_trans (mL xs lo hi) hz,_,0,(r.drop (HT.dZ xs.length 0 lo)).take (HT.dZ xs.length xs.length hi - HT.dZ xs.length 0 lo),Heap.get?_push_size _ rfl⟩
theorem kW:dq X (.builtin "len") (fun xs H Q=>∃p ys,xs=[.ref p]∧(fz X.K H p ys∨iy X.K H p ys)∧Q (.int ys.length) H):=by
 intro pins s σ H xs us Q I r h
 obtain⟨p,ys,rfl,hq,q⟩:=h
 obtain⟨u,rfl,rx⟩:=vals1 r
 cases rx
 have hn:=mx
 rcases hq with hq | hq
 ·obtain⟨its,r',pl,hz⟩:=I.list hq
  have hlen:=r'.length
  exact Calls.call_len_list pl.isList (by simp only [List.size_toArray] <;> omega) ⟨.int ys.length,H,I.tok _,⟨s.toks + 1,by rw [List.size_toArray,hlen]⟩,q⟩
 ·obtain⟨its,r',pl,hz⟩:=I.tuple hq
  have hlen:=r'.length
  exact len_tuple pl (by simp only [List.size_toArray] <;> omega) ⟨.int ys.length,H,I.tok _,⟨s.toks + 1,by rw [List.size_toArray,hlen]⟩,q⟩
theorem t7:dq X (.builtin "len") (fun xs H Q=>∃z,xs=[.str z]∧z.length≤sizeLine∧Q (.int z.length) H):=by
 intro pins s σ H xs us Q I r h
 obtain⟨z,rfl,hz,q⟩:=h
 obtain⟨u,rfl,t,rfl⟩:=vals1 r
 have hn:=mx
 exact len_str (by omega) ⟨.int z.length,H,I.tok _,⟨_,rfl⟩,q⟩
theorem dq.or {f:Value} {r r':List V→Hp→VK→Prop} (h:dq X f r) (h':dq X f r'):dq X f (fun xs H Q=>r xs H Q∨r' xs H Q):=by
 intro pins s σ H xs us Q I rs q
 rcases q with q | q
 ·exact h pins s σ H xs us Q I rs q
 ·exact h' pins s σ H xs us Q I rs q
theorem rA:dq X (.type "list") (fun xs H Q=>∃p ys,xs=[.ref p]∧(fz X.K H p ys∨iy X.K H p ys)∧∀l,H l=none→Q (.ref l) (upd H l (.lst ys))):=by
 intro pins s σ H xs us Q I r h
 obtain⟨p,ys,rfl,hq,q⟩:=h
 obtain⟨u,rfl,rx⟩:=vals1 r
 cases rx
 have fin:∀(its:List Value),Vals ys its→ys.length≤sizeLine→∀(h':Heap) (c':Nat),(∀b o',s.heap.get? b=some o'→h'.get? b=some o') →
   h'.get? s.heap.objs.size=some { cls:=.type "list",dict:=none,data:=.seq its.toArray c',slots:=#[] }→EP X pins σ Q (.ref s.heap.objs.size) { s with heap:=h' }:=fun its r' hz h' c' kp e =>
  ⟨.ref s.heap.objs.size,_,I.laid (t':=s.toks) kp (Nat.le_refl _) (show bF X.prog X.w _ h' _ (.lst ys) from ⟨hz,its,c',r',e⟩),rfl,q _ (I.hok.fresh (Nat.le_refl _))⟩
 rcases hq with hq | hq
 ·obtain⟨its,r',pl,hz⟩:=I.list hq
  have hlen:=r'.length
  obtain⟨o,ho,hc,n,hd⟩:=pl.isList
  exact call_list_seq p (.inl rfl) ho hc hd (fun h' c' kp e=>fin its r' hz h' c' kp e) (by simp only [List.size_toArray] <;> omega)
 ·obtain⟨its,r',pl,hz⟩:=I.tuple hq
  have hlen:=r'.length
  obtain⟨o,ho,hc,n,hd⟩:=pl
  exact call_list_seq p (.inr rfl) ho hc hd (fun h' c' kp e=>fin its r' hz h' c' kp e) (by simp only [List.size_toArray] <;> omega)
theorem qj:dq X (.type "tuple") (fun xs H Q=>∃p ys,xs=[.ref p]∧((fz X.K H p ys∧∀l,H l=none→Q (.ref l) (upd H l (.tup ys)))∨(iy X.K H p ys∧Q (.ref p) H))):=by
 intro pins s σ H xs us Q I r h
 obtain⟨p,ys,rfl,h⟩:=h
 obtain⟨u,rfl,rx⟩:=vals1 r
 cases rx
 rcases h with ⟨hq,q⟩ | ⟨hq,q⟩
 ·obtain⟨its,r',pl,hz⟩:=I.list hq
  have hlen:=r'.length
  refine call_tuple_list pl.isList (fun h' kp=>?_) (by simp only [List.size_toArray] <;> omega)
  have I1:Inv X pins σ H { s with heap:=h' }:=I.kept (t':=s.toks) kp
  have I2:Inv X pins σ (upd H h'.objs.size (.tup ys)) { s with heap:=h'.push { cls:=.type "tuple",data:=.seq its.toArray } } :=
   I1.laid (t':=s.toks) (fun b o e=>Heap.get?_push_of_some _ e) (Nat.le_refl _) (show bF X.prog X.w _ _ _ (.tup ys) from ⟨hz,its,r',rY.new _ _⟩)
  exact⟨.ref h'.objs.size,_,I2,rfl,q _ (I1.hok.fresh (Nat.le_refl _))⟩
 ·obtain⟨its,r',pl,hz⟩:=I.tuple hq
  exact call_tuple_same pl ⟨.ref p,H,I,rfl,q⟩
def JP (K:PySem.W.Frag) (T:String) (x:V) (H:Hp):Prop:=match x with
 | .str _=>T = "str"
 | .int _=>T = "int"
 | .ref p=>(T = "list"∧∃xs,fz K H p xs)∨(T = "tuple"∧∃o,K.lookup p=some o∧o.cls=.type "tuple"∧o.dict=none) ∨
   (T = "dict"∧((∃kvs,H p=some (.dK kvs))∨∃kvs,H p=some (.dT kvs)))∨(T = "set"∧∃S n,H p=some (.set S n))
 | _=>False
theorem EZ {pins:List (Addr×Obj)} {σ:St} {H:Hp} {s:Shared} {T:String} {x:V} {v:Value} (I:Inv X pins σ H s) (r:RelV x v) (ty:JP X.K T x H) :
  s.TypeIs v T∧∀a,v=.ref a→∃ob,s.heap.get? a=some ob∧ob.dict=none:=by
 cases x with
 | str z =>
  obtain⟨t,rfl⟩:=r
  cases (show T = "str" from ty)
  exact⟨typeIs_str s z t,fun _ e=>nomatch e⟩
 | int i =>
  obtain⟨t,rfl⟩:=r
  cases (show T = "int" from ty)
  exact⟨typeIs_int s i t,fun _ e=>nomatch e⟩
 | ref p =>
  cases r
  rcases ty with ⟨rfl,xs,hq⟩ | ⟨rfl,o,hk,hc,hd⟩ | ⟨rfl,hk⟩ | ⟨rfl,S,n,hk⟩
  ·obtain⟨its,_,pl,_⟩:=I.list hq
   refine⟨pl.isList.typeIs,fun a e=>?_⟩
   cases e
   obtain⟨o,n,e,c,hd,_⟩:=pl
   exact⟨o,e,hd⟩
  ·refine⟨⟨o,I.qR p o hk,hc⟩,fun a e=>?_⟩
   cases e
   exact⟨o,I.qR _ o hk,hd⟩
  ·have z:∃o,s.heap.get? p=some o∧o.ExactDict:=by
    rcases hk with ⟨kvs,hk⟩ | ⟨kvs,hk⟩
    ·obtain⟨_,_,_,_,o,_,_,e,ex,_⟩:=I.hok p _ hk
     exact⟨o,e,ex⟩
    ·obtain⟨_,_,_,_,o,_,_,e,ex,_⟩:=I.hok p _ hk
     exact⟨o,e,ex⟩
   obtain⟨o,e,ex⟩:=z
   refine⟨⟨o,e,ex.1⟩,fun a e2=>?_⟩
   cases e2
   exact⟨o,e,ex.2.1⟩
  ·obtain⟨o,_,_,_,e,ex,_⟩:=I.hok p _ hk
   refine⟨⟨o,e,ex.1⟩,fun a e2=>?_⟩
   cases e2
   exact⟨o,e,ex.2.1⟩
 | _=>exact False.elim ty
def J0 (K:PySem.W.Frag) (T:String) (r:V→List V→Hp→VK→Prop) (to:TE) (t:TA):TE:=fun σ H Q=>to σ H fun x H1=>JP K T x H1∧t σ H1 fun xs H2=>r x xs H2 Q
variable {o e:Expr} {es:List Expr} {to:TE} {t:TA} {name:Str} {apos cpos:Pos} {T id:String} {r:V→List V→Hp→VK→Prop}
theorem uU (pa:PlainAttrs T) (slot:Slot T name id) (hty:typeOf (.builtin id)=pure (.type "method_descriptor")) (hm:JS X id r) (ho:PE X o to) (ha:PA X (e :: es) t)
  (hbase:attributeBase o name X.env (eval o X.env)=eval o X.env:=by rfl)
  (hfew:((backTo cpos (starEach (e :: es) X.env)).all (fun x=>!x.1) && (backToKw cpos (keywordEach [] X.env)).all (fun x=>x.1.isSome)
   && decide ((e :: es).length + ([]:List Keyword).length + (if ([]:List Keyword).isEmpty then 0 else 1) < 30))=true:=by rfl)
  (hline:(apos.endLine == cpos.line)=true:=by rfl) (hs:starEach (e :: es) X.env=(false,eval e X.env) :: starEach es X.env:=by rfl) (hplain:(backTo cpos (starEach es X.env)).any (·.1)=false:=by rfl) :
  PE X (.Call (.Attribute o name apos) (e :: es) [] cpos) (J0 X.K T r to t):=by
 intro pins s σ H Q I h
 refine wpAny_Call_method_late hbase hfew hline rfl (bP (ho pins s σ H _ I h) fun v s1 ⟨x,H1,I1,r1,ty,q1⟩=>?_)
 obtain⟨h1,h2⟩:=EZ I1 r1 ty
 refine⟨T,id,pa,slot,hty,h1,h2,?_⟩
 have hA:=ha cpos pins s1 σ H1 _ I1 q1
 rw [hs] at hA ⊢
 refine Calls.callWith_builtin (by show (false || (backTo cpos (starEach es X.env)).any (·.1))=false;rw [hplain] <;> rfl) (Calls.evalArgs_plain ?_)
 exact bP hA fun us s2 ⟨vs,H2,I2,r2,q2⟩=>hm pins s2 σ H2 x vs v us Q I2 r1 r2 q2
end
end L2
namespace L2
open PySem PySem.Spec PyProof.Rows
def IQ (X:Cx) (id:String) (r:V→List V→Hp→VK→Prop):Prop :=
 ∀(pins:List (Addr×Obj)) (s:Shared) (σ:St) (H:Hp) (x:V) (xs:List V) (v:Value) (us:List Value) (Q:VK),Inv X pins σ H s→RelV x v→Vals xs us→r x xs H Q →
  wpAny (model X.prog X.w) X.A (call (.builtin id) (v :: us)) (EP X pins σ Q) X.xe s
theorem Vals.one:∀{x:V} {us:List Value},Vals [x] us→∃u,us=[u]∧RelV x u
 | _,_,.cons r .nil=>⟨_,rfl,r⟩
theorem Vals.two:∀{x y:V} {us:List Value},Vals [x,y] us→∃u v,us=[u,v]∧RelV x u∧RelV y v
 | _,_,_,.cons r (.cons q .nil)=>⟨_,_,rfl,r,q⟩
theorem Vals.eraseIdx:∀{xs:List V} {us:List Value} (i:Nat),Vals xs us→Vals (xs.eraseIdx i) (us.eraseIdx i)
 | _,_,_,.nil=>.nil
 | _,_,0,.cons _ t=>t
 | _,_,i + 1,.cons r t=>.cons r (Vals.eraseIdx i t)
theorem rf {α:Type}:∀(l:List α) (i:Nat),(l.eraseIdx i).length≤l.length
 | [],_=>Nat.le_refl _
 | _ :: _,0=>Nat.le_succ _
 | _ :: r,i + 1=>Nat.succ_le_succ (rf r i)
section
variable {X:Cx} {pins:List (Addr×Obj)} {σ:St} {H:Hp} {s:Shared} {l b:Addr} {xs ys zs:List V}
theorem Inv.Gk {its its':List Value} {n:Nat} {f:Array Value→Array Value} {t':Nat} (I:Inv X pins σ H s) (hH:H l=some (.lst xs))
  (e:s.heap.get? l=some { cls:=.type "list",data:=.seq its.toArray n }) (hf:f its.toArray=its'.toArray) (hv:Vals ys its') (hz:ys.length≤sizeLine) :
  Inv X pins σ (upd H l (.lst ys)) { s with heap:=s.heap.update l (Obj.mapSeq f),toks:=t' }:=by
 have q:=PySem.IsL.update e f
 rw [hf] at q
 refine I.write (x:=l) (e:=l) (by rw [hH];exact trivial) (.inl rfl) (fun b' u hb hu=>(Heap.get?_update_other s.heap (Obj.mapSeq f) (Ne.symm hb)).trans hu) ⟨_,q⟩ ?_
 exact⟨hz,its',_,hv,q⟩
theorem Inv.Jv {its:List Value} {t':Nat} (I:Inv X pins σ H s) (hv:Vals ys its) (hz:ys.length≤sizeLine) :
  Inv X pins σ (upd H s.heap.objs.size (.lst ys)) { s with heap:=s.heap.push { cls:=.type "list",data:=.seq its.toArray },toks:=t' } :=
 I.laid (fun _ _ q=>Heap.get?_push_of_some _ q) (Nat.le_refl _) ⟨hz,its,0,hv,Heap.get?_push_size _ rfl⟩
theorem Inv.fresh (I:Inv X pins σ H s):H s.heap.objs.size=none:=I.hok.fresh (Nat.le_refl _)
theorem Inv.FW (I:Inv X pins σ H s) (hH:H l=some (.lst xs)):xs.length≤sizeLine∧∃(its:List Value) (n:Nat),Vals xs its∧xs.length=its.length∧s.heap.get? l=some { cls:=.type "list",data:=.seq its.toArray n }:=by
 obtain⟨z,its,n,r,e⟩:=I.hok l _ hH
 exact⟨z,its,n,r,r.length,e⟩
end
section
variable {X:Cx}
def CN:V→List V→Hp→VK→Prop:=fun x vs H Q=>∃l xs y,x=.ref l∧vs=[y]∧H l=some (.lst xs)∧xs.length < sizeLine∧Q .non (upd H l (.lst (xs ++ [y])))
theorem rh:IQ X "list.append" CN:=by
 intro pins s σ H x vs v us Q I rx rv h
 obtain⟨l,xs,y,rfl,rfl,hH,hz,q⟩:=h
 cases rx
 obtain⟨u,rfl,ru⟩:=rv.one
 obtain⟨z,its,n,r,hl,e⟩:=I.FW hH
 refine call_meets F.slot_list_append ⟨_,e,rfl⟩ F.entry_list_append (F.args_list_append_2 _ _) (PySem.list_append l its.toArray n u (by rw [List.size_toArray];omega)) ⟨e,?_⟩
 refine⟨.non,_,I.Gk (its':=its ++ [u]) hH e (by simp) (r.append (.cons ru .nil)) ?_,rfl,q⟩
 rw [List.length_append,List.length_singleton]
 omega
def GC:V→List V→Hp→VK→Prop:=fun x vs H Q=>∃l xs i k y,x=.ref l∧vs=[.int i]∧H l=some (.lst xs)∧-(2 ^ 63)≤i∧i < 2 ^ 63∧seqIndex? i xs.length=some k∧xs[k]?=some y∧Q y (upd H l (.lst (xs.eraseIdx k)))
theorem vW:IQ X "list.pop" GC:=by
 intro pins s σ H x vs v us Q I rx rv h
 obtain⟨l,xs,i,k,y,rfl,rfl,hH,h1,h2,hk,hy,q⟩:=h
 cases rx
 obtain⟨u,rfl,ru⟩:=rv.one
 obtain⟨t,rfl⟩:=ru
 obtain⟨z,its,n,r,hl,e⟩:=I.FW hH
 obtain⟨w,hw,rw'⟩:=r.get hy
 refine call_meets F.slot_list_pop ⟨_,e,rfl⟩ F.entry_list_pop (F.args_list_pop_2 _ _)
  (MeetsSeq.list_pop_at l its.toArray n i t k w (fitsIndex_both h1 h2) (by rw [List.size_toArray,← hl];exact hk) (by rw [← Array.getElem?_toList];exact hw) (by rw [List.size_toArray];omega)) ⟨e,?_⟩
 refine⟨y,_,I.Gk (its':=its.eraseIdx k) hH e ?_ (r.eraseIdx k) ?_,rw',q⟩
 ·show its.toArray.eraseIdxIfInBounds k=(its.eraseIdx k).toArray
  rw [List.eraseIdxIfInBounds_toArray]
 ·have:=rf xs k
  omega
end
end L2
namespace Att
open PySem PySem.W PySem.Calls PyProof.Rows
theorem nc {P:Params} {h:Heap}:∀(ns:List Int) (vs:List Value),WellAll P h vs (ns.map WData.int)→IntsAre vs ns:=by
 intro ns
 induction ns with
 | nil =>
  intro vs w
  rw [List.map_nil] at w
  cases w
  exact .nil
 | cons n ns ih =>
  intro vs w
  rw [List.map_cons] at w
  cases w with
  | cons a b =>
   cases a
   exact .cons _ _ (ih _ b)
theorem y8 {l:OpenLaw} {n:Nat} (hn:l.most=some n) {P:Params} {h:Heap} {args:List WData} {vals:List Value}
  (hpre:l.row.toRowW.claim.pre args=true) (hwl:WellAll P h vals args) :
  ∃a vs ns,vals=[Value.ref a]∧args=[WData.list (ns.map WData.int)]∧h.get? a=some { cls:=.type "list",data:=.seq vs.toArray }∧IntsAre vs ns∧ns.length≤n:=by
 have hsh:WShape.hasAll [] args [.list .int]=true:=(pre_splitW hpre).1
 have hc:l.pre.holds [] { args:=args }=true:=(pre_splitW hpre).2
 obtain⟨d,r,rfl,h1,h2⟩:=hasAllW_cons hsh
 obtain rfl:=hasAllW_nil h2
 obtain⟨xs,rfl,h3⟩:=hasW_list h1
 obtain⟨ns,rfl⟩:=items_int h3
 have hlen:ns.length≤n:=by
  unfold OpenLaw.pre at hc
  have h4:(WTm.not (.lt (.lit (.int (n:Int))) (.len (.arg 0)))).holds [] { args:=[.list (ns.map .int)] }=true:=by
   have h4:=(holds_andW hc).1
   rw [hn] at h4
   exact h4
  have h5:=condW_of h4 (w_not (w_lt w_lit (w_len_list (w_arg rfl))))
  rw [List.length_map] at h5
  refine Nat.le_of_not_lt fun q=>?_
  have q':(n:Int) < ((ns.length:Nat):Int):=by omega
  first
   | (rw [decide_eq_true q'] at h5;exact absurd h5 (by decide))
   | (simp at h5;omega)
 cases hwl with
 | cons w1 w2 =>
  cases w2
  cases w1 with
  | list ho hall=>exact⟨_,_,ns,rfl,rfl,ho,nc ns _ hall,hlen⟩
theorem zx (l:OpenLaw) (args:List WData):l.row.toRowW.claim.post args (.bool true) args=true :=
 postW_of (r:=l.row.toRowW) (X:=(true == true))
  (show WShape.has [] (.bool true) .bool=true by first | rfl | decide | simp [WShape.has,WShape.arms,WShape.armsAll])
  (show (WTm.eq .res (.lit (.bool true))).value [] { args:=args,res:=some (.bool true),after:=args }=some (.bool (true == true)) from w_eq_bool (w_res rfl) w_lit) rfl
theorem vN {l:OpenLaw} {n:Nat} {q:Program} {loose:List Str} {XP:(Str→Option Value)→Heap→Prop} {YP:World→Heap→Prop} {d:DefRec}
  (hn:l.most=some n) (hdf:d.params.defaults=[])
  (call:∀(w:World) (s₀ s₁:Shared) (mg mb:Str→Option Value) (fa:Addr) (o:Obj) (pm cd doc:Value) (a:Addr) (vs:List Value) (ns:List Int),
   Ground q loose [] XP w s₀ mg mb s₁.heap→YP w s₁.heap →
   s₁.heap.get? fa=some o→o.data=.func (docDef d.name d.params d.body d.scope pm cd doc)→s₁.heap.CodeRec cd d.name→mg d.name=some (.ref fa) →
   s₁.heap.get? a=some { cls:=.type "list",data:=.seq vs.toArray }→IntsAre vs ns→ns.length≤n→s₁.gens=#[] →
   codeAny (model l.prog w) callerA (.call (.ref fa) ⟨[.ref a],[]⟩) (fun r s'=>r=.ok (.ret (.bool true))∧OldK s₁.heap s'.heap∧s'.os=s₁.os∧AllBare s'.gens) s₁) :
  WalkO q loose XP YP l.row.toRowW d [] (fun f vs=>PySem.call f vs):=by
 intro w s₀ s₁ mg mb G Y fa o pm cd doc dV kV ho hd hcd hD hmg hg args vals as hpre hlay hrd hwl hlo
 obtain rfl:dV=.none:=Dflts.none hD hdf
 obtain rfl:kV=.none:=Dflts.noKw hD
 obtain⟨a,vs,ns,rfl,rfl,hobj,hints,hlen⟩:=y8 hn hpre hwl
 refine enter_call (codeAny_mono (call w s₀ s₁ mg mb fa o pm cd doc a vs ns G Y ho (fd_plain hd) hcd hmg hobj hints hlen hg) fun r s' hq=>?_)
 obtain⟨rfl,h2,h3,h4⟩:=hq
 exact⟨.inl ⟨.bool true,.bool true,[],rfl,fun _=>rfl,.bool true,zx l _,fun _=>⟨List.Pairwise.nil,fun _ hm=>(nomatch hm)⟩⟩,h2,h3,h4⟩
end Att
namespace L2
open PySem PySem.Spec PyProof.Rows
theorem ju:∀{vs:List Value} {ns:List Int},IntsAre vs ns→Vals (ns.map V.int) vs
 | _,_,.nil=>.nil
 | _,_,.cons n t h=>.cons ⟨t,rfl⟩ (ju h)
def EW (H:Hp):Prop:=∀b,H b=none∨∃o xs,H b=some (.frz o (.lst xs))
theorem Cb {P:Program} {w:World} {K:PySem.W.Frag} {mg mb:Str→Option Value} {CX:BL} {k:Nat} {fa a:Addr} {fd:FuncData} {x:Str} {sp:Sp} {s₁:Shared} {vs:List Value} {ns:List Int}
  (KX:K.In s₁.heap) (hns:s₁.heap.Ns mainGlobals mg) (hb:s₁.heap.Ns builtinsNs mb) (hbb:∀x:Str,x≠"__name__"→mb x=bootBuiltins x) (hlim:s₁.heap.NoLimit) (hg:s₁.gens=#[])
  (ha:s₁.heap.get? a=some { cls:=.type "list",data:=.seq vs.toArray }) (hi:IntsAre vs ns) (hl:ns.length≤sizeLine) (hr:cY k callerA)
  (F:∀base:Heap,K.In base→base.Ns mainGlobals mg→l7 P w K mg base CX k fa fd [x] sp) (hbind:∀(s:Shared) (u:Value),BindsTo s fd ⟨[u],[]⟩ [(x,u)])
  (hsp:∀H:Hp,EW H→fz K H a (ns.map V.int)→sp [.ref a] H (fun v _=>v=.bl true) fun _ _ _=>False)
  (hCX:∀H e s',CX [] H s₁ (fun _ _ _=>False) e s'→False) :
  codeAny (model P w) callerA (.call (.ref fa) ⟨[.ref a],[]⟩) (fun r s'=>r=.ok (.ret (.bool true))∧OldK s₁.heap s'.heap∧s'.os=s₁.os∧AllBare s'.gens) s₁:=by
 have rv:=ju hi
 have lenV:=hi.length
 have core:∀H:Hp,EW H→fz K H a (ns.map V.int)→jO P w H s₁.heap→(∀b,H b≠none→b=a)→(H a≠none→K.lookup a=none) →
   codeAny (model P w) callerA (.call (.ref fa) ⟨[.ref a],[]⟩) (fun r s'=>r=.ok (.ret (.bool true))∧OldK s₁.heap s'.heap∧s'.os=s₁.os∧AllBare s'.gens) s₁:=by
  intro H hO hS hok hA hK
  have base_of:∀{b:Addr} {o:Obj},s₁.heap.get? b=some o→H b=none→(tJ s₁.heap H).get? b=some o:=fun e n=>Bz e n
  have noA:∀{b:Addr} {o:Obj} {es:Array DictEntry} {ep:Nat},s₁.heap.get? b=some o→o.data=.dict es ep→H b=none:=fun {b o es ep} e d=>by
   cases q:H b with
   | none=>rfl
   | some u =>
    have e':b=a:=hA b (by rw [q];simp)
    subst e'
    rw [ha] at e;cases e
    have d':Data.seq vs.toArray _=Data.dict es ep:=d
    cases d'
  have nsK:∀{b:Addr} {m:Str→Option Value},s₁.heap.Ns b m→(tJ s₁.heap H).Ns b m:=fun {b m} ⟨o,es,ep,e,d,r⟩=>⟨o,es,ep,base_of e (noA e d),d,r⟩
  have hKb:K.In (tJ s₁.heap H):=fun b o e=>base_of (KX b o e) (by
   cases q:H b with
   | none=>rfl
   | some u =>
    have e':b=a:=hA b (by rw [q];simp)
    subst e'
    rw [hK (by rw [q];simp)] at e;cases e)
  have hM:Mod K mg (tJ s₁.heap H):=⟨hKb,nsK hns,⟨mb,nsK hb,hbb⟩,let ⟨mc,h1,h2⟩:=hlim;⟨mc,nsK h1,h2⟩⟩
  have e0:yV P w K mg (tJ s₁.heap H) callerA [] s₁ H:=⟨rfl,hM,fun b o e=>CD e,Nat.le_of_eq (zq _ _),trivial,fun b hb=>absurd (show b∈([]:List Addr) from hb) (by simp),hok,.of_eq hg⟩
  refine codeAny_mono ((F _ hKb (nsK hns)).run callerA [] s₁ H ⟨[.ref a],[]⟩ [.ref a] [.ref a] _ _ hr e0 (hbind s₁ (.ref a)) (.cons rfl .nil) (hsp H hO hS)) fun r s' h=>?_
  cases r with
  | error e=>exact (hCX H e s' h).elim
  | ok fl =>
   cases fl with
   | next=>exact False.elim h
   | brk=>exact False.elim h
   | cont=>exact False.elim h
   | ret u =>
    obtain⟨v,H',os,bare,un,hok',r',q⟩:=h
    have q':v=.bl true:=q
    subst q'
    obtain rfl:u=Value.bool true:=r'
    refine⟨rfl,OldK.of_keep fun b o e=>?_,os,bare⟩
    cases q:H b with
    | none=>exact un.keep b o e q (by intro z;exact absurd (show b∈([]:List Addr) from z) (by simp)) (by simp)
    | some u =>
     rcases hO b with z | ⟨ob,xs,z⟩
     ·rw [q] at z;cases z
     ·have z2:=un.frzs b ob _ z
      obtain⟨e1,_⟩:=hok b _ z
      obtain⟨e2,_⟩:=hok' b _ z2
      rw [e] at e1;cases e1
      exact e2
 cases hk:K.lookup a with
 | some o =>
  have e:=KX a o hk
  rw [ha] at e
  cases e
  refine core (fun _=>none) (fun _=>.inl rfl) (.inr ⟨_,vs.toArray,_,hk,rfl,rfl,rfl,by rw [List.size_toArray,lenV];exact hl,by simpa using rv⟩) (fun b u z=>by have z':(none:Option HO)=some u:=z;cases z') (fun b z=>absurd rfl z) fun z=>absurd rfl z
 | none =>
  refine core (fun b=>if b=a then some (.frz { cls:=.type "list",data:=.seq vs.toArray } (.lst (ns.map V.int))) else none) (fun b=>?_) (.inl (.inr ⟨{ cls:=.type "list",data:=.seq vs.toArray },if_pos rfl⟩)) (fun b u z=>?_) (fun b z=>?_) fun _=>hk
  ·by_cases hb:b=a
   ·exact .inr ⟨_,_,if_pos hb⟩
   ·exact .inl (if_neg hb)
  ·by_cases hb:b=a
   ·have z':=(if_pos hb).symm.trans z
    cases z'
    subst hb
    exact⟨ha,by rw [List.length_map];exact hl,vs,_,rv,ha⟩
   ·have z':=(if_neg hb).symm.trans z
    cases z'
  ·by_cases hb:b=a
   ·exact hb
   ·exact absurd (if_neg hb) z
end L2
namespace L2
open PySem PySem.Spec PyProof.Rows
theorem Du {l:PySem.W.OpenLaw} {n k:Nat} {q:Program} {loose:List Str} {XP:(Str→Option Value)→Heap→Prop} {YP:World→Heap→Prop} {d:DefRec} {K:Params→PySem.W.Frag} {CX:World→BL} {sp:World→Sp} {x:Str}
  (hn:l.most=some n) (hn2:n≤sizeLine) (hdf:d.params.defaults=[]) (hr:cY k callerA)
  (hY:∀(w:World) (h:Heap),YP w h→(K w.params).In h)
  (F:∀(w:World) (mg:Str→Option Value) (fa:Addr) (h:Heap),(K w.params).In h→h.Ns mainGlobals mg→mg d.name=some (.ref fa) →
   ∃fd:FuncData,(∀(s:Shared) (u:Value),BindsTo s fd ⟨[u],[]⟩ [(x,u)]) ∧
    ∀base:Heap,(K w.params).In base→base.Ns mainGlobals mg→l7 l.prog w (K w.params) mg base (CX w) k fa fd [x] (sp w))
  (hsp:∀(w:World) (H:Hp) (a:Addr) (ns:List Int),ns.length≤n→EW H→fz (K w.params) H a (ns.map V.int)→sp w [.ref a] H (fun v _=>v=.bl true) fun _ _ _=>False)
  (hCX:∀(w:World) (H:Hp) (s:Shared) (e:Value) (s':Shared),CX w [] H s (fun _ _ _=>False) e s'→False) :
  PySem.W.WalkO q loose XP YP l.row.toRowW d [] (fun f vs=>PySem.call f vs):=by
 refine Att.vN hn hdf fun w s₀ s₁ mg mb fa o pm cd doc a vs ns G Y ho hd hcd hmg hobj hints hlen hg=>?_
 have KX:=hY w _ Y
 obtain⟨fd,hb,hF⟩:=F w mg fa _ KX G.T.g hmg
 exact Cb KX G.T.g G.T.b G.T.builtins G.T.nolimit hg hobj hints (Nat.le_trans hlen hn2) hr hF hb (fun H hO hS=>hsp w H a ns hlen hO hS) fun H e s'=>hCX w H s₁ e s'
end L2
namespace L2
open PySem PySem.Spec PyProof.Rows
def c8 (s:Stmt):Arguments:=match s with
 | .FunctionDef _ a _ _ _ _ _ _ _ _=>a
 | _=>{ posonlyargs:=[],args:=[],vararg:=none,kwonlyargs:=[],kw_defaults:=[],kwarg:=none,defaults:=[] }
def a8 (s:Stmt):List Stmt:=match s with
 | .FunctionDef _ _ b _ _ _ _ _ _ _=>b
 | _=>[]
def ak (s:Stmt):Scope:=match s with
 | .FunctionDef _ _ _ _ _ _ sc _ _ _=>sc
 | _=>{ kind:=.function,names:=[],isGenerator:=false,isCoroutine:=false }
abbrev qD:BL:=fun _ _ _ _ _ _=>False
abbrev E0:XK:=fun _ _ _=>False
theorem zO {X:Cx}:Passes qD X E0:=fun _ _ _ _ _ _ _ h=>h.elim
structure mX (K:PySem.W.Frag) (x qual:Str) (st:Stmt) (f:Addr) (fd:FuncData):Prop where
 ex:∃(oc:Value) (od:Option Addr) (kV doc pm:Value) (an:Option Addr) (cdv ct:Value) (osl:Array (Option Value)),
  fd=PySem.W.fnOf x qual (c8 st) (a8 st) (ak st) .none kV doc pm an cdv ct∧K.lookup f=some ⟨oc,od,.func fd,osl⟩∧PySem.W.codeIn K cdv qual=true
 kp:PySem.W.keepIn K (.ref f)=true
section
variable {P:Program} {w:World} {K:PySem.W.Frag} {mg:Str→Option Value} {base:Heap}
theorem mX.ok {x qual:Str} {st:Stmt} {f:Addr} {fd:FuncData} {N ps:List Str} {k:Nat} {sp:Sp} (F:mX K x qual st f fd) (S:aG N ps (ak st)) (len:∀vs H Q E,sp vs H Q E→vs.length=ps.length)
  (hbody:∀(cdv:Value) (A:Around) (outer:List Env) (s:Shared) (H:Hp) (vs:List V) (Q:VK) (E:XK),cY k (A.deeper (envOfC qual (ak st) s.heap.objs.size f cdv))→sp vs H Q E →
   ∃t,vc (fY qD P w K mg base N qual (ak st) f cdv A outer s H E).nF (a8 st) t∧t { nx:=fun _ H'=>Q .non H',rt:=Q } (start N vs) H):l7 P w K mg base qD (k + 1) f fd ps sp:=by
 obtain⟨oc,od,kV,doc,pm,an,cdv,ct,osl,rfl,lk,hcd⟩:=F.ex
 refine yM lk hcd S len fun A outer s H vs Q E hr hsp=>?_
 obtain⟨t,h,q⟩:=hbody cdv A outer s H vs Q E hr hsp
 exact⟨t,h.nF,q⟩
theorem mX.binds {x qual:Str} {st:Stmt} {f:Addr} {fd:FuncData} {ps:List Str} (F:mX K x qual st f fd)
  (h:∀(kV doc pm:Value) (an:Option Addr) (cdv ct:Value) (us:List Value),us.length=ps.length→bindArgs (PySem.W.fnOf x qual (c8 st) (a8 st) (ak st) .none kV doc pm an cdv ct) ⟨us,[]⟩=pure (ps.zip us)):Binds K fd ps []:=by
 obtain⟨oc,od,kV,doc,pm,an,cdv,ct,osl,rfl,lk,hcd⟩:=F.ex
 exact .all (h kV doc pm an cdv ct)
theorem AZ {x qual:Str} {st:Stmt} {f:Addr} {oc:Value} {od an:Option Addr} {osl:Array (Option Value)} {kV doc pm cdv ct:Value} (l:K.lookup f=some ⟨oc,od,.func (PySem.W.fnOf x qual (c8 st) (a8 st) (ak st) .none kV doc pm an cdv ct),osl⟩)
  (c:PySem.W.codeIn K cdv qual=true) (k:PySem.W.keepIn K (.ref f)=true):mX K x qual st f (PySem.W.fnOf x qual (c8 st) (a8 st) (ak st) .none kV doc pm an cdv ct):=⟨⟨oc,od,kV,doc,pm,an,cdv,ct,osl,rfl,l,c⟩,k⟩
end
def ar (H H':Hp):Prop:=∀b o,H b=some o→H' b=some o
theorem ar.refl (H:Hp):ar H H:=fun _ _ h=>h
theorem ar.trans {H H1 H2:Hp} (a:ar H H1) (b:ar H1 H2):ar H H2:=fun c o h=>b c o (a c o h)
theorem ar.free {H H':Hp} (e:ar H H') {l:Addr} (h:H' l=Option.none):H l=Option.none:=by
 cases q:H l with
 | none=>rfl
 | some o =>
  rw [e l o q] at h
  cases h
theorem ar.seq {K:PySem.W.Frag} {H H':Hp} {a:Addr} {xs:List V} (e:ar H H') (h:fz K H a xs):fz K H' a xs:=by
 rcases h with (h | ⟨o,h⟩) | h
 ·exact .inl (.inl (e _ _ h))
 ·exact .inl (.inr ⟨o,e _ _ h⟩)
 ·exact .inr h
end L2
set_option maxHeartbeats 8000000
namespace L2
open PySem PySem.Spec PyProof.Rows
section
variable {κ:Type} [DecidableEq κ]
def lB (kvs:List (κ×V)) (k:κ):Option V:=(kvs.find? fun kv=>decide (kv.1=k)).map (·.2)
def putK (kvs:List (κ×V)) (k:κ) (v:V):List (κ×V) :=
 if (kvs.any fun kv=>decide (kv.1=k))=true then kvs.map (fun kv=>if kv.1=k then (kv.1,v) else kv) else kvs ++ [(k,v)]
theorem kC {p:κ×V} {r:List (κ×V)} {k:κ} (e:p.1=k):lB (p :: r) k=some p.2:=by simp [lB,List.find?_cons,e]
theorem kK {p:κ×V} {r:List (κ×V)} {k:κ} (e:¬ p.1=k):lB (p :: r) k=lB r k:=by simp [lB,List.find?_cons,e]
theorem pM (k:κ):∀kvs:List (κ×V),(kvs.any fun kv=>decide (kv.1=k))=(lB kvs k).isSome
 | []=>rfl
 | p :: r=>by
  rw [List.any_cons]
  by_cases e:p.1=k
  ·simp only [kC e,decide_eq_true e,Bool.true_or,Option.isSome_some]
  ·rw [kK e,decide_eq_false e,Bool.false_or];exact pM k r
theorem vt (kvs:List (κ×V)) (k:κ) (v:V):(putK kvs k v).length≤kvs.length + 1:=by
 unfold putK
 split
 ·rw [List.length_map];omega
 ·rw [List.length_append,List.length_cons,List.length_nil];omega
theorem AQ {kvs:List (κ×V)} {k:κ} (v:V) (h:lB kvs k=none):putK kvs k v=kvs ++ [(k,v)]:=by
 unfold putK
 rw [pM,h]
 exact if_neg (by decide)
theorem KV.val {kvs:List (κ×V)} {vs:List (κ×Value)} (r:KV kvs vs) (k:κ):uf (lB kvs k) (valueAt vs k):=by
 unfold KV at r
 induction r with
 | nil=>exact True.intro
 | @cons p q ps qs h t ih =>
  obtain⟨h1,h2⟩:=h
  by_cases e:p.1=k
  ·have e':q.1=k:=h1.symm.trans e
   have b:valueAt (q :: qs) k=some q.2:=by simp [valueAt,List.find?_cons,e']
   rw [kC e,b];exact h2
  ·have e':¬ q.1=k:=fun z=>e (h1.trans z)
   have b:valueAt (q :: qs) k=valueAt qs k:=by simp [valueAt,List.find?_cons,e']
   rw [kK e,b];exact ih
theorem KV.any {kvs:List (κ×V)} {vs:List (κ×Value)} (r:KV kvs vs) (k:κ):(kvs.any fun kv=>decide (kv.1=k))=vs.any fun kv=>decide (kv.1=k):=by
 unfold KV at r
 induction r with
 | nil=>rfl
 | cons h t ih=>rw [List.any_cons,List.any_cons,ih,h.1]
theorem KV.IW {kvs:List (κ×V)} {vs:List (κ×Value)} (r:KV kvs vs) (k:κ) {y:V} {u:Value} (ry:RelV y u) :
  KV (kvs.map fun kv=>if kv.1=k then (kv.1,y) else kv) (vs.map fun kv=>if kv.1=k then (kv.1,u) else kv):=by
 unfold KV at r ⊢
 induction r with
 | nil=>exact .nil
 | @cons p q ps qs h t ih =>
  rw [List.map_cons,List.map_cons]
  refine .cons ?_ ih
  obtain⟨h1,h2⟩:=h
  by_cases e:p.1=k
  ·rw [if_pos e,if_pos (h1.symm.trans e)];exact⟨h1,ry⟩
  ·rw [if_neg e,if_neg (fun z=>e (h1.trans z))];exact⟨h1,h2⟩
theorem KV.put {kvs:List (κ×V)} {vs:List (κ×Value)} (r:KV kvs vs) (k:κ) {y:V} {u:Value} (ry:RelV y u):KV (putK kvs k y) (stored vs k u):=by
 unfold putK stored
 rw [r.any k]
 by_cases e:(vs.any fun kv=>decide (kv.1=k))=true
 ·rw [if_pos e,if_pos e];exact r.IW k ry
 ·rw [if_neg e,if_neg e];exact Paired.snoc r ⟨rfl,ry⟩
theorem KV.length {kvs:List (κ×V)} {vs:List (κ×Value)} (r:KV kvs vs):kvs.length=vs.length:=Paired.length r
end
theorem Ca {P:Program} {w:World} {k:Key} {u:Value} (r:RelV (kV k) u):(cA P w).is k u=true:=by
 cases k with
 | inl i=>obtain⟨t,e⟩:=(show ∃t,u=Value.int i t from r);subst e;exact vp P w i t
 | inr x=>obtain⟨t,e⟩:=(show ∃t,u=Value.str x t from r);subst e;exact uO P w x t
theorem rd {P:Program} {w:World}:∀{ks:List Key} {us:List Value},Vals (ks.map kV) us→ItemsAre (cA P w) ks us
 | [],_,r=>by rw [List.map_nil] at r;cases r;exact .nil
 | k :: ks,_,r=>by
  rw [List.map_cons] at r
  cases r with
  | cons h t=>exact .cons (Ca h) (rd t)
abbrev KT (H:Hp):List (List Key×V)→List (List Key×Addr×Value)→Prop:=Paired fun p q=>p.1=q.1∧H q.2.1=some (.tup (p.1.map kV))∧RelV p.2 q.2.2
theorem KT.val {H:Hp} {kvs:List (List Key×V)} {xs:List (List Key×Addr×Value)} (r:KT H kvs xs) (k:List Key):uf (lB kvs k) ((atKey xs k).map (·.2)):=by
 induction r with
 | nil=>exact True.intro
 | @cons p q ps qs h t ih =>
  obtain⟨h1,_,h2⟩:=h
  by_cases e:p.1=k
  ·have e':q.1=k:=h1.symm.trans e
   have b:atKey (q :: qs) k=some q.2:=by simp [atKey,List.find?_cons,e']
   rw [kC e,b];exact h2
  ·have e':¬ q.1=k:=fun z=>e (h1.trans z)
   have b:atKey (q :: qs) k=atKey qs k:=by simp [atKey,List.find?_cons,e']
   rw [kK e,b];exact ih
section
variable {P:Program} {w:World} {H:Hp} {h:Heap} {a:Addr}
theorem DU {u:HO} (ok:jO P w H h) (e:Rd H a u):bF P w H h a u:=e.ok ok
theorem BB {kvs:List (Key×V)} (ok:jO P w H h) (e:Rd H a (.dK kvs)):kvs.length≤sizeLine∧(a == sysModules)=false∧∃vs,KV kvs vs∧h.DictOf (cA P w) a vs :=
 show bF P w H h a (.dK kvs) from DU ok e
theorem Iq {kvs:List (Key×V)} (ok:jO P w H h) (e:H a=some (.dK kvs)):kvs.length≤sizeLine∧(a == sysModules)=false∧∃vs,KV kvs vs∧h.DictOf (cA P w) a vs:=BB ok (.inl e)
theorem B0 {ks:List Key} (ok:jO P w H h) (e:H a=some (.tup (ks.map kV))):(tupleKind (cA P w)).is h ks a:=by
 obtain⟨_,its,r,o,h1,h2,⟨n,h3⟩,_⟩:=(show bF P w H h a (.tup (ks.map kV)) from ok a _ e)
 exact⟨o,its.toArray,n,h1,h2,h3,by simpa using rd r⟩
theorem Ea {kvs:List (List Key×V)} (ok:jO P w H h) (e:Rd H a (.dT kvs)):kvs.length≤sizeLine∧(a == sysModules)=false ∧
  ∃xs,KT H kvs xs∧h.DictOfH (tupleKind (cA P w)) a xs:=by
 obtain⟨z,y,xs,r,o,es,ep,h1,h2,h3,h4,h5⟩:=(show bF P w H h a (.dT kvs) from DU ok e)
 refine⟨z,y,xs,r,o,es,ep,h1,h2,h3,h4,fun x hx=>?_,h5⟩
 have all:∀{l:List (List Key×V)} {m:List (List Key×Addr×Value)},KT H l m→∀x∈m,(tupleKind (cA P w)).is h x.1 x.2.1:=by
  intro l m q
  induction q with
  | nil=>intro x hx;exact nomatch hx
  | @cons p q ps qs hq t ih =>
   intro x hx
   rcases List.mem_cons.mp hx with e | hx
   ·subst e
    exact B0 ok (by rw [← hq.1];exact hq.2.1)
   ·exact ih x hx
 exact all r x hx
end
def BI (H:Hp) (a:Addr) (y:V) (r:Option V):Prop :=
 (∃kvs k,Rd H a (.dK kvs)∧y=kV k∧r=lB kvs k)∨∃kvs k b,Rd H a (.dT kvs)∧y=.ref b∧H b=some (.tup (k.map kV))∧r=lB kvs k
theorem BI.k {H:Hp} {a:Addr} {kvs:List (Key×V)} {k:Key} (e:H a=some (.dK kvs)):BI H a (kV k) (lB kvs k):=.inl ⟨kvs,k,.inl e,rfl,rfl⟩
section
variable {X:Cx} {pins:List (Addr×Obj)} {σ:St} {H:Hp} {s:Shared} {a:Addr} {y v:V} {u r:Value} {o:Option V} {A:Around} {E:Value→Shared→Prop}
theorem Inv.big (I:Inv X pins σ H s):sysModules < s.heap.objs.size:=by
 have h:mainGlobals < s.heap.objs.size:=(I.mod.glob.keeps I.bk).lt
 exact Nat.lt_trans (by decide) h
theorem yT {Q:Value→Shared→Prop} (hu:A.units + 1 < cLine) (I:Inv X pins σ H s) (g:BI H a y (some v)) (ry:RelV y u) (h:∀w' s',Inv X pins σ H s'→RelV v w'→Q w' s') :
  wpAny (model X.prog X.w) A (getItem (.ref a) u) Q E s:=by
 rcases g with ⟨kvs,k,e,ey,l⟩ | ⟨kvs,k,b,e,ey,eb,l⟩
 ·subst ey
  obtain⟨z,hd,vs,rel,dd⟩:=BB I.hok e
  obtain⟨w',hw,rw'⟩:=uf.some_of (v:=v) (o:=valueAt vs k) (by rw [l];exact rel.val k)
  exact wpAny_getItem_of (Ca ry) dd.mapOf hw (h w' _ (I.tok _) rw')
 ·subst ey
  cases (show u=Value.ref b from ry)
  obtain⟨z,hd,xs,rel,dd⟩:=Ea I.hok e
  obtain⟨w',hw,rw'⟩:=uf.some_of (v:=v) (o:=(atKey xs k).map (·.2)) (by rw [l];exact rel.val k)
  obtain⟨p,hp,hp2⟩:=Option.map_eq_some_iff.mp hw
  refine wpAny_getItem_heap (tupleKind_room_in1 hu) (B0 I.hok eb) dd hp ?_
  rw [hp2]
  exact h w' _ (I.tok _) rw'
theorem tV {h':Heap} {t':Nat} {ob:HO} (I:Inv X pins σ H s) (mu:Ib (H a)) (hs:Heap.SameBut a s.heap h') (he:∃q,h'.get? a=some q) (new:bF X.prog X.w (upd H a ob) h' a ob) :
  Inv X pins σ (upd H a ob) { s with heap:=h',toks:=t' } :=
 I.write (x:=a) (e:=a) mu (.inl rfl) (fun b q hb z=>(hs.2 b hb).trans z) he new
theorem Gj {P:Program} {w:World} {H':Hp} {h':Heap} {kvs:List (Key×V)} {vs:List (Key×Value)} (z:kvs.length≤sizeLine) (hd:(a == sysModules)=false) (rel:KV kvs vs) (dd:h'.DictOf (cA P w) a vs) :
  bF P w H' h' a (.dK kvs):=⟨z,hd,vs,rel,dd⟩
end
def AI (i:Expr):Prop:=∀ov iv,subscripted i false ov iv=operate [ov,iv] (getItem ov iv)
theorem yx {prog:Program} {w:World} {A:Around} {E:Value→Shared→Prop} {s:Shared} {env:Env} {value slice:Expr} {pos:Pos} {T id:String} {Q:Value→Shared→Prop}
  (hl:typeLookup (.type T) "__getitem__" = pure (some (.builtin id))) (hs:AI slice)
  (h:wpAny (model prog w) A (eval value env) (fun o s₁=>wpAny (model prog w) A (eval slice env) (fun i s₂=>s₂.TypeIs o T∧wpAny (model prog w) A (getItem o i) Q E s₂) E s₁) E s) :
  wpAny (model prog w) A (eval (.Subscript value slice pos) env) Q E s:=by
 refine Subscript_ (wpAny_mono h (fun o s₁ h₁=>wpAny_mono h₁ (fun i s₂ h₂=>?_) fun _ _ x=>x) fun _ _ x=>x)
 obtain⟨hT,h₂⟩:=h₂
 unfold subscriptTail
 refine wpAny_bind ?_
 rw [getitemInPython_of_ne hT.not_modules]
 refine wpAny_bind (wpAny_specialOf hT hl ?_)
 have fin:wpAny (model prog w) A (subscripted slice false o i) (fun r s₃=>wpAny (model prog w) A (letTemporaryGo value o r >>= fun _=>pure r) Q E s₃) E s₂:=by
  rw [hs o i]
  exact wpAny_operating (wpAny_mono h₂ (fun r s₃ h₃=>wpAny_bind (wpAny_letTemporaryGo (wpAny_pure h₃))) fun _ _ x=>x)
 first
  | exact wpAny_pure (wpAny_bind fin)
  | exact wpAny_bind (wpAny_pure (wpAny_bind fin))
  | exact wpAny_bind fin
theorem uI {X:Cx} {pins:List (Addr×Obj)} {σ:St} {H:Hp} {s:Shared} {a:Addr} {y:V} {o:Option V} (I:Inv X pins σ H s) (g:BI H a y o):s.TypeIs (.ref a) "dict":=by
 rcases g with ⟨kvs,k,e,_,_⟩ | ⟨kvs,k,b,e,_,_,_⟩
 ·obtain⟨_,_,vs,_,dd⟩:=BB I.hok e
  exact dd.typeIs
 ·obtain⟨_,_,xs,_,dd⟩:=Ea I.hok e
  exact dd.typeIs
def GZ (td ty:TE):TE:=fun σ H Q=>td σ H fun x H1=>ty σ H1 fun y H2=>∃a v,x=.ref a∧BI H2 a y (some v)∧Q v H2
section
variable {X:Cx} {o i e value:Expr} {pos pos' tpos:Pos} {td ty tv:TE}
theorem CS (hu:X.A.units + 1 < cLine) (ho:PE X o td) (hi:PE X i ty) (hs:AI i):PE X (.Subscript o i pos) (GZ td ty):=by
 intro pins s σ H Q I h
 refine yx PySem.F.slot_dict_getitem.lookup hs (bP (ho pins s σ H _ I h) fun u s1 ⟨x,H1,I1,rx,q1⟩=>bP (hi pins s1 σ H1 _ I1 q1) fun iv s2 ⟨y,H2,I2,ry,a,v,ex,g,q2⟩=>?_)
 subst ex
 obtain rfl:u=Value.ref a:=rx
 exact⟨uI I2 g,yT hu I2 g ry fun w' s3 I3 rw'=>⟨v,H2,I3,rw',q2⟩⟩
end
theorem zL {P:Program} {w:World} {H:Hp} (h:Heap) (hb:sysModules < h.objs.size):bF P w H (h.push { cls:=.type "dict",data:=.dict #[] }) h.objs.size (.dK []) :=
 ⟨Nat.zero_le _,beq_eq_false_iff_ne.mpr (Ne.symm (Nat.ne_of_lt hb)),[],.nil,Heap.DictOf.new h⟩
def lL:List (TE×TE)→St→Hp→(List (V×V)→Hp→Prop)→Prop
 | [],_,H,Q=>Q [] H
 | (tk,tv) :: r,σ,H,Q=>tk σ H fun x H1=>tv σ H1 fun y H2=>lL r σ H2 fun ps H3=>Q ((x,y) :: ps) H3
abbrev VV:List (V×V)→List (Value×Value)→Prop:=Paired fun p q=>RelV p.1 q.1∧RelV p.2 q.2
def HD (X:Cx) (pos:Pos) (keys:List (Option Expr)) (values:List Expr) (trs:List (TE×TE)):Prop :=
 ∀(pins:List (Addr×Obj)) (s:Shared) (σ:St) (H:Hp) (Q:List (V×V)→Hp→Prop),Inv X pins σ H s→lL trs σ H Q →
  wpAny (model X.prog X.w) X.A (evalPairs (pairTrees keys values X.env pos)) (fun vs s'=>∃ps H',Inv X pins σ H' s'∧VV ps vs∧Q ps H') X.xe s
theorem CV {X:Cx} {pos:Pos}:HD X pos [] [] []:=fun pins s σ H Q I h=>pairTrees_nil_walk ⟨[],H,I,.nil,h⟩
theorem Bx {X:Cx} {pos:Pos} {k v:Expr} {ks:List (Option Expr)} {vs:List Expr} {tk tv:TE} {trs:List (TE×TE)} (hk:PE X k tk) (hv:PE X v tv) (hr:HD X pos ks vs trs) :
  HD X pos (some k :: ks) (v :: vs) ((tk,tv) :: trs):=fun pins s σ H Q I h =>
 pairTrees_cons_walk (bP (hk pins s σ H _ I h) fun u s1 ⟨x,H1,I1,rx,q1⟩=>bP (hv pins s1 σ H1 _ I1 q1) fun w2 s2 ⟨y,H2,I2,ry,q2⟩ =>
  bP (hr pins s2 σ H2 _ I2 q2) fun ws s3 ⟨ps,H3,I3,rel,q3⟩=>⟨(x,y) :: ps,H3,I3,.cons ⟨rx,ry⟩ rel,q3⟩)
def gY (kvs more:List (Key×V)):List (Key×V):=more.foldl (fun acc kv=>putK acc kv.1 kv.2) kvs
theorem KV.merge:∀{more:List (Key×V)} {rs:List (Key×Value)} {kvs:List (Key×V)} {vs:List (Key×Value)},KV more rs→KV kvs vs→KV (gY kvs more) (merged vs rs):=by
 intro more rs kvs vs r
 unfold KV at r
 induction r generalizing kvs vs with
 | nil=>intro q;exact q
 | @cons p q ps qs h t ih =>
  intro r0
  have e:KV (putK kvs p.1 p.2) (stored vs q.1 q.2):=by
   have:=r0.put p.1 h.2
   rw [← h.1];exact this
  exact ih e
theorem jR:∀(more kvs:List (Key×V)),(gY kvs more).length≤kvs.length + more.length
 | [],kvs=>by show kvs.length≤kvs.length + 0;omega
 | p :: r,kvs=>by
  have h1:=jR r (putK kvs p.1 p.2)
  have h2:=vt kvs p.1 p.2
  show (gY (putK kvs p.1 p.2) r).length≤_
  rw [List.length_cons];omega
theorem pB {P:Program} {w:World}:∀{kvs:List (Key×V)} {ws:List (Value×Value)},VV (kvs.map fun kv=>(kV kv.1,kv.2)) ws→∃rs,Carries (cA P w) ws rs∧KV kvs rs
 | [],_,r=>by rw [List.map_nil] at r;cases r;exact⟨[],True.intro,.nil⟩
 | p :: kvs,_,r=>by
  rw [List.map_cons] at r
  cases r with
  | @cons a b as bs h t =>
   obtain⟨rs,c,q⟩:=pB (P:=P) (w:=w) t
   obtain⟨b1,b2⟩:=b
   exact⟨(p.1,b2) :: rs,⟨Ca h.1,rfl,c⟩,.cons ⟨rfl,h.2⟩ q⟩
def Hm (trs:List (TE×TE)):TE:=fun σ H Q=>∀p,H p=none→lL trs σ (upd H p (.dK [])) fun ps H2=>H2 p=some (.dK [])∧∃kvs:List (Key×V),ps=kvs.map (fun kv=>(kV kv.1,kv.2))∧kvs.length≤15∧Q (.ref p) (upd H2 p (.dK (gY [] kvs)))
theorem Cu {X:Cx} {pos:Pos} {keys:List (Option Expr)} {values:List Expr} {trs:List (TE×TE)} (h:HD X pos keys values trs) (hall:keys.all (·.isSome)=true) (hl:keys.length=values.length) (h0:keys≠[])
  (h15:keys.length≤15):PE X (.Dict keys values pos) (Hm trs):=by
 intro pins s σ H Q I q
 have hn:=I.hok.fresh (Nat.le_refl s.heap.objs.size)
 have I1:=I.laid (a:=s.heap.objs.size) (o:=.dK []) (h':=s.heap.push { cls:=.type "dict",data:=.dict #[] }) (t':=s.toks) (fun _ _ q=>Heap.get?_push_of_some _ q) (Nat.le_refl _) (zL s.heap I.big)
 refine wpAny_Dict_walk (knd:=cA X.prog X.w) hall hl h0 h15 (bP (h pins _ σ _ _ I1 (q _ hn)) fun ws s2 ⟨ps,H2,I2,rel,e,kvs,ep,lk,q2⟩=>?_)
 subst ep
 obtain⟨rs,c,rk⟩:=pB (P:=X.prog) (w:=X.w) rel
 obtain⟨z,hd,vs0,r0,dd⟩:=Iq I2.hok e
 cases r0
 refine⟨rs,c,dd,fun h' dd' hs=>⟨.ref s.heap.objs.size,_,?_,rfl,q2⟩⟩
 have hz:(gY [] kvs).length≤sizeLine:=by
  have h1:=jR kvs []
  rw [List.length_nil] at h1
  rw [sizeLine_eq];omega
 have he:∃q,h'.get? s.heap.objs.size=some q:=let ⟨q,_,_,hq,_⟩:=dd';⟨q,hq⟩
 exact tV I2 (by rw [e];exact True.intro) hs he (Gj hz hd (rk.merge .nil) dd')
structure M1 (X:Cx) (o:Expr) (m:Str) (apos:Pos) (e:Expr) (cpos:Pos):Prop where
 base:attributeBase o m X.env (eval o X.env)=eval o X.env
 few:((backTo cpos (starEach [e] X.env)).all (fun x=>!x.1) && (backToKw cpos (keywordEach [] X.env)).all (fun x=>x.1.isSome)
  && decide (([e]:List Expr).length + ([]:List Keyword).length + (if ([]:List Keyword).isEmpty then 0 else 1) < 30))=true
 line:(apos.endLine == cpos.line)=true
 trees:backTo cpos (starEach [e] X.env)=[(false,eval e X.env)]
end L2
namespace L2.L3
open PySem PySem.Spec PyProof.Rows
inductive D where
 | non | bl (b:Bool) | int (i:Int) | str (x:Str) | tup (xs:List D) | lst (xs:List D) | dct (ks:List Key) (xs:List D) | ty (n:String) | exc (c:Str) | cls (c:Str) | obj (P:PySem.W.Frag→Hp→Addr→Prop)
def excAt (a C:Addr) (h:Heap):Prop:=∃o vs,h.get? a=some o∧o.cls=.ref C∧o.dict=none∧o.data=.fields vs
mutual
def Den (K:PySem.W.Frag) (F:Hp):D→V→Prop
 | .non,v=>v=V.non
 | .bl b,v=>v=V.bl b
 | .int i,v=>v=V.int i
 | .str x,v=>v=V.str x
 | .ty n,v=>v=V.ty n
 | .exc c,v=>∃a C,v=V.ref a∧PySem.W.nsIn K mainGlobals c=some (some (.ref C))∧F a=some (.ext (excAt a C))
 | .cls c,v=>∃C,v=V.ref C∧PySem.W.nsIn K mainGlobals c=some (some (.ref C))
 | .tup ds,v=>∃a vs,v=V.ref a∧iy K F a vs∧ao K F ds vs
 | .lst ds,v=>∃a vs,v=V.ref a∧fz K F a vs∧ao K F ds vs
 | .obj P,v=>∃a,v=V.ref a∧∀G,ar F G→P K G a
 | .dct ks ds,v=>∃a vs,v=V.ref a∧F a=some (.dK (ks.zip vs))∧vs.length=ks.length∧ao K F ds vs
def ao (K:PySem.W.Frag) (F:Hp):List D→List V→Prop
 | [],vs=>vs=[]
 | d :: ds,vs=>∃v r,vs=v :: r∧Den K F d v∧ao K F ds r
end
theorem ar.b8 {K:PySem.W.Frag} {H H':Hp} {a:Addr} {xs:List V} (e:ar H H') (h:iy K H a xs):iy K H' a xs:=by
 rcases h with (h | ⟨o,h⟩) | h
 ·exact .inl (.inl (e _ _ h))
 ·exact .inl (.inr ⟨o,e _ _ h⟩)
 ·exact .inr h
mutual
theorem Den.mono {K:PySem.W.Frag} {F F':Hp} (s:ar F F'):∀(d:D) (v:V),Den K F d v→Den K F' d v
 | .non,_,h=>by simpa only [Den] using h
 | .bl _,_,h=>by simpa only [Den] using h
 | .int _,_,h=>by simpa only [Den] using h
 | .str _,_,h=>by simpa only [Den] using h
 | .ty _,_,h=>by simpa only [Den] using h
 | .cls _,_,h=>by simpa only [Den] using h
 | .exc _,v,h=>by
  simp only [Den] at h ⊢
  obtain⟨a,C,e,z,q⟩:=h
  exact⟨a,C,e,z,s _ _ q⟩
 | .tup ds,v,h=>by
  simp only [Den] at h ⊢
  obtain⟨a,vs,e,q,r⟩:=h
  exact⟨a,vs,e,ar.b8 s q,ao.mono s ds vs r⟩
 | .lst ds,v,h=>by
  simp only [Den] at h ⊢
  obtain⟨a,vs,e,q,r⟩:=h
  exact⟨a,vs,e,s.seq q,ao.mono s ds vs r⟩
 | .obj _,v,h=>by
  simp only [Den] at h ⊢
  obtain⟨a,e,q⟩:=h
  exact⟨a,e,fun G sG=>q G (s.trans sG)⟩
 | .dct ks ds,v,h=>by
  simp only [Den] at h ⊢
  obtain⟨a,vs,e,q,l,r⟩:=h
  exact⟨a,vs,e,s _ _ q,l,ao.mono s ds vs r⟩
theorem ao.mono {K:PySem.W.Frag} {F F':Hp} (s:ar F F'):∀(ds:List D) (vs:List V),ao K F ds vs→ao K F' ds vs
 | [],_,h=>by simpa only [ao] using h
 | d :: ds,vs,h=>by
  simp only [ao] at h ⊢
  obtain⟨v,r,e,a,b⟩:=h
  exact⟨v,r,e,Den.mono s d v a,ao.mono s ds r b⟩
end
section
variable {K:PySem.W.Frag} {F:Hp}
theorem bf {i:Int}:Den K F (.int i) (.int i):=by simp only [Den]
theorem dg {b:Bool}:Den K F (.bl b) (.bl b):=by simp only [Den]
theorem jx:Den K F .non .non:=by simp only [Den]
theorem gb {x:Str}:Den K F (.str x) (.str x):=by simp only [Den]
theorem Gr {x:String}:Den K F (.ty x) (.ty x):=by simp only [Den]
theorem gh {a:Addr} {vs:List V} {ds:List D} (h:iy K F a vs) (r:ao K F ds vs):Den K F (.tup ds) (.ref a):=by
 simp only [Den];exact⟨a,vs,rfl,h,r⟩
theorem h9 {a:Addr} {vs:List V} {ds:List D} (h:fz K F a vs) (r:ao K F ds vs):Den K F (.lst ds) (.ref a):=by
 simp only [Den];exact⟨a,vs,rfl,h,r⟩
theorem a7:ao K F [] []:=by simp only [ao]
theorem aW {d:D} {v:V} {ds:List D} {vs:List V} (h:Den K F d v) (r:ao K F ds vs):ao K F (d :: ds) (v :: vs):=by
 simp only [ao];exact⟨v,vs,rfl,h,r⟩
theorem ao.length:∀{ds:List D} {vs:List V},ao K F ds vs→ds.length=vs.length
 | [],vs,h=>by simp only [ao] at h;subst h;rfl
 | d :: ds,vs,h=>by
  simp only [ao] at h
  obtain⟨v,r,rfl,_,b⟩:=h
  simp [ao.length b]
theorem ao.get:∀{ds:List D} {vs:List V} {i:Nat} {d:D},ao K F ds vs→ds[i]?=some d→∃v,vs[i]?=some v∧Den K F d v
 | [],vs,i,d,h,e=>by simp at e
 | x :: ds,vs,i,d,h,e=>by
  simp only [ao] at h
  obtain⟨v,r,rfl,a,b⟩:=h
  cases i with
  | zero=>simp at e;subst e;exact⟨v,rfl,a⟩
  | succ i=>simpa using ao.get b (by simpa using e)
theorem ao.GW:∀{ds:List D} {vs:List V} {i:Nat} {v:V},ao K F ds vs→vs[i]?=some v→∃d,ds[i]?=some d∧Den K F d v
 | [],vs,i,d,h,e=>by simp only [ao] at h;subst h;simp at e
 | x :: ds,vs,i,d,h,e=>by
  simp only [ao] at h
  obtain⟨v,r,rfl,a,b⟩:=h
  cases i with
  | zero=>simp at e;subst e;exact⟨x,rfl,a⟩
  | succ i=>simpa using ao.GW b (by simpa using e)
theorem ao.append:∀{ds es:List D} {vs us:List V},ao K F ds vs→ao K F es us→ao K F (ds ++ es) (vs ++ us)
 | [],es,vs,us,h,g=>by simp only [ao] at h;subst h;exact g
 | x :: ds,es,vs,us,h,g=>by
  simp only [ao] at h
  obtain⟨v,r,rfl,a,b⟩:=h
  exact aW a (ao.append b g)
theorem ao.take:∀{ds:List D} {vs:List V} (n:Nat),ao K F ds vs→ao K F (ds.take n) (vs.take n)
 | _,_,0,_=>by simpa using a7
 | [],vs,n + 1,h=>by simp only [ao] at h;subst h;simpa using a7
 | x :: ds,vs,n + 1,h=>by
  simp only [ao] at h
  obtain⟨v,r,rfl,a,b⟩:=h
  exact aW a (ao.take n b)
theorem ao.drop:∀{ds:List D} {vs:List V} (n:Nat),ao K F ds vs→ao K F (ds.drop n) (vs.drop n)
 | _,_,0,h=>by simpa using h
 | [],vs,n + 1,h=>by simp only [ao] at h;subst h;simpa using a7
 | x :: ds,vs,n + 1,h=>by
  simp only [ao] at h
  obtain⟨v,r,rfl,a,b⟩:=h
  exact ao.drop n b
theorem ao.set {x:D} {v:V} (q:Den K F x v):∀{ds:List D} {vs:List V} (n:Nat),ao K F ds vs→ao K F (ds.set n x) (vs.set n v)
 | [],vs,n,h=>by simp only [ao] at h;subst h;simpa using a7
 | y :: ds,vs,0,h=>by
  simp only [ao] at h
  obtain⟨w,r,rfl,a,b⟩:=h
  exact aW q b
 | y :: ds,vs,n + 1,h=>by
  simp only [ao] at h
  obtain⟨w,r,rfl,a,b⟩:=h
  exact aW a (ao.set q n b)
theorem qM (ns:List Int):ao K F (ns.map D.int) (ns.map V.int):=by
 induction ns with
 | nil=>exact a7
 | cons n r ih=>exact aW bf ih
end
mutual
def Ar:D→Int
 | .int i=>hashInt i
 | .tup ds=>reduceHash (Builtin.Tuple.tupleHashOf (nO ds))
 | .non=>4238894112
 | _=>0
def nO:List D→List Int
 | []=>[]
 | d :: ds=>Ar d :: nO ds
end
def bA (h:Heap) (d:Addr) (es:Array DictEntry) (ep:Nat):Prop:=∃o,h.get? d=some o∧o.ExactDict∧o.data=.dict es ep
def A5 (row:Int×V×V) (e:DictEntry):Prop:=e.hash=row.1∧RelV row.2.1 e.key∧RelV row.2.2 e.val
def jJ (p:Addr) (ep:Nat) (rows:List (Int×V×V)):HO:=.ext fun h=>rows.length≤sizeLine∧(p == sysModules)=false∧∃es,bA h p es ep∧Paired A5 rows es.toList
def bV (kvs:List (D×D)) (us vs:List V):List (Int×V×V):=(kvs.map fun kv=>Ar kv.1).zip (us.zip vs)
inductive Lo where
 | d (x:D) | own (xs:List D) | dic (kvs:List (D×D))
abbrev En:=List (Option Lo)
structure Base where
 F:Hp
 H:Hp
 N:Addr→Prop
 nb:∀p,N p→H p≠none
structure Rep (K:PySem.W.Frag) (B:Base) (F H:Hp) (σ:St) (e:En):Prop where
 f0:ar B.F F
 fh:ar F H
 h0:ar B.H H
 nf:∀p,B.N p→F p=none
 dv:∀(i:Nat) x,e[i]?=some (some (.d x))→∃v,σ[i]?=some (some v)∧Den K F x v
 ov:∀(i:Nat) xs,e[i]?=some (some (.own xs))→∃p vs,σ[i]?=some (some (.ref p))∧H p=some (.lst vs)∧F p=none∧B.H p=none∧ao K F xs vs
 ne:∀(i j:Nat) xs ys p,i≠j→e[i]?=some (some (.own xs))→e[j]?=some (some (.own ys))→σ[i]?=some (some (.ref p))→σ[j]?=some (some (.ref p))→False
 mv:∀(i:Nat) kvs,e[i]?=some (some (.dic kvs))→∃p ep us vs,σ[i]?=some (some (.ref p))∧H p=some (jJ p ep (bV kvs us vs))∧F p=none∧B.H p=none∧ao K F (kvs.map (·.1)) us∧ao K F (kvs.map (·.2)) vs
 nm:∀(i j:Nat) xs ys p,i≠j→e[i]?=some (some (.dic xs))→e[j]?=some (some (.dic ys))→σ[i]?=some (some (.ref p))→σ[j]?=some (some (.ref p))→False
section
variable {K:PySem.W.Frag} {B:Base} {F H F' H':Hp} {σ:St} {e:En}
theorem Rep.ext (r:Rep K B F H σ e) (a:ar F F') (b:ar F' H') (c:ar H H') (n:∀p,H p≠none→F p=none→F' p=none):Rep K B F' H' σ e where
 f0:=r.f0.trans a
 fh:=b
 h0:=r.h0.trans c
 nf:=fun p hp=>by
  refine n p (fun z=>?_) (r.nf p hp)
  have q:=B.nb p hp
  cases w:B.H p with
  | none=>exact q w
  | some o=>rw [r.h0 _ _ w] at z;cases z
 dv:=fun i x h=>let ⟨v,h1,h2⟩:=r.dv i x h;⟨v,h1,Den.mono a _ _ h2⟩
 ov:=fun i xs h=>by
  obtain⟨p,vs,h1,h2,h3,h4,h5⟩:=r.ov i xs h
  exact⟨p,vs,h1,c _ _ h2,n p (by rw [h2];simp) h3,h4,ao.mono a _ _ h5⟩
 ne:=r.ne
 mv:=fun i xs h=>by
  obtain⟨p,ep,us,vs,h1,h2,h3,h4,h5,h6⟩:=r.mv i xs h
  exact⟨p,ep,us,vs,h1,c _ _ h2,n p (by rw [h2];simp) h3,h4,ao.mono a _ _ h5,ao.mono a _ _ h6⟩
 nm:=r.nm
theorem Rep.qB (r:Rep K B F H σ e) {p:Addr} (h:H p=none):F p=none:=r.fh.free h
theorem ck {H:Hp} {p:Addr} {o:HO} (h:H p=none):ar H (upd H p o):=fun b u q=>by rw [aB (bS q h)];exact q
theorem lW {F H:Hp} {p:Addr} {o:HO} (h:ar F H):ar (upd F p o) (upd H p o):=fun b u q=>by
 by_cases e:b=p
 ·subst e;rw [aI] at q ⊢;exact q
 ·rw [aB e] at q ⊢;exact h _ _ q
theorem Rep.laid (r:Rep K B F H σ e) {p:Addr} {o:HO} (h:H p=none):Rep K B (upd F p o) (upd H p o) σ e∧ar F (upd F p o):=by
 have hf:=r.qB h
 refine⟨r.ext (ck hf) (lW r.fh) (ck h) fun q hq hn=>?_,ck hf⟩
 by_cases z:q=p
 ·subst z;exact absurd h hq
 ·rw [aB z];exact hn
theorem Rep.loose (r:Rep K B F H σ e) {p:Addr} {o:HO} (h:H p=none):Rep K B F (upd H p o) σ e :=
 r.ext (ar.refl _) (r.fh.trans (ck h)) (ck h) fun _ _ hn=>hn
theorem Rep.now (r:Rep K B F H σ e):Rep K ⟨F,B.H,B.N,B.nb⟩ F H σ e:=⟨ar.refl _,r.fh,r.h0,r.nf,r.dv,r.ov,r.ne,r.mv,r.nm⟩
theorem Rep.back {G:Hp} (s:ar B.F G) (r:Rep K ⟨G,B.H,B.N,B.nb⟩ F H σ e):Rep K B F H σ e:=⟨s.trans r.f0,r.fh,r.h0,r.nf,r.dv,r.ov,r.ne,r.mv,r.nm⟩
theorem aU {e:En} {i j:Nat} {l:Lo} {kvs:List (D×D)} (hl:∀z,l≠.dic z) (q:(e.set i (some l))[j]?=some (some (.dic kvs))):i≠j:=fun z=>by
 subst z
 by_cases w:i < e.length
 ·rw [List.getElem?_set_self w] at q;cases q;exact hl _ rfl
 ·rw [List.getElem?_eq_none (by simpa using w)] at q;cases q
theorem Rep.set (r:Rep K B F H σ e) {i:Nat} {v:V} {x:D} (h:Den K F x v) (hl:i < σ.length):Rep K B F H (σ.set i (some v)) (e.set i (some (.d x))) where
 f0:=r.f0
 fh:=r.fh
 h0:=r.h0
 nf:=r.nf
 dv:=fun j y q=>by
  by_cases z:i=j
  ·subst z
   by_cases w:i < e.length
   ·rw [List.getElem?_set_self w] at q
    cases q
    exact⟨v,List.getElem?_set_self hl,h⟩
   ·rw [List.getElem?_eq_none (by simpa using w)] at q;cases q
  ·rw [List.getElem?_set_ne z] at q ⊢;exact r.dv j y q
 ov:=fun j y q=>by
  by_cases z:i=j
  ·subst z
   by_cases w:i < e.length
   ·rw [List.getElem?_set_self w] at q;cases q
   ·rw [List.getElem?_eq_none (by simpa using w)] at q;cases q
  ·rw [List.getElem?_set_ne z] at q ⊢;exact r.ov j y q
 ne:=fun j k xs ys p hjk q1 q2 q3 q4=>by
  have own_ne:∀(j:Nat) (ys:List D),(e.set i (some (.d x)))[j]?=some (some (.own ys))→i≠j:=fun j ys q z=>by
   subst z
   by_cases w:i < e.length
   ·rw [List.getElem?_set_self w] at q;cases q
   ·rw [List.getElem?_eq_none (by simpa using w)] at q;cases q
  have z1:=own_ne j xs q1
  have z2:=own_ne k ys q2
  rw [List.getElem?_set_ne z1] at q1 q3
  rw [List.getElem?_set_ne z2] at q2 q4
  exact r.ne j k xs ys p hjk q1 q2 q3 q4
 mv:=fun j y q=>by
  have z:i≠j:=aU (fun _ w=>by cases w) q
  rw [List.getElem?_set_ne z] at q ⊢;exact r.mv j y q
 nm:=fun j k xs ys p hjk q1 q2 q3 q4=>by
  have z1:=aU (fun _ w=>by cases w) q1
  have z2:=aU (fun _ w=>by cases w) q2
  rw [List.getElem?_set_ne z1] at q1 q3
  rw [List.getElem?_set_ne z2] at q2 q4
  exact r.nm j k xs ys p hjk q1 q2 q3 q4
theorem Rep.By (r:Rep K B F H σ e) {i:Nat} {p:Addr} {vs:List V} {xs:List D} (h:H p=none) (hd:ao K F xs vs) (hl:i < σ.length) :
  Rep K B F (upd H p (.lst vs)) (σ.set i (some (.ref p))) (e.set i (some (.own xs))):=by
 have r1:=r.loose (o:=.lst vs) h
 have hb:B.H p=none:=r.h0.free h
 have old:∀(j:Nat) (ys:List D),e[j]?=some (some (.own ys))→σ[j]?≠some (some (.ref p)):=fun j ys q z=>by
  obtain⟨q1,_,h1,h2,_⟩:=r.ov j ys q
  rw [z] at h1;cases h1;rw [h] at h2;cases h2
 refine⟨r1.f0,r1.fh,r1.h0,r1.nf,fun j y q=>?_,fun j y q=>?_,fun j k ys zs q hjk q1 q2 q3 q4=>?_,fun j y q=>?_,fun j k ys zs q hjk q1 q2 q3 q4=>?_⟩
 ·by_cases z:i=j
  ·subst z
   by_cases w:i < e.length
   ·rw [List.getElem?_set_self w] at q;cases q
   ·rw [List.getElem?_eq_none (by simpa using w)] at q;cases q
  ·rw [List.getElem?_set_ne z] at q ⊢;exact r1.dv j y q
 ·by_cases z:i=j
  ·subst z
   by_cases w:i < e.length
   ·rw [List.getElem?_set_self w] at q
    cases q
    exact⟨p,vs,List.getElem?_set_self hl,aI,r.qB h,hb,hd⟩
   ·rw [List.getElem?_eq_none (by simpa using w)] at q;cases q
  ·rw [List.getElem?_set_ne z] at q ⊢;exact r1.ov j y q
 ·by_cases z1:i=j
  ·subst z1
   rw [List.getElem?_set_ne hjk] at q2 q4
   by_cases w:i < e.length
   ·rw [List.getElem?_set_self hl] at q3
    cases q3
    exact old k zs q2 q4
   ·rw [List.getElem?_eq_none (by simpa using w)] at q1;cases q1
  ·rw [List.getElem?_set_ne z1] at q1 q3
   by_cases z2:i=k
   ·subst z2
    rw [List.getElem?_set_self hl] at q4
    cases q4
    exact old j ys q1 q3
   ·rw [List.getElem?_set_ne z2] at q2 q4
    exact r.ne j k ys zs q hjk q1 q2 q3 q4
 ·have z:i≠j:=aU (fun _ w=>by cases w) q
  rw [List.getElem?_set_ne z] at q ⊢;exact r1.mv j y q
 ·have z1:=aU (fun _ w=>by cases w) q1
  have z2:=aU (fun _ w=>by cases w) q2
  rw [List.getElem?_set_ne z1] at q1 q3
  rw [List.getElem?_set_ne z2] at q2 q4
  exact r.nm j k ys zs q hjk q1 q2 q3 q4
theorem Rep.change (r:Rep K B F H σ e) {i:Nat} {p:Addr} {vs:List V} {xs ys:List D} (h:e[i]?=some (some (.own xs))) (hp:σ[i]?=some (some (.ref p))) (hd:ao K F ys vs) :
  Rep K B F (upd H p (.lst vs)) σ (e.set i (some (.own ys))):=by
 obtain⟨p',_,h1,h2,h3,h4,_⟩:=r.ov i xs h
 rw [hp] at h1;cases h1
 have wl:i < e.length:=(List.getElem?_eq_some_iff.mp h).1
 have fk:∀q o,F q=some o→q≠p:=fun q o z w=>by subst w;rw [h3] at z;cases z
 have bk:∀q o,B.H q=some o→q≠p:=fun q o z w=>by subst w;rw [h4] at z;cases z
 have ownAt:∀(j:Nat) (zs:List D),(e.set i (some (.own ys)))[j]?=some (some (.own zs))→∃ws,e[j]?=some (some (.own ws)):=fun j zs q=>by
  by_cases z:i=j
  ·subst z;exact⟨xs,h⟩
  ·rw [List.getElem?_set_ne z] at q;exact⟨zs,q⟩
 refine⟨r.f0,fun b o z=>by rw [aB (fk b o z)];exact r.fh _ _ z,fun b o z=>by rw [aB (bk b o z)];exact r.h0 _ _ z,r.nf,fun j y q=>?_,fun j y q=>?_,fun j k as bs q hjk q1 q2 q3 q4=>?_,fun j y q=>?_,fun j k as bs q hjk q1 q2 q3 q4=>?_⟩
 ·by_cases z:i=j
  ·subst z;rw [List.getElem?_set_self wl] at q;cases q
  ·rw [List.getElem?_set_ne z] at q;exact r.dv j y q
 ·by_cases z:i=j
  ·subst z
   rw [List.getElem?_set_self wl] at q
   cases q
   exact⟨p,vs,hp,aI,h3,h4,hd⟩
  ·rw [List.getElem?_set_ne z] at q
   obtain⟨p2,us,g1,g2,g3,g4,g5⟩:=r.ov j y q
   have:p2≠p:=fun w=>by subst w;exact r.ne j i y xs p2 (Ne.symm z) q h g1 hp
   exact⟨p2,us,g1,by rw [aB this];exact g2,g3,g4,g5⟩
 ·obtain⟨as',w1⟩:=ownAt j as q1
  obtain⟨bs',w2⟩:=ownAt k bs q2
  exact r.ne j k as' bs' q hjk w1 w2 q3 q4
 ·have z:i≠j:=aU (fun _ w=>by cases w) q
  rw [List.getElem?_set_ne z] at q
  obtain⟨p2,ep,us,ws,g1,g2,g3,g4,g5,g6⟩:=r.mv j y q
  have:p2≠p:=fun w=>by subst w;rw [h2] at g2;cases g2
  exact⟨p2,ep,us,ws,g1,by rw [aB this];exact g2,g3,g4,g5,g6⟩
 ·have z1:=aU (fun _ w=>by cases w) q1
  have z2:=aU (fun _ w=>by cases w) q2
  rw [List.getElem?_set_ne z1] at q1
  rw [List.getElem?_set_ne z2] at q2
  exact r.nm j k as bs q hjk q1 q2 q3 q4
theorem Rep.freeze (r:Rep K B F H σ e) {i:Nat} {xs:List D} (h:e[i]?=some (some (.own xs))):∃F',ar F F'∧Rep K B F' H σ (e.set i (some (.d (.lst xs)))):=by
 obtain⟨p,vs,h1,h2,h3,h4,h5⟩:=r.ov i xs h
 have wl:i < e.length:=(List.getElem?_eq_some_iff.mp h).1
 have s1:ar F (upd F p (.lst vs)):=ck h3
 refine⟨upd F p (.lst vs),s1,r.f0.trans s1,fun b o z=>?_,r.h0,fun q hq=>?_,fun j y q=>?_,fun j y q=>?_,fun j k as bs q hjk q1 q2 q3 q4=>?_,fun j y q=>?_,fun j k as bs q hjk q1 q2 q3 q4=>?_⟩
 ·by_cases w:b=p
  ·subst w;rw [aI] at z;cases z;exact h2
  ·rw [aB w] at z;exact r.fh _ _ z
 ·have:q≠p:=fun w=>by subst w;exact B.nb _ hq h4
  rw [aB this];exact r.nf q hq
 ·by_cases z:i=j
  ·subst z
   rw [List.getElem?_set_self wl] at q
   cases q
   exact⟨_,h1,h9 (fz.of aI) (ao.mono s1 _ _ h5)⟩
  ·rw [List.getElem?_set_ne z] at q
   obtain⟨v,a,b⟩:=r.dv j y q
   exact⟨v,a,Den.mono s1 _ _ b⟩
 ·by_cases z:i=j
  ·subst z;rw [List.getElem?_set_self wl] at q;cases q
  ·rw [List.getElem?_set_ne z] at q
   obtain⟨p2,us,g1,g2,g3,g4,g5⟩:=r.ov j y q
   have:p2≠p:=fun w=>by subst w;exact r.ne j i y xs p2 (Ne.symm z) q h g1 h1
   exact⟨p2,us,g1,g2,by rw [aB this];exact g3,g4,ao.mono s1 _ _ g5⟩
 ·have ownAt:∀(j:Nat) (zs:List D),(e.set i (some (.d (.lst xs))))[j]?=some (some (.own zs))→e[j]?=some (some (.own zs)):=fun j zs q=>by
   by_cases z:i=j
   ·subst z;rw [List.getElem?_set_self wl] at q;cases q
   ·rw [List.getElem?_set_ne z] at q;exact q
  exact r.ne j k as bs q hjk (ownAt j as q1) (ownAt k bs q2) q3 q4
 ·have z:i≠j:=aU (fun _ w=>by cases w) q
  rw [List.getElem?_set_ne z] at q
  obtain⟨p2,ep,us,ws,g1,g2,g3,g4,g5,g6⟩:=r.mv j y q
  have:p2≠p:=fun w=>by subst w;rw [h2] at g2;cases g2
  exact⟨p2,ep,us,ws,g1,g2,by rw [aB this];exact g3,g4,ao.mono s1 _ _ g5,ao.mono s1 _ _ g6⟩
 ·have z1:=aU (fun _ w=>by cases w) q1
  have z2:=aU (fun _ w=>by cases w) q2
  rw [List.getElem?_set_ne z1] at q1
  rw [List.getElem?_set_ne z2] at q2
  exact r.nm j k as bs q hjk q1 q2 q3 q4
end
end L2.L3
namespace L2.L3
open PySem PySem.Spec PyProof.Rows
def notStar:Expr→Bool
 | .Starred _ _=>false
 | _=>true
theorem aR {e:Expr} {es:List Expr} {env:Env} (h:notStar e=true):starEach (e :: es) env=(false,eval e env) :: starEach es env:=by
 cases e <;> first | rfl | cases h
abbrev TD:=En→(D→Prop)→Prop
abbrev TB:=En→(Bool→Prop)→Prop
abbrev eI:=En→(List D→Prop)→Prop
structure Ends3 where
 nx:En→Prop
 rt:D→Prop
 bk:En→Prop:=fun _=>False
 ct:En→Prop:=fun _=>False
abbrev bC:=Ends3→En→Prop
def wE (X:Cx) (e:Expr):TE:=fun σ H Q=>∀(pins:List (Addr×Obj)) (s:Shared),Inv X pins σ H s→wpAny (model X.prog X.w) X.A (eval e X.env) (EP X pins σ Q) X.xe s
def wT (X:Cx) (e:Expr):TT:=fun σ H Q=>∀(pins:List (Addr×Obj)) (s:Shared),Inv X pins σ H s→wpAny (model X.prog X.w) X.A (isTrue e X.env (eval e X.env)) (TP X pins σ Q) X.xe s
def wW (X:Cx) (e:Expr):TT:=fun σ H Q=>∀(whole:Sem Value) (pins:List (Addr×Obj)) (s:Shared),Inv X pins σ H s→wpAny (model X.prog X.w) X.A (isTrue e X.env whole) (TP X pins σ Q) X.xe s
def wA (X:Cx) (es:List Expr):TA:=fun σ H Q=>∀(pos:Pos) (pins:List (Addr×Obj)) (s:Shared),Inv X pins σ H s→wpAny (model X.prog X.w) X.A (spliced (backTo pos (starEach es X.env))) (AP X pins σ Q) X.xe s
def wS (X:Cx) (st:Stmt):TS:=fun D σ H=>∀(pins:List (Addr×Obj)) (s:Shared),Inv X pins σ H s→wpAny (model X.prog X.w) X.A (exec st X.env) (SP X pins D) X.xe s
def wSs (X:Cx) (st:List Stmt):TS:=fun D σ H=>∀(pins:List (Addr×Obj)) (s:Shared),Inv X pins σ H s→wpAny (model X.prog X.w) X.A (execs st X.env) (SP X pins D) X.xe s
section
variable {X:Cx} {e:Expr} {es:List Expr} {st:Stmt} {sts:List Stmt} {σ:St} {H:Hp}
theorem bh:PE X e (wE X e):=fun pins s σ H Q I h=>h pins s I
theorem qi:PT X e (wT X e):=fun pins s σ H Q I h=>h pins s I
theorem HQ:PW X e (wW X e):=fun wh pins s σ H Q I h=>h wh pins s I
theorem js:PA X es (wA X es):=fun pos pins s σ H Q I h=>h pos pins s I
theorem Ag:PS X st (wS X st):=fun pins s σ H D I h=>h pins s I
theorem d9:vc X sts (wSs X sts):=fun pins s σ H D I h=>h pins s I
theorem bD {te:TE} {Q:VK} (h:PE X e te) (q:te σ H Q):wE X e σ H Q:=fun pins s I=>h pins s σ H Q I q
theorem ud {te:TT} {Q:Bool→Hp→Prop} (h:PT X e te) (q:te σ H Q):wT X e σ H Q:=fun pins s I=>h pins s σ H Q I q
theorem yu {te:TT} {Q:Bool→Hp→Prop} (h:PW X e te) (q:te σ H Q):wW X e σ H Q:=fun wh pins s I=>h wh pins s σ H Q I q
theorem Ew {te:TA} {Q:List V→Hp→Prop} (h:PA X es te) (q:te σ H Q):wA X es σ H Q:=fun pos pins s I=>h pos pins s σ H Q I q
theorem dA {te:TS} {D:Ends} (h:PS X st te) (q:te D σ H):wS X st D σ H:=fun pins s I=>h pins s σ H D I q
theorem lV {te:TS} {D:Ends} (h:vc X sts te) (q:te D σ H):wSs X sts D σ H:=fun pins s I=>h pins s σ H D I q
theorem aE {Q Q':VK} (h:wE X e σ H Q) (i:∀v H',Q v H'→Q' v H'):wE X e σ H Q':=fun pins s I=>bP (h pins s I) fun _ _ ⟨v,H',I',r,q⟩=>⟨v,H',I',r,i v H' q⟩
theorem gk {Q Q':Bool→Hp→Prop} (h:wT X e σ H Q) (i:∀v H',Q v H'→Q' v H'):wT X e σ H Q':=fun pins s I=>bP (h pins s I) fun b _ ⟨H',I',q⟩=>⟨H',I',i b H' q⟩
theorem yw {Q Q':Bool→Hp→Prop} (h:wW X e σ H Q) (i:∀v H',Q v H'→Q' v H'):wW X e σ H Q':=fun wh pins s I=>bP (h wh pins s I) fun b _ ⟨H',I',q⟩=>⟨H',I',i b H' q⟩
theorem cg {Q Q':List V→Hp→Prop} (h:wA X es σ H Q) (i:∀v H',Q v H'→Q' v H'):wA X es σ H Q':=fun pos pins s I=>bP (h pos pins s I) fun _ _ ⟨v,H',I',r,q⟩=>⟨v,H',I',r,i v H' q⟩
theorem nH {pins:List (Addr×Obj)} {D D':Ends} {f:Flow} {s':Shared} (h:SP X pins D f s') (nx:∀σ H,D.nx σ H→D'.nx σ H) (rt:∀v H,D.rt v H→D'.rt v H) (bk:∀σ H,D.bk σ H→D'.bk σ H) (ct:∀σ H,D.ct σ H→D'.ct σ H):SP X pins D' f s':=by
 cases f with
 | next=>obtain⟨σ',H',I,q⟩:=h;exact⟨σ',H',I,nx _ _ q⟩
 | brk=>obtain⟨σ',H',I,q⟩:=h;exact⟨σ',H',I,bk _ _ q⟩
 | cont=>obtain⟨σ',H',I,q⟩:=h;exact⟨σ',H',I,ct _ _ q⟩
 | ret u=>obtain⟨v,σ',H',I,r,q⟩:=h;exact⟨v,σ',H',I,r,rt _ _ q⟩
theorem yL {D D':Ends} (h:wS X st D σ H) (nx:∀σ H,D.nx σ H→D'.nx σ H) (rt:∀v H,D.rt v H→D'.rt v H) (bk:∀σ H,D.bk σ H→D'.bk σ H) (ct:∀σ H,D.ct σ H→D'.ct σ H):wS X st D' σ H :=
 fun pins s I=>bP (h pins s I) fun _ _ q=>nH q nx rt bk ct
theorem fR {D D':Ends} (h:wSs X sts D σ H) (nx:∀σ H,D.nx σ H→D'.nx σ H) (rt:∀v H,D.rt v H→D'.rt v H) (bk:∀σ H,D.bk σ H→D'.bk σ H) (ct:∀σ H,D.ct σ H→D'.ct σ H):wSs X sts D' σ H :=
 fun pins s I=>bP (h pins s I) fun _ _ q=>nH q nx rt bk ct
end
def RV (X:Cx) (B:Base) (σ:St) (env:En) (F:Hp) (Q:D→Prop):VK:=fun v H'=>∃F' d,Rep X.K B F' H' σ env∧ar F F'∧Den X.K F' d v∧Q d
def RB (X:Cx) (B:Base) (σ:St) (env:En) (F:Hp) (Q:Bool→Prop):Bool→Hp→Prop:=fun b H'=>∃F',Rep X.K B F' H' σ env∧ar F F'∧Q b
def RA (X:Cx) (B:Base) (σ:St) (env:En) (F:Hp) (Q:List D→Prop):List V→Hp→Prop:=fun vs H'=>∃F' ds,Rep X.K B F' H' σ env∧ar F F'∧ao X.K F' ds vs∧Q ds
def RS (X:Cx) (B:Base) (D:Ends3):Ends where
 nx:=fun σ' H'=>∃F' env',Rep X.K B F' H' σ' env'∧D.nx env'
 rt:=fun v H'=>∃F' d,Rep X.K B F' H' [] []∧Den X.K F' d v∧D.rt d
 bk:=fun σ' H'=>∃F' env',Rep X.K B F' H' σ' env'∧D.bk env'
 ct:=fun σ' H'=>∃F' env',Rep X.K B F' H' σ' env'∧D.ct env'
structure QE (X:Cx) (e:Expr) (t:TD):Prop where
 of ::
 run:∀(B:Base) (σ:St) (F H:Hp) (env:En) (Q:D→Prop),Rep X.K B F H σ env→t env Q→wE X e σ H (RV X B σ env F Q)
instance {X:Cx} {e:Expr} {t:TD}:CoeFun (QE X e t) (fun _=>∀(B:Base) (σ:St) (F H:Hp) (env:En) (Q:D→Prop),Rep X.K B F H σ env→t env Q→wE X e σ H (RV X B σ env F Q)):=⟨QE.run⟩
structure QT (X:Cx) (e:Expr) (t:TB):Prop where
 of ::
 run:∀(B:Base) (σ:St) (F H:Hp) (env:En) (Q:Bool→Prop),Rep X.K B F H σ env→t env Q→wT X e σ H (RB X B σ env F Q)
instance {X:Cx} {e:Expr} {t:TB}:CoeFun (QT X e t) (fun _=>∀(B:Base) (σ:St) (F H:Hp) (env:En) (Q:Bool→Prop),Rep X.K B F H σ env→t env Q→wT X e σ H (RB X B σ env F Q)):=⟨QT.run⟩
structure QW (X:Cx) (e:Expr) (t:TB):Prop where
 of ::
 run:∀(B:Base) (σ:St) (F H:Hp) (env:En) (Q:Bool→Prop),Rep X.K B F H σ env→t env Q→wW X e σ H (RB X B σ env F Q)
instance {X:Cx} {e:Expr} {t:TB}:CoeFun (QW X e t) (fun _=>∀(B:Base) (σ:St) (F H:Hp) (env:En) (Q:Bool→Prop),Rep X.K B F H σ env→t env Q→wW X e σ H (RB X B σ env F Q)):=⟨QW.run⟩
structure QA (X:Cx) (es:List Expr) (t:eI):Prop where
 of ::
 run:∀(B:Base) (σ:St) (F H:Hp) (env:En) (Q:List D→Prop),Rep X.K B F H σ env→t env Q→wA X es σ H (RA X B σ env F Q)
instance {X:Cx} {es:List Expr} {t:eI}:CoeFun (QA X es t) (fun _=>∀(B:Base) (σ:St) (F H:Hp) (env:En) (Q:List D→Prop),Rep X.K B F H σ env→t env Q→wA X es σ H (RA X B σ env F Q)):=⟨QA.run⟩
structure QS (X:Cx) (st:Stmt) (t:bC):Prop where
 of ::
 run:∀(B:Base) (σ:St) (F H:Hp) (env:En) (D:Ends3),Rep X.K B F H σ env→t D env→wS X st (RS X B D) σ H
instance {X:Cx} {st:Stmt} {t:bC}:CoeFun (QS X st t) (fun _=>∀(B:Base) (σ:St) (F H:Hp) (env:En) (D:Ends3),Rep X.K B F H σ env→t D env→wS X st (RS X B D) σ H):=⟨QS.run⟩
structure mI (X:Cx) (st:List Stmt) (t:bC):Prop where
 of ::
 run:∀(B:Base) (σ:St) (F H:Hp) (env:En) (D:Ends3),Rep X.K B F H σ env→t D env→wSs X st (RS X B D) σ H
instance {X:Cx} {st:List Stmt} {t:bC}:CoeFun (mI X st t) (fun _=>∀(B:Base) (σ:St) (F H:Hp) (env:En) (D:Ends3),Rep X.K B F H σ env→t D env→wSs X st (RS X B D) σ H):=⟨mI.run⟩
section
variable {X:Cx} {a b c e:Expr} {es:List Expr} {ta tb tc:TD} {tA tB':TB} {ts:eI} {pos:Pos} {rest:List Expr}
def ag (i:Nat):TD:=fun env Q=>∃x,env[i]?=some (some (.d x))∧Q x
def cC (x:D):TD:=fun _ Q=>Q x
theorem qv (i:Nat) {x:Str} {pos:Pos} (hN:X.N[i]?=some x:=by rfl) (hv:xS X.env.scope x:=by first | exact Or.inl rfl | exact Or.inr (Or.inl rfl) | exact Or.inr (Or.inr rfl)) (hd:(x == ("__debug__" : Str))=false:=by decide)
  (hcd:(x == ("__classdict__" : Str))=false:=by decide):QE X (.Name x pos) (ag i):=by
 refine⟨?_⟩
 intro B σ F H env Q r ⟨x,hx,q⟩
 obtain⟨v,hv',hd'⟩:=r.dv i x hx
 exact bD (eF hN hv hd hcd) ⟨v,hv',F,x,r,ar.refl _,hd',q⟩
theorem qc {te:TE} {v:V} {x:D} (h:PE X e (tC v)) (hd:∀F,Den X.K F x v):QE X e (cC x):=⟨fun B σ F H env Q r q=>bD h ⟨F,x,r,ar.refl _,hd F,q⟩⟩
theorem au {i j pos}:QE X (.Constant (.int i) j pos) (cC (.int i)):=qc (te:=tC (.int i)) w4 fun _=>bf
theorem GP {b j pos}:QE X (.Constant (.bool b) j pos) (cC (.bl b)):=qc (te:=tC (.bl b)) Hh fun _=>dg
theorem wd {j pos}:QE X (.Constant .none j pos) (cC .non):=qc (te:=tC .non) FG fun _=>jx
theorem bE {x j pos}:QE X (.Constant (.str x) j pos) (cC (.str x)):=qc (te:=tC (.str x)) A4 fun _=>gb
theorem JK {x:Str} {n:String} {pos:Pos} (hg:Gl X x) (hm:X.mg x=none) (hv:bootBuiltins x=some (.type n)) (hn:x≠"__name__":=by decide) (hd:(x == ("__debug__" : Str))=false:=by decide):QE X (.Name x pos) (cC (.ty n)) :=
 qc (te:=tC (.ty n)) (Dd (v:=.ty n) hg hm hv rfl hn hd) fun _=>Gr
def Kont (X:Cx) (B:Base) (σ:St) (env:En) (F:Hp) (Q:D→Prop) (Z:VK):Prop:=∀(v:V) (H' F':Hp) (d:D),Rep X.K B F' H' σ env→ar F F'→Den X.K F' d v→Q d→Z v H'
def p8 (X:Cx) (r:R2) (f:D→D→(D→Prop)→Prop):Prop:=∀(B:Base) (σ:St) (F H:Hp) (env:En) (Q:D→Prop) (d d':D) (x y:V) (Z:VK),Rep X.K B F H σ env→Den X.K F d x→Den X.K F d' y→Kont X B σ env F Q Z→f d d' Q→r x y H Z
def aC (f:D→D→(D→Prop)→Prop) (ta tb:TD):TD:=fun env Q=>ta env fun x=>tb env fun y=>f x y Q
theorem RV.weaken {B:Base} {σ:St} {env:En} {F F':Hp} {Q:D→Prop} (s:ar F F') {v:V} {H:Hp} (h:RV X B σ env F' Q v H):RV X B σ env F Q v H:=by
 obtain⟨G,d,r,s',hd,q⟩:=h
 exact⟨G,d,r,s.trans s',hd,q⟩
theorem two {r:R2} {f:D→D→(D→Prop)→Prop} (hf:p8 X r f) (ha:QE X a ta) (hb:QE X b tb) {B:Base} {σ:St} {F H:Hp} {env:En} {Q:D→Prop} {Z:VK} (rp:Rep X.K B F H σ env) (hz:Kont X B σ env F Q Z) (h:aC f ta tb env Q) :
  GQ r (wE X a) (wE X b) σ H Z:=by
 refine aE (ha B σ F H env _ rp h) fun x H1 ⟨F1,d,r1,s1,d1,q1⟩=>?_
 refine aE (hb B σ F1 H1 env _ r1 q1) fun y H2 ⟨F2,d',r2,s2,d2,q2⟩=>?_
 exact hf B σ F2 H2 env Q d d' x y Z r2 (Den.mono s2 _ _ d1) d2 (fun v H' F' d' r' s'=>hz v H' F' d' r' ((s1.trans s2).trans s')) q2
theorem HF {B:Base} {σ:St} {env:En} {F:Hp} {Q:D→Prop}:Kont X B σ env F Q (RV X B σ env F Q):=fun v H' F' d r s hd q=>⟨F',d,r,s,hd,q⟩
theorem xq {op:Operator} {r:R2} {f:D→D→(D→Prop)→Prop} (ho:gT X (binaryOp op) r) (hf:p8 X r f) (ha:QE X a ta) (hb:QE X b tb):QE X (.BinOp a op b pos) (aC f ta tb) :=
 ⟨fun B σ F H env Q rp h=>bD (Ih ho bh bh) (two hf ha hb rp HF h)⟩
theorem Ay {op:CmpOp} {r:R2} {f:D→D→(D→Prop)→Prop} (ho:gT X (compareOp op) r) (hf:p8 X r f) (ha:QE X a ta) (hb:QE X b tb) (hm:behindInMarks op b=false):QE X (.Compare a [op] [b] pos) (aC f ta tb) :=
 ⟨fun B σ F H env Q rp h=>bD (DK ho bh bh hm) (two hf ha hb rp HF h)⟩
def aM (t:TD):TB:=fun env Q=>t env fun x=>∃k,x=.bl k∧Q k
theorem eh {K:PySem.W.Frag} {F:Hp} {k:Bool} {v:V} (h:Den K F (.bl k) v):v=.bl k:=by simpa only [Den] using h
theorem gE {op:CmpOp} {r:R2} {f:D→D→(D→Prop)→Prop} (ho:gT X (compareOp op) r) (hf:p8 X r f) (ha:QE X a ta) (hb:QE X b tb) (hm:behindInMarks op b=false):QT X (.Compare a [op] [b] pos) (aM (aC f ta tb)):=by
 refine⟨?_⟩
 intro B σ F H env Q rp h
 refine ud (tU ho bh bh hm) ?_
 show GQ r (wE X a) (wE X b) σ H fun x H'=>∃k,x=.bl k∧RB X B σ env F Q k H'
 refine two hf ha hb rp (fun v H' F' d r' s' hd q=>?_) h
 obtain⟨k,rfl,q⟩:=q
 exact⟨k,eh hd,F',r',s',q⟩
theorem lX {t:TD} (h:QE X e t) (he:∀whole,isTrue e X.env whole=(do let v ← whole;standAt e.pos;holding [v] (truthy v)):=by intro _;rfl):QT X e (aM t):=by
 refine⟨?_⟩
 intro B σ F H env Q rp hq
 refine ud (E8 bh he) ?_
 refine aE (h B σ F H env _ rp hq) fun v H' w=>?_
 obtain⟨F',d,r',s',hd,k,rfl,q⟩:=w
 exact⟨k,eh hd,F',r',s',q⟩
def pA (t u:TB):TB:=fun env Q=>t env fun k=>if k=true then u env Q else Q false
def AR (t u:TB):TB:=fun env Q=>t env fun k=>if k=true then Q true else u env Q
def xo (t:TB):TB:=fun env Q=>t env fun k=>Q (!k)
theorem QW.t (h:QW X e tA):QT X e tA:=⟨fun B σ F H env Q rp hq pins s I=>h B σ F H env Q rp hq _ pins s I⟩
theorem iu (ha:QT X a tA):QW X (.BoolOp .And [a] pos) tA:=⟨fun B σ F H env Q rp h=>yu (CP qi) (ha B σ F H env Q rp h)⟩
theorem lM (ha:QT X a tA):QW X (.BoolOp .Or [a] pos) tA:=⟨fun B σ F H env Q rp h=>yu (FN qi) (ha B σ F H env Q rp h)⟩
theorem j3 (ha:QT X a tA) (hb:QW X (.BoolOp .And (b :: rest) pos) tB'):QW X (.BoolOp .And (a :: b :: rest) pos) (pA tA tB'):=by
 refine⟨?_⟩
 intro B σ F H env Q rp h
 refine yu (Fq qi HQ) ?_
 refine gk (ha B σ F H env _ rp h) fun k H1 ⟨F1,r1,s1,q1⟩=>?_
 cases k with
 | true=>exact yw (hb B σ F1 H1 env Q r1 q1) fun k2 H2 ⟨F2,r2,s2,q2⟩=>⟨F2,r2,s1.trans s2,q2⟩
 | false=>exact⟨F1,r1,s1,q1⟩
theorem o3 (ha:QT X a tA) (hb:QW X (.BoolOp .Or (b :: rest) pos) tB'):QW X (.BoolOp .Or (a :: b :: rest) pos) (AR tA tB'):=by
 refine⟨?_⟩
 intro B σ F H env Q rp h
 refine yu (HR qi HQ) ?_
 refine gk (ha B σ F H env _ rp h) fun k H1 ⟨F1,r1,s1,q1⟩=>?_
 cases k with
 | false=>exact yw (hb B σ F1 H1 env Q r1 q1) fun k2 H2 ⟨F2,r2,s2,q2⟩=>⟨F2,r2,s1.trans s2,q2⟩
 | true=>exact⟨F1,r1,s1,q1⟩
theorem xW (ha:QT X a tA):QT X (.UnaryOp .Not a pos) (xo tA):=⟨fun B σ F H env Q rp h=>ud (Fu qi) (gk (ha B σ F H env _ rp h) fun k H1 q=>q)⟩
def oF (t u:TD):TD:=fun env Q=>t env fun x=>∃k,x=.bl k∧if k=true then u env Q else Q (.bl false)
def A9 (t u:TD):TD:=fun env Q=>t env fun x=>∃k,x=.bl k∧if k=true then Q (.bl true) else u env Q
def rg (t:TD):TD:=fun env Q=>t env fun x=>∃k,x=.bl k∧Q (.bl (!k))
theorem w8 {op} (h:QE X a ta):QE X (.BoolOp op [a] pos) ta:=⟨fun B σ F H env Q rp q=>bD (Fv bh) (h B σ F H env Q rp q)⟩
theorem Bb (ha:QE X a ta) (hb:QE X (.BoolOp .And (b :: rest) pos) tb):QE X (.BoolOp .And (a :: b :: rest) pos) (oF ta tb):=by
 refine⟨?_⟩
 intro B σ F H env Q rp h
 refine bD (Ey bh bh) ?_
 refine aE (ha B σ F H env _ rp h) fun v H1 ⟨F1,d,r1,s1,d1,k,hk,q1⟩=>?_
 subst hk
 refine⟨k,eh d1,?_⟩
 cases k with
 | true=>exact aE (hb B σ F1 H1 env Q r1 q1) fun v H2 z=>z.weaken s1
 | false=>exact⟨F1,_,r1,s1,dg,q1⟩
theorem Hn (ha:QE X a ta) (hb:QE X (.BoolOp .Or (b :: rest) pos) tb):QE X (.BoolOp .Or (a :: b :: rest) pos) (A9 ta tb):=by
 refine⟨?_⟩
 intro B σ F H env Q rp h
 refine bD (Hv bh bh) ?_
 refine aE (ha B σ F H env _ rp h) fun v H1 ⟨F1,d,r1,s1,d1,k,hk,q1⟩=>?_
 subst hk
 refine⟨k,eh d1,?_⟩
 cases k with
 | false=>exact aE (hb B σ F1 H1 env Q r1 q1) fun v H2 z=>z.weaken s1
 | true=>exact⟨F1,_,r1,s1,dg,q1⟩
theorem Gz (ha:QE X a ta):QE X (.UnaryOp .Not a pos) (rg ta):=by
 refine⟨?_⟩
 intro B σ F H env Q rp h
 refine bD (Gm bh) ?_
 refine aE (ha B σ F H env _ rp h) fun v H1 ⟨F1,d,r1,s1,d1,k,hk,q1⟩=>?_
 subst hk
 exact⟨k,eh d1,F1,_,r1,s1,dg,q1⟩
def Hy (t:TB) (ta tb:TD):TD:=fun env Q=>t env fun k=>if k=true then ta env Q else tb env Q
theorem Hs (hc:QT X c tA) (ha:QE X a ta) (hb:QE X b tb):QE X (.IfExp c a b pos) (Hy tA ta tb):=by
 refine⟨?_⟩
 intro B σ F H env Q rp h
 refine bD (BE qi bh bh) ?_
 refine gk (hc B σ F H env _ rp h) fun k H1 ⟨F1,r1,s1,q1⟩=>?_
 cases k with
 | true=>exact aE (ha B σ F1 H1 env Q r1 q1) fun v H2 z=>z.weaken s1
 | false=>exact aE (hb B σ F1 H1 env Q r1 q1) fun v H2 z=>z.weaken s1
def av:eI:=fun _ Q=>Q []
def af (ta:TD) (tr:eI):eI:=fun env Q=>ta env fun x=>tr env fun xs=>Q (x :: xs)
theorem ah:QA X [] av:=⟨fun B σ F H env Q rp h=>Ew gH ⟨F,[],rp,ar.refl _,a7,h⟩⟩
theorem ae (ha:QE X e ta) (hr:QA X es ts) (hs:starEach (e :: es) X.env=(false,eval e X.env) :: starEach es X.env:=by exact aR rfl):QA X (e :: es) (af ta ts):=by
 refine⟨?_⟩
 intro B σ F H env Q rp h
 refine Ew (dQ bh js hs) ?_
 refine aE (ha B σ F H env _ rp h) fun x H1 ⟨F1,d,r1,s1,d1,q1⟩=>?_
 exact cg (hr B σ F1 H1 env _ r1 q1) fun xs H2 ⟨F2,ds,r2,s2,d2,q2⟩=>⟨F2,d :: ds,r2,s1.trans s2,aW (Den.mono s2 _ _ d1) d2,q2⟩
def bT (t:eI):TD:=fun env Q=>t env fun xs=>xs.length≤sizeLine∧Q (.tup xs)
def gA (t:eI):TD:=fun env Q=>t env fun xs=>xs.length≤sizeLine∧Q (.lst xs)
theorem RV.ET {B:Base} {σ:St} {env:En} {F H:Hp} {Q:D→Prop} {ds:List D} {vs:List V} (r:Rep X.K B F H σ env) (hd:ao X.K F ds vs) (q:Q (.tup ds)):∀p,H p=none→RV X B σ env F Q (.ref p) (upd H p (.tup vs)):=fun p hp=>by
 obtain⟨r2,s2⟩:=r.laid (o:=.tup vs) hp
 exact⟨_,_,r2,s2,gh (iy.of aI) (ao.mono s2 _ _ hd),q⟩
theorem RV.BC {B:Base} {σ:St} {env:En} {F H:Hp} {Q:D→Prop} {ds:List D} {vs:List V} (r:Rep X.K B F H σ env) (hd:ao X.K F ds vs) (q:Q (.lst ds)):∀p,H p=none→RV X B σ env F Q (.ref p) (upd H p (.lst vs)):=fun p hp=>by
 obtain⟨r2,s2⟩:=r.laid (o:=.lst vs) hp
 exact⟨_,_,r2,s2,h9 (fz.of aI) (ao.mono s2 _ _ hd),q⟩
theorem aT {x1} (h:QA X es ts):QE X (.Tuple es x1 pos) (bT ts):=by
 refine⟨?_⟩
 intro B σ F H env Q rp hq
 refine bD (Fm js) ?_
 refine cg (h B σ F H env _ rp hq) fun vs H1 ⟨F1,ds,r1,s1,d1,z,q1⟩=>⟨by rw [← d1.length];exact z,fun p hp=>(RV.ET r1 d1 q1 p hp).weaken s1⟩
theorem dR (h:QA X es ts):QE X (.List es pos) (gA ts):=by
 refine⟨?_⟩
 intro B σ F H env Q rp hq
 refine bD (wj js) ?_
 refine cg (h B σ F H env _ rp hq) fun vs H1 ⟨F1,ds,r1,s1,d1,z,q1⟩=>⟨by rw [← d1.length];exact z,fun p hp=>(RV.BC r1 d1 q1 p hp).weaken s1⟩
end
end L2.L3
namespace L2.L3
open PySem PySem.Spec PyProof.Rows
mutual
def ba:D→D→Bool
 | .non,.non=>true
 | .bl a,.bl b=>a == b
 | .bl a,.int b=>(if a then 1 else 0) == b
 | .int a,.bl b=>a == (if b then 1 else 0)
 | .int a,.int b=>a == b
 | .str a,.str b=>a == b
 | .tup a,.tup b=>fB a b
 | .lst a,.lst b=>fB a b
 | _,_=>false
def fB:List D→List D→Bool
 | [],[]=>true
 | a :: as,b :: bs=>ba a b && fB as bs
 | _,_=>false
end
mutual
def dep:D→Nat
 | .tup ds=>cy ds + 1
 | .lst ds=>cy ds + 1
 | .dct _ _=>1000
 | .obj _=>1000
 | .ty _=>1000
 | .exc _=>1000
 | .cls _=>1000
 | _=>0
def cy:List D→Nat
 | []=>0
 | d :: ds=>max (dep d) (cy ds)
end
def vP (ds es:List D) (j:Nat):Bool:=match ds[j]?,es[j]? with
 | some a,some b=>ba a b
 | _,_=>true
theorem pN (n:Nat) (e:Nat→Bool):(List.range (n + 1)).all e=(e 0 && (List.range n).all fun i=>e (i + 1)):=by
 rw [List.range_succ_eq_map,List.all_cons,List.all_map];rfl
theorem sR:∀ds es:List D,((List.range (min ds.length es.length)).all (vP ds es) && (ds.length == es.length))=fB ds es
 | [],[]=>by simp [fB]
 | [],b :: es=>by simp [fB]
 | a :: ds,[]=>by simp [fB]
 | a :: ds,b :: es=>by
  have ih:=sR ds es
  rw [List.length_cons,List.length_cons,Nat.succ_min_succ,pN]
  have e1:vP (a :: ds) (b :: es) 0=ba a b:=by simp [vP]
  have e2:(fun i=>vP (a :: ds) (b :: es) (i + 1))=vP ds es:=by funext i;simp [vP]
  have e3:(ds.length + 1 == es.length + 1)=(ds.length == es.length):=by
   rw [Bool.eq_iff_iff];simp
  rw [e1,e2,e3,Bool.and_assoc,ih,fB]
section
variable {X:Cx} {pins:List (Addr×Obj)} {σ:St} {H F:Hp} {s:Shared}
theorem Inv.uo (I:Inv X pins σ H s) {a:Addr} {xs ys:List V} (h:iy X.K H a xs) (h':fz X.K H a ys):False:=by
 obtain⟨_,_,⟨o,e1,c1,_⟩,_⟩:=I.tuple h
 obtain⟨_,_,⟨o2,_,e2,c2,_⟩,_⟩:=I.list h'
 rw [e1] at e2;cases e2;rw [c1] at c2;injection c2 with z;exact absurd z (by decide)
mutual
theorem nL (I:Inv X pins σ H s) (fh:ar F H):∀(d d':D) (v:V),dep d < 1000→dep d' < 1000→Den X.K F d v→Den X.K F d' v→ba d d'=true
 | .non,d',v,h1,h2,e1,e2=>by
  simp only [Den] at e1;subst e1
  cases d' <;> simp only [Den] at e2 <;> first | rfl | (obtain⟨a,vs,z,_⟩:=e2;cases z;done) | (obtain⟨a,z,_⟩:=e2;cases z;done) | cases e2
 | .bl b,d',v,h1,h2,e1,e2=>by
  simp only [Den] at e1;subst e1
  cases d' <;> simp only [Den] at e2 <;> first | (obtain⟨a,vs,z,_⟩:=e2;cases z;done) | (obtain⟨a,z,_⟩:=e2;cases z;done) | (cases e2;simp [ba];done) | cases e2
 | .int b,d',v,h1,h2,e1,e2=>by
  simp only [Den] at e1;subst e1
  cases d' <;> simp only [Den] at e2 <;> first | (obtain⟨a,vs,z,_⟩:=e2;cases z;done) | (obtain⟨a,z,_⟩:=e2;cases z;done) | (cases e2;simp [ba];done) | cases e2
 | .str b,d',v,h1,h2,e1,e2=>by
  simp only [Den] at e1;subst e1
  cases d' <;> simp only [Den] at e2 <;> first | (obtain⟨a,vs,z,_⟩:=e2;cases z;done) | (obtain⟨a,z,_⟩:=e2;cases z;done) | (cases e2;simp [ba];done) | cases e2
 | .ty b,d',v,h1,h2,e1,e2=>by simp [dep] at h1
 | .exc b,d',v,h1,h2,e1,e2=>by simp [dep] at h1
 | .cls b,d',v,h1,h2,e1,e2=>by simp [dep] at h1
 | .dct _ _,d',v,h1,h2,e1,e2=>by simp [dep] at h1
 | .obj _,d',v,h1,h2,e1,e2=>by simp [dep] at h1
 | .tup ds,d',v,h1,h2,e1,e2=>by
  simp only [Den] at e1
  obtain⟨a,vs,rfl,q,r⟩:=e1
  cases d' with
  | tup es =>
   simp only [Den] at e2
   obtain⟨a',us,z,q',r'⟩:=e2
   cases z
   have:=I.md (ar.b8 fh q) (ar.b8 fh q')
   subst this
   simp only [ba]
   exact oQ I fh ds es vs (by simp [dep] at h1;omega) (by simp [dep] at h2;omega) r r'
  | lst es =>
   simp only [Den] at e2
   obtain⟨a',us,z,q',r'⟩:=e2
   cases z
   exact (Inv.uo I (ar.b8 fh q) (fh.seq q')).elim
  | dct _ _=>simp [dep] at h2
  | obj _=>simp [dep] at h2
  | exc _=>simp [dep] at h2
  | cls _=>simp [dep] at h2
  | _=>simp only [Den] at e2;cases e2
 | .lst ds,d',v,h1,h2,e1,e2=>by
  simp only [Den] at e1
  obtain⟨a,vs,rfl,q,r⟩:=e1
  cases d' with
  | lst es =>
   simp only [Den] at e2
   obtain⟨a',us,z,q',r'⟩:=e2
   cases z
   have:=I.oG (fh.seq q) (fh.seq q')
   subst this
   simp only [ba]
   exact oQ I fh ds es vs (by simp [dep] at h1;omega) (by simp [dep] at h2;omega) r r'
  | tup es =>
   simp only [Den] at e2
   obtain⟨a',us,z,q',r'⟩:=e2
   cases z
   exact (Inv.uo I (ar.b8 fh q') (fh.seq q)).elim
  | dct _ _=>simp [dep] at h2
  | obj _=>simp [dep] at h2
  | exc _=>simp [dep] at h2
  | cls _=>simp [dep] at h2
  | _=>simp only [Den] at e2;cases e2
theorem oQ (I:Inv X pins σ H s) (fh:ar F H):∀(ds es:List D) (vs:List V),cy ds < 1000→cy es < 1000→ao X.K F ds vs→ao X.K F es vs→fB ds es=true
 | [],es,vs,h1,h2,e1,e2=>by
  simp only [ao] at e1;subst e1
  cases es with
  | nil=>rfl
  | cons _ _=>simp only [ao] at e2;obtain⟨_,_,z,_⟩:=e2;cases z
 | d :: ds,es,vs,h1,h2,e1,e2=>by
  simp only [ao] at e1
  obtain⟨v,r,rfl,a,b⟩:=e1
  cases es with
  | nil=>simp only [ao] at e2;cases e2
  | cons e es =>
   simp only [ao] at e2
   obtain⟨v',r',z,a',b'⟩:=e2
   cases z
   simp only [cy] at h1 h2
   simp only [fB,Bool.and_eq_true]
   exact⟨nL I fh d e v (by omega) (by omega) a a',oQ I fh ds es r (by omega) (by omega) b b'⟩
end
theorem units_in1 (A:Around):A.in1.units=A.units + 1:=rfl
def Hl:D→Bool
 | .non=>true
 | .bl _=>true
 | .int _=>true
 | .str _=>true
 | _=>false
theorem tP (I:Inv X pins σ H s) (fh:ar F H):∀(d d':D) (A:Around) (x y:V) (u v:Value),Hl d=true→A.units + dep d < cLine→dep d' < 1000→Den X.K F d x→Den X.K F d' y→RelV x u→RelV y v →
  SeqAt.RcAt A s u v (ba d d')∧SeqAt.RcNeAt A s u v (!ba d d')
 | .non,d',A,x,y,u,v,lf,hu,h2,e1,e2,r1,r2=>by
  simp only [Den] at e1;subst e1;cases r1
  have hu0:A.units < cLine:=by omega
  cases d' with
  | ty _=>simp [dep] at h2
  | dct _ _=>simp [dep] at h2
  | obj _=>simp [dep] at h2
  | exc _=>simp [dep] at h2
  | cls _=>simp [dep] at h2
  | non=>simp only [Den] at e2;subst e2;cases r2;exact⟨SeqAt.RcAt.none_none,SeqAt.RcNeAt.none_none⟩
  | bl b=>simp only [Den] at e2;subst e2;cases r2;exact⟨SeqAt.RcAt.none_bool b,SeqAt.RcNeAt.none_bool b⟩
  | int b=>simp only [Den] at e2;subst e2;obtain⟨t,rfl⟩:=r2;exact⟨SeqAt.RcAt.none_int b t,SeqAt.RcNeAt.none_int b t⟩
  | str b=>simp only [Den] at e2;subst e2;obtain⟨t,rfl⟩:=r2;exact⟨SeqAt.RcAt.none_str b t,SeqAt.RcNeAt.none_str b t⟩
  | tup es =>
   simp only [Den] at e2;obtain⟨a,vs,rfl,q,r⟩:=e2;cases r2
   obtain⟨its,rv,ht,hz⟩:=I.tuple (ar.b8 fh q)
   exact⟨SeqAt.RcAt.none_tuple ht hu0,SeqAt.RcNeAt.none_tuple ht hu0⟩
  | lst es =>
   simp only [Den] at e2;obtain⟨a,vs,rfl,q,r⟩:=e2;cases r2
   obtain⟨its,rv,ht,hz⟩:=I.list (fh.seq q)
   exact⟨SeqAt.RcAt.none_list ht.isList hu0,SeqAt.RcNeAt.none_list ht.isList hu0⟩
 | .bl b',d',A,x,y,u,v,lf,hu,h2,e1,e2,r1,r2=>by
  simp only [Den] at e1;subst e1;cases r1
  have hu0:A.units < cLine:=by omega
  cases d' with
  | ty _=>simp [dep] at h2
  | dct _ _=>simp [dep] at h2
  | obj _=>simp [dep] at h2
  | exc _=>simp [dep] at h2
  | cls _=>simp [dep] at h2
  | non=>simp only [Den] at e2;subst e2;cases r2;exact⟨SeqAt.RcAt.bool_none b',SeqAt.RcNeAt.bool_none b'⟩
  | bl b=>simp only [Den] at e2;subst e2;cases r2;exact⟨by simpa only [ba] using SeqAt.RcAt.bool_bool b' b,by simpa only [ba] using SeqAt.RcNeAt.bool_bool b' b⟩
  | int b=>simp only [Den] at e2;subst e2;obtain⟨t,rfl⟩:=r2;exact⟨by simpa only [ba] using SeqAt.RcAt.bool_int b' b t,by simpa only [ba] using SeqAt.RcNeAt.bool_int b' b t⟩
  | str b=>simp only [Den] at e2;subst e2;obtain⟨t,rfl⟩:=r2;exact⟨SeqAt.RcAt.bool_str b' b t,SeqAt.RcNeAt.bool_str b' b t⟩
  | tup es =>
   simp only [Den] at e2;obtain⟨a,vs,rfl,q,r⟩:=e2;cases r2
   obtain⟨its,rv,ht,hz⟩:=I.tuple (ar.b8 fh q)
   exact⟨SeqAt.RcAt.bool_tuple b' ht hu0,SeqAt.RcNeAt.bool_tuple b' ht hu0⟩
  | lst es =>
   simp only [Den] at e2;obtain⟨a,vs,rfl,q,r⟩:=e2;cases r2
   obtain⟨its,rv,ht,hz⟩:=I.list (fh.seq q)
   exact⟨SeqAt.RcAt.bool_list b' ht.isList hu0,SeqAt.RcNeAt.bool_list b' ht.isList hu0⟩
 | .int b',d',A,x,y,u,v,lf,hu,h2,e1,e2,r1,r2=>by
  simp only [Den] at e1;subst e1;obtain⟨t',rfl⟩:=r1
  have hu0:A.units < cLine:=by omega
  cases d' with
  | ty _=>simp [dep] at h2
  | dct _ _=>simp [dep] at h2
  | obj _=>simp [dep] at h2
  | exc _=>simp [dep] at h2
  | cls _=>simp [dep] at h2
  | non=>simp only [Den] at e2;subst e2;cases r2;exact⟨SeqAt.RcAt.int_none b' t',SeqAt.RcNeAt.int_none b' t'⟩
  | bl b=>simp only [Den] at e2;subst e2;cases r2;exact⟨by simpa only [ba] using SeqAt.RcAt.int_bool b' t' b,by simpa only [ba] using SeqAt.RcNeAt.int_bool b' t' b⟩
  | int b=>simp only [Den] at e2;subst e2;obtain⟨t,rfl⟩:=r2;exact⟨by simpa only [ba] using SeqAt.RcAt.int_int b' t' b t,by simpa only [ba] using SeqAt.RcNeAt.int_int b' t' b t⟩
  | str b=>simp only [Den] at e2;subst e2;obtain⟨t,rfl⟩:=r2;exact⟨SeqAt.RcAt.int_str b' t' b t,SeqAt.RcNeAt.int_str b' t' b t⟩
  | tup es =>
   simp only [Den] at e2;obtain⟨a,vs,rfl,q,r⟩:=e2;cases r2
   obtain⟨its,rv,ht,hz⟩:=I.tuple (ar.b8 fh q)
   exact⟨SeqAt.RcAt.int_tuple b' t' ht hu0,SeqAt.RcNeAt.int_tuple b' t' ht hu0⟩
  | lst es =>
   simp only [Den] at e2;obtain⟨a,vs,rfl,q,r⟩:=e2;cases r2
   obtain⟨its,rv,ht,hz⟩:=I.list (fh.seq q)
   exact⟨SeqAt.RcAt.int_list b' t' ht.isList hu0,SeqAt.RcNeAt.int_list b' t' ht.isList hu0⟩
 | .str b',d',A,x,y,u,v,lf,hu,h2,e1,e2,r1,r2=>by
  simp only [Den] at e1;subst e1;obtain⟨t',rfl⟩:=r1
  have hu0:A.units < cLine:=by omega
  cases d' with
  | ty _=>simp [dep] at h2
  | dct _ _=>simp [dep] at h2
  | obj _=>simp [dep] at h2
  | exc _=>simp [dep] at h2
  | cls _=>simp [dep] at h2
  | non=>simp only [Den] at e2;subst e2;cases r2;exact⟨SeqAt.RcAt.str_none b' t',SeqAt.RcNeAt.str_none b' t'⟩
  | bl b=>simp only [Den] at e2;subst e2;cases r2;exact⟨SeqAt.RcAt.str_bool b' t' b,SeqAt.RcNeAt.str_bool b' t' b⟩
  | int b=>simp only [Den] at e2;subst e2;obtain⟨t,rfl⟩:=r2;exact⟨SeqAt.RcAt.str_int b' t' b t,SeqAt.RcNeAt.str_int b' t' b t⟩
  | str b=>simp only [Den] at e2;subst e2;obtain⟨t,rfl⟩:=r2;exact⟨by simpa only [ba] using SeqAt.RcAt.str_str b' t' b t,by simpa only [ba] using SeqAt.RcNeAt.str_str b' t' b t⟩
  | tup es =>
   simp only [Den] at e2;obtain⟨a,vs,rfl,q,r⟩:=e2;cases r2
   obtain⟨its,rv,ht,hz⟩:=I.tuple (ar.b8 fh q)
   exact⟨SeqAt.RcAt.str_tuple b' t' ht hu0,SeqAt.RcNeAt.str_tuple b' t' ht hu0⟩
  | lst es =>
   simp only [Den] at e2;obtain⟨a,vs,rfl,q,r⟩:=e2;cases r2
   obtain⟨its,rv,ht,hz⟩:=I.list (fh.seq q)
   exact⟨SeqAt.RcAt.str_list b' t' ht.isList hu0,SeqAt.RcNeAt.str_list b' t' ht.isList hu0⟩
 | .ty _,d',A,x,y,u,v,lf,hu,h2,e1,e2,r1,r2=>(by cases lf)
 | .exc _,d',A,x,y,u,v,lf,hu,h2,e1,e2,r1,r2=>(by cases lf)
 | .cls _,d',A,x,y,u,v,lf,hu,h2,e1,e2,r1,r2=>(by cases lf)
 | .dct _ _,d',A,x,y,u,v,lf,hu,h2,e1,e2,r1,r2=>(by cases lf)
 | .obj _,d',A,x,y,u,v,lf,hu,h2,e1,e2,r1,r2=>(by cases lf)
 | .tup _,d',A,x,y,u,v,lf,hu,h2,e1,e2,r1,r2=>(by cases lf)
 | .lst _,d',A,x,y,u,v,lf,hu,h2,e1,e2,r1,r2=>(by cases lf)
theorem ye (I:Inv X pins σ H s) (fh:ar F H) (d d':D) (A:Around) (x y:V) (u v:Value) (hu:A.units + dep d < cLine) (h1:dep d < 1000) (h2:dep d' < 1000) (e1:Den X.K F d x) (e2:Den X.K F d' y) (r1:RelV x u) (r2:RelV y v) (k:SeqAt.RcAt A s u v (ba d d')) :
  SeqAt.EqAt A s u v (ba d d'):=by
 have hu0:A.units < cLine:=by omega
 by_cases z:u=v
 ·subst z
  have:x=y:=r1.inj r2
  subst this
  rw [nL I fh d d' x h1 h2 e1 e2]
  exact SeqAt.EqAt.same u
 ·intro prog w E Q hq
  unfold eqBool
  refine wpAny_holding ?_
  refine wpAny_ite_split (fun hab=>absurd (eq_of_beq hab) z) (fun _=>?_)
  have nf:∀b t,u≠.float b t:=fun b t w=>by
   subst w
   cases x <;> first | (obtain⟨_,q⟩:=r1;cases q;done) | (cases r1;done) | skip
   cases d <;> simp only [Den] at e1 <;> first | (cases e1;done) | (obtain⟨_,_,z,_⟩:=e1;cases z;done) | (obtain⟨_,z,_⟩:=e1;cases z;done)
  cases u <;> cases v <;> first | exact absurd rfl (nf _ _) | exact wpAny_bind (k prog w E _ (wpAny_truthy_bool hq))
theorem DS (I:Inv X pins σ H s) (fh:ar F H) (ds0:List D) (d d':D) (A:Around) (x y:V) (u v:Value) (hl:d=.tup ds0∨d=.lst ds0) (hu:A.units + dep d < cLine) (h1:dep d < 1000) (h2:dep d' < 1000) (e1:Den X.K F d x) (e2:Den X.K F d' y) (r1:RelV x u) (r2:RelV y v)
  (rec:∀(es:List D),(d'=.tup es∨d'=.lst es)→∀(vs1 vs:List V) (its1 its:List Value),ao X.K F ds0 vs1→ao X.K F es vs→Vals vs1 its1→Vals vs its→∀(j:Nat) (h1:j < its1.length) (h2:j < its.length),SeqAt.EqAt A.in1 s its1[j] its[j] (vP ds0 es j)) :
  SeqAt.RcAt A s u v (ba d d')∧SeqAt.RcNeAt A s u v (!ba d d'):=by
 cases d with
 | non=>rcases hl with hl | hl <;> cases hl
 | bl _=>rcases hl with hl | hl <;> cases hl
 | int _=>rcases hl with hl | hl <;> cases hl
 | str _=>rcases hl with hl | hl <;> cases hl
 | ty _=>simp [dep] at h1
 | exc _=>simp [dep] at h1
 | cls _=>simp [dep] at h1
 | dct _ _=>simp [dep] at h1
 | obj _=>simp [dep] at h1
 | tup ds =>
  have z:ds=ds0:=by rcases hl with hl | hl <;> cases hl <;> rfl
  subst z
  simp only [Den] at e1;obtain⟨a1,vs1,rfl,q1,g1⟩:=e1;cases r1
  obtain⟨its1,rv1,ht1,hz1⟩:=I.tuple (ar.b8 fh q1)
  simp only [dep] at hu h1
  have hu0:A.units < cLine:=by omega
  cases d' with
  | ty _=>simp [dep] at h2
  | dct _ _=>simp [dep] at h2
  | obj _=>simp [dep] at h2
  | exc _=>simp [dep] at h2
  | cls _=>simp [dep] at h2
  | non=>simp only [Den] at e2;subst e2;cases r2;exact⟨SeqAt.RcAt.tuple_none ht1 hu0,SeqAt.RcNeAt.tuple_none ht1 hu0⟩
  | bl b=>simp only [Den] at e2;subst e2;cases r2;exact⟨SeqAt.RcAt.tuple_bool b ht1 hu0,SeqAt.RcNeAt.tuple_bool b ht1 hu0⟩
  | int b=>simp only [Den] at e2;subst e2;obtain⟨t,rfl⟩:=r2;exact⟨SeqAt.RcAt.tuple_int b t ht1 hu0,SeqAt.RcNeAt.tuple_int b t ht1 hu0⟩
  | str b=>simp only [Den] at e2;subst e2;obtain⟨t,rfl⟩:=r2;exact⟨SeqAt.RcAt.tuple_str b t ht1 hu0,SeqAt.RcNeAt.tuple_str b t ht1 hu0⟩
  | lst es =>
   simp only [Den] at e2;obtain⟨a,vs,rfl,q,r⟩:=e2;cases r2
   obtain⟨its,rv,ht,hz⟩:=I.list (fh.seq q)
   exact⟨SeqAt.RcAt.tuple_list ht1 ht.isList hu0,SeqAt.RcNeAt.tuple_list ht1 ht.isList hu0⟩
  | tup es =>
   simp only [Den] at e2;obtain⟨a,vs,rfl,q,r⟩:=e2;cases r2
   obtain⟨its,rv,ht,hz⟩:=I.tuple (ar.b8 fh q)
   simp only [dep] at h2
   have he:=rec es (.inl rfl) vs1 vs its1 its g1 r rv1 rv
   have l1:its1.length=ds.length:=by rw [g1.length,rv1.length]
   have l2:its.length=es.length:=by rw [r.length,rv.length]
   have k1:=SeqAt.RcAt.tuples (e:=vP ds es) ht1 ht hu0 (fun j h1 h2=>he j (by simpa using h1) (by simpa using h2))
   have k2:=SeqAt.RcNeAt.tuples (e:=vP ds es) ht1 ht hu0 (fun j h1 h2=>he j (by simpa using h1) (by simpa using h2))
   rw [List.size_toArray,List.size_toArray,l1,l2,sR] at k1 k2
   exact⟨by simpa only [ba] using k1,by simpa only [ba] using k2⟩
 | lst ds =>
  have z:ds=ds0:=by rcases hl with hl | hl <;> cases hl <;> rfl
  subst z
  simp only [Den] at e1;obtain⟨a1,vs1,rfl,q1,g1⟩:=e1;cases r1
  obtain⟨its1,rv1,ht1,hz1⟩:=I.list (fh.seq q1)
  simp only [dep] at hu h1
  have hu0:A.units < cLine:=by omega
  cases d' with
  | ty _=>simp [dep] at h2
  | dct _ _=>simp [dep] at h2
  | obj _=>simp [dep] at h2
  | exc _=>simp [dep] at h2
  | cls _=>simp [dep] at h2
  | non=>simp only [Den] at e2;subst e2;cases r2;exact⟨SeqAt.RcAt.list_none ht1.isList hu0,SeqAt.RcNeAt.list_none ht1.isList hu0⟩
  | bl b=>simp only [Den] at e2;subst e2;cases r2;exact⟨SeqAt.RcAt.list_bool b ht1.isList hu0,SeqAt.RcNeAt.list_bool b ht1.isList hu0⟩
  | int b=>simp only [Den] at e2;subst e2;obtain⟨t,rfl⟩:=r2;exact⟨SeqAt.RcAt.list_int b t ht1.isList hu0,SeqAt.RcNeAt.list_int b t ht1.isList hu0⟩
  | str b=>simp only [Den] at e2;subst e2;obtain⟨t,rfl⟩:=r2;exact⟨SeqAt.RcAt.list_str b t ht1.isList hu0,SeqAt.RcNeAt.list_str b t ht1.isList hu0⟩
  | tup es =>
   simp only [Den] at e2;obtain⟨a,vs,rfl,q,r⟩:=e2;cases r2
   obtain⟨its,rv,ht,hz⟩:=I.tuple (ar.b8 fh q)
   exact⟨SeqAt.RcAt.list_tuple ht1.isList ht hu0,SeqAt.RcNeAt.list_tuple ht1.isList ht hu0⟩
  | lst es =>
   simp only [Den] at e2;obtain⟨a,vs,rfl,q,r⟩:=e2;cases r2
   obtain⟨its,rv,ht,hz⟩:=I.list (fh.seq q)
   simp only [dep] at h2
   have he:=rec es (.inr rfl) vs1 vs its1 its g1 r rv1 rv
   have l1:its1.length=ds.length:=by rw [g1.length,rv1.length]
   have l2:its.length=es.length:=by rw [r.length,rv.length]
   simp only [ba]
   rw [← sR]
   by_cases hsz:ds.length=es.length
   ·have k1:=SeqAt.RcAt.lists (e:=vP ds es) ht1.isList ht.isList (by simp [l1,l2,hsz]) hu0 (fun j h1 h2=>he j (by simpa using h1) (by simpa using h2))
    have k2:=SeqAt.RcNeAt.lists (e:=vP ds es) ht1.isList ht.isList (by simp [l1,l2,hsz]) hu0 (fun j h1 h2=>he j (by simpa using h1) (by simpa using h2))
    rw [List.size_toArray,l1] at k1 k2
    have e:(ds.length == es.length)=true:=by simp [hsz]
    rw [e,Bool.and_true,← hsz,Nat.min_self]
    exact⟨k1,k2⟩
   ·have e:(ds.length == es.length)=false:=by simp [hsz]
    rw [e,Bool.and_false]
    have e2:(its1.toArray.size != its.toArray.size)=true:=by simp [l1,l2,hsz]
    exact⟨SeqAt.RcAt.lists_lengths ht1.isList ht.isList e2 hu0,SeqAt.RcNeAt.lists_lengths ht1.isList ht.isList e2 hu0⟩
mutual
theorem Cr (I:Inv X pins σ H s) (fh:ar F H):∀(d d':D) (A:Around) (x y:V) (u v:Value),A.units + dep d < cLine→dep d < 1000→dep d' < 1000→Den X.K F d x→Den X.K F d' y→RelV x u→RelV y v →
  SeqAt.RcAt A s u v (ba d d')∧SeqAt.RcNeAt A s u v (!ba d d')
 | .ty _,d',A,x,y,u,v,hu,h1,h2,e1,e2,r1,r2=>by simp [dep] at h1
 | .exc _,d',A,x,y,u,v,hu,h1,h2,e1,e2,r1,r2=>by simp [dep] at h1
 | .cls _,d',A,x,y,u,v,hu,h1,h2,e1,e2,r1,r2=>by simp [dep] at h1
 | .dct _ _,d',A,x,y,u,v,hu,h1,h2,e1,e2,r1,r2=>by simp [dep] at h1
 | .obj _,d',A,x,y,u,v,hu,h1,h2,e1,e2,r1,r2=>by simp [dep] at h1
 | .non,d',A,x,y,u,v,hu,h1,h2,e1,e2,r1,r2=>tP I fh _ d' A x y u v rfl hu h2 e1 e2 r1 r2
 | .bl _,d',A,x,y,u,v,hu,h1,h2,e1,e2,r1,r2=>tP I fh _ d' A x y u v rfl hu h2 e1 e2 r1 r2
 | .int _,d',A,x,y,u,v,hu,h1,h2,e1,e2,r1,r2=>tP I fh _ d' A x y u v rfl hu h2 e1 e2 r1 r2
 | .str _,d',A,x,y,u,v,hu,h1,h2,e1,e2,r1,r2=>tP I fh _ d' A x y u v rfl hu h2 e1 e2 r1 r2
 | .tup ds,d',A,x,y,u,v,hu,h1,h2,e1,e2,r1,r2=>DS I fh ds _ d' A x y u v (.inl rfl) hu h1 h2 e1 e2 r1 r2 fun es z2 vs1 vs its1 its g1 r rv1 rv =>
  BK I fh ds es A.in1 vs1 vs its1 its (by rw [units_in1];simp only [dep] at hu;omega) (by simp only [dep] at h1;omega) (by rcases z2 with rfl | rfl <;> (simp only [dep] at h2;omega)) g1 r rv1 rv
 | .lst ds,d',A,x,y,u,v,hu,h1,h2,e1,e2,r1,r2=>DS I fh ds _ d' A x y u v (.inr rfl) hu h1 h2 e1 e2 r1 r2 fun es z2 vs1 vs its1 its g1 r rv1 rv =>
  BK I fh ds es A.in1 vs1 vs its1 its (by rw [units_in1];simp only [dep] at hu;omega) (by simp only [dep] at h1;omega) (by rcases z2 with rfl | rfl <;> (simp only [dep] at h2;omega)) g1 r rv1 rv
theorem BK (I:Inv X pins σ H s) (fh:ar F H):∀(ds es:List D) (A:Around) (xs ys:List V) (us vs:List Value),A.units + cy ds < cLine→cy ds < 1000→cy es < 1000→ao X.K F ds xs→ao X.K F es ys→Vals xs us→Vals ys vs →
  ∀(j:Nat) (h1:j < us.length) (h2:j < vs.length),SeqAt.EqAt A s us[j] vs[j] (vP ds es j)
 | [],es,A,xs,ys,us,vs,hu,h1,h2,e1,e2,r1,r2,j,hj1,hj2=>by
  simp only [ao] at e1;subst e1;cases r1;simp at hj1
 | d :: ds,es,A,xs,ys,us,vs,hu,h1,h2,e1,e2,r1,r2,j,hj1,hj2=>by
  simp only [ao] at e1
  obtain⟨x,xr,rfl,ax,bx⟩:=e1
  cases r1 with
  | cons rx rrx =>
  cases es with
  | nil=>simp only [ao] at e2;subst e2;cases r2;simp at hj2
  | cons e es =>
   simp only [ao] at e2
   obtain⟨y,yr,rfl,ay,by'⟩:=e2
   cases r2 with
   | cons ry rry =>
   simp only [cy] at hu h1 h2
   cases j with
   | zero =>
    simp only [List.getElem_cons_zero]
    have e0:vP (d :: ds) (e :: es) 0=ba d e:=by simp [vP]
    rw [e0]
    exact ye I fh d e A x y _ _ (by omega) (by omega) (by omega) ax ay rx ry (Cr I fh d e A x y _ _ (by omega) (by omega) (by omega) ax ay rx ry).1
   | succ j =>
    simp only [List.getElem_cons_succ]
    have e0:vP (d :: ds) (e :: es) (j + 1)=vP ds es j:=by simp [vP]
    rw [e0]
    exact BK I fh ds es A xr yr _ _ (by omega) (by omega) (by omega) bx by' rrx rry j (by simpa using hj1) (by simpa using hj2)
end
theorem oD (I:Inv X pins σ H s) (fh:ar F H) (d d':D) (A:Around) (x y:V) (u v:Value) (hu:A.units + dep d < cLine) (h1:dep d < 1000) (h2:dep d' < 1000) (e1:Den X.K F d x) (e2:Den X.K F d' y) (r1:RelV x u) (r2:RelV y v) :
  SeqAt.EqAt A s u v (ba d d'):=ye I fh d d' A x y u v hu h1 h2 e1 e2 r1 r2 (Cr I fh d d' A x y u v hu h1 h2 e1 e2 r1 r2).1
end
end L2.L3
namespace L2.L3
open PySem PySem.Spec PyProof.Rows
section
variable {X:Cx} {a b c e:Expr} {es:List Expr} {ta tb tc:TD} {tA tB':TB} {ts:eI} {pos:Pos} {rest:List Expr}
def DQ (K:PySem.W.Frag):R2:=fun x y H Q=>∃l b xs zs,x=.ref l∧y=.ref b∧fz K H l xs∧fz K H b zs∧xs.length + zs.length≤sizeLine∧∀p,H p=none→Q (.ref p) (upd H p (.lst (xs ++ zs)))
theorem CM:gT X (binaryOp .Add) (DQ X.K):=by
 intro pins s σ H x y v u Q I rx ry h
 obtain⟨l,b,xs,zs,rfl,rfl,hH,hB,hz,q⟩:=h
 cases rx
 cases ry
 obtain⟨its,r,⟨⟨cls,dd,data,sl⟩,n,ho,hc,hdd,hd⟩,z⟩:=I.list hH
 obtain⟨its2,r2,⟨⟨cls2,dd2,data2,sl2⟩,n2,ho2,hc2,hdd2,hd2⟩,z2⟩:=I.list hB
 simp only at hc hdd hd hc2 hdd2 hd2
 subst hc hdd hd hc2 hdd2 hd2
 have ea:its.toArray ++ its2.toArray=(its ++ its2).toArray:=by simp
 refine concat_meets ⟨_,ho,rfl⟩ ⟨_,ho2,rfl⟩ noFill_list_add seq_list_add PySem.F.slot_list_add PySem.F.entry_list_add (PySem.F.args_list_add_2 _ _)
  (list_addW l b its.toArray its2.toArray n n2 none none sl sl2 (by rw [List.size_toArray,List.size_toArray,← r.length,← r2.length];exact hz)) ⟨ho,ho2,?_⟩
 rw [ea]
 exact⟨.ref _,_,I.Jv (t':=s.toks) (r.append r2) (by rw [List.length_append];omega),rfl,q _ I.fresh⟩
def BU (K:PySem.W.Frag):R2:=fun x y H Q=>∃a b ys,x=.ref a∧y=.ref b∧iy K H a []∧iy K H b ys∧Q (.ref b) H
theorem Bi:gT X (binaryOp .Add) (BU X.K):=by
 intro pins s σ H x y v u Q I rx ry h
 obtain⟨l,b,zs,rfl,rfl,hH,hB,q⟩:=h
 cases rx
 cases ry
 obtain⟨its,r,⟨⟨cls,dd,data,sl⟩,ho,hc,n,hd⟩,z⟩:=I.tuple hH
 obtain⟨its2,r2,⟨⟨cls2,dd2,data2,sl2⟩,ho2,hc2,n2,hd2⟩,z2⟩:=I.tuple hB
 cases r
 simp only at hc hd hc2 hd2
 subst hc hd hc2 hd2
 exact concat_meets ⟨_,ho,rfl⟩ ⟨_,ho2,rfl⟩ noFill_tuple_add seq_tuple_add PySem.F.slot_tuple_add PySem.F.entry_tuple_add (PySem.F.args_tuple_add_2 _ _)
  (tuple_addW0 l b _ _ n n2 dd dd2 sl sl2 (by simp)) ⟨ho,ho2,⟨.ref b,H,I,rfl,q⟩⟩
def bM (x y:D) (Q:D→Prop):Prop:=match x,y with
 | .int i,.int j=>Q (.int (i + j))
 | .str u,.str w=>u.length + w.length≤sizeLine∧Q (.str (u ++ w))
 | .lst u,.lst w=>u.length + w.length≤sizeLine∧Q (.lst (u ++ w))
 | .tup u,.tup w=>u.length + w.length≤sizeLine∧Q (.tup (u ++ w))
 | _,_=>False
def xX (K:PySem.W.Frag):R2:=fun x y H Q=>zX (fun i j=>.int (i + j)) x y H Q∨(∃i j,x=.str i∧y=.str j∧i.length + j.length≤sizeLine∧Q (.str (i ++ j)) H)∨DQ K x y H Q∨Eh K x y H Q∨BU K x y H Q
theorem yQ:gT X (binaryOp .Add) (xX X.K):=EG.or (wL.or (CM.or (Cs.or Bi)))
theorem FI:p8 X (xX X.K) bM:=by
 intro B σ F H env Q d d' x y Z rp h1 h2 hz hf
 unfold bM at hf
 split at hf
 ·simp only [Den] at h1 h2;subst h1 h2
  exact .inl ⟨_,_,rfl,rfl,hz _ _ F _ rp (ar.refl _) bf hf⟩
 ·simp only [Den] at h1 h2;subst h1 h2
  exact .inr (.inl ⟨_,_,rfl,rfl,hf.1,hz _ _ F _ rp (ar.refl _) gb hf.2⟩)
 ·simp only [Den] at h1 h2
  obtain⟨p,vs,rfl,q,r⟩:=h1
  obtain⟨p',vs',rfl,q',r'⟩:=h2
  refine .inr (.inr (.inl ⟨p,p',vs,vs',rfl,rfl,rp.fh.seq q,rp.fh.seq q',by rw [← r.length,← r'.length];exact hf.1,fun w hw=>?_⟩))
  obtain⟨r2,s2⟩:=rp.laid (o:=.lst (vs ++ vs')) hw
  exact hz _ _ _ _ r2 s2 (h9 (fz.of aI) (ao.mono s2 _ _ (r.append r'))) hf.2
 ·simp only [Den] at h1 h2
  obtain⟨p,vs,rfl,q,r⟩:=h1
  obtain⟨p',vs',rfl,q',r'⟩:=h2
  cases vs with
  | nil =>
   rename_i u w
   cases u with
   | cons _ _=>simp only [ao] at r;obtain⟨_,_,z,_⟩:=r;cases z
   | nil =>
    exact .inr (.inr (.inr (.inr ⟨p,p',vs',rfl,rfl,ar.b8 rp.fh q,ar.b8 rp.fh q',hz _ _ F _ rp (ar.refl _) (gh q' r') (by simpa using hf.2)⟩)))
  | cons v0 vr =>
   refine .inr (.inr (.inr (.inl ⟨p,p',v0 :: vr,vs',rfl,rfl,ar.b8 rp.fh q,ar.b8 rp.fh q',by simp,by rw [← r.length,← r'.length];exact hf.1,fun w=>?_,fun w z hw=>?_⟩)))
   ·subst w
    rename_i w
    have e:w=[]:=by
     cases w with
     | nil=>rfl
     | cons _ _=>simp only [ao] at r';obtain⟨_,_,z,_⟩:=r';cases z
    subst e
    exact hz _ _ F _ rp (ar.refl _) (gh q r) (by simpa using hf.2)
   ·obtain⟨r2,s2⟩:=rp.laid (o:=.tup (v0 :: vr ++ vs')) hw
    exact hz _ _ _ _ r2 s2 (gh (iy.of aI) (ao.mono s2 _ _ (r.append r'))) hf.2
 ·exact hf.elim
theorem bc (ha:QE X a ta) (hb:QE X b tb):QE X (.BinOp a .Add b pos) (aC bM ta tb):=xq yQ FI ha hb
def v7 (C:Int→Int→Prop) (g:Int→Int→D) (x y:D) (Q:D→Prop):Prop:=match x,y with
 | .int i,.int j=>C i j∧Q (g i j)
 | _,_=>False
theorem yg {C:Int→Int→Prop} {g:Int→Int→Int}:p8 X (rI C fun i j=>.int (g i j)) (v7 C fun i j=>.int (g i j)):=by
 intro B σ F H env Q d d' x y Z rp h1 h2 hz hf
 unfold v7 at hf
 split at hf
 ·simp only [Den] at h1 h2;subst h1 h2
  exact⟨_,_,rfl,rfl,hf.1,hz _ _ F _ rp (ar.refl _) bf hf.2⟩
 ·exact hf.elim
theorem GH {g:Int→Int→Int}:p8 X (zX fun i j=>.int (g i j)) (v7 (fun _ _=>True) fun i j=>.int (g i j)):=by
 intro B σ F H env Q d d' x y Z rp h1 h2 hz hf
 unfold v7 at hf
 split at hf
 ·simp only [Den] at h1 h2;subst h1 h2
  exact⟨_,_,rfl,rfl,hz _ _ F _ rp (ar.refl _) bf hf.2⟩
 ·exact hf.elim
theorem kc {g:Int→Int→Bool}:p8 X (zX fun i j=>.bl (g i j)) (v7 (fun _ _=>True) fun i j=>.bl (g i j)):=by
 intro B σ F H env Q d d' x y Z rp h1 h2 hz hf
 unfold v7 at hf
 split at hf
 ·simp only [Den] at h1 h2;subst h1 h2
  exact⟨_,_,rfl,rfl,hz _ _ F _ rp (ar.refl _) dg hf.2⟩
 ·exact hf.elim
theorem Co:gT X (binaryOp .Mult) (rI IntMulOk fun i j=>.int (i * j)):=IB fun _ _ _ _ _ _ _ hc q=>mul_int q hc
def yz (_ j:Int):Prop:=j≠0∧j.natAbs.log2 < 9000
theorem B6:gT X (binaryOp .FloorDiv) (rI yz fun i j=>.int (i.fdiv j)):=IB fun _ _ _ _ _ _ _ hc q=>floordiv_int hc.1 q (.inl (PyProof.noPylong_of_log2 hc.2))
def zP (_ j:Int):Prop:=j≠0
abbrev fF:=v7 (fun _ _=>True) fun i j=>.int (i - j)
abbrev fN:=v7 IntMulOk fun i j=>.int (i * j)
abbrev yy:=v7 yz fun i j=>.int (i.fdiv j)
abbrev oV:=v7 zP fun i j=>.int (i.fmod j)
abbrev xw:=v7 EK fun i j=>.int (i ^ j.toNat)
abbrev wD:=v7 (fun _ _=>True) fun i j=>.bl (decide (i < j))
abbrev JO:=v7 (fun _ _=>True) fun i j=>.bl (decide (i≤j))
abbrev DH:=v7 (fun _ _=>True) fun i j=>.bl (decide (j < i))
abbrev JN:=v7 (fun _ _=>True) fun i j=>.bl (decide (j≤i))
theorem cZ (ha:QE X a ta) (hb:QE X b tb):QE X (.BinOp a .Sub b pos) (aC fF ta tb):=xq Ga GH ha hb
theorem cR (ha:QE X a ta) (hb:QE X b tb):QE X (.BinOp a .Mult b pos) (aC fN ta tb):=xq Co yg ha hb
theorem xb (ha:QE X a ta) (hb:QE X b tb):QE X (.BinOp a .FloorDiv b pos) (aC yy ta tb):=xq B6 yg ha hb
theorem jT (ha:QE X a ta) (hb:QE X b tb):QE X (.BinOp a .Mod b pos) (aC oV ta tb):=xq (r:=rI zP fun i j=>.int (i.fmod j)) C4 yg ha hb
theorem qQ (ha:QE X a ta) (hb:QE X b tb):QE X (.BinOp a .Pow b pos) (aC xw ta tb):=xq EL yg ha hb
theorem G8 (ha:QE X a ta) (hb:QE X b tb):QE X (.Compare a [.Gt] [b] pos) (aC DH ta tb):=Ay DT kc ha hb (fv _)
theorem xQ (ha:QE X a ta) (hb:QE X b tb):QT X (.Compare a [.Lt] [b] pos) (aM (aC wD ta tb)):=gE zD kc ha hb (fv _)
theorem IX (ha:QE X a ta) (hb:QE X b tb):QT X (.Compare a [.LtE] [b] pos) (aM (aC JO ta tb)):=gE Ie kc ha hb (fv _)
theorem Bc (ha:QE X a ta) (hb:QE X b tb):QT X (.Compare a [.Gt] [b] pos) (aM (aC DH ta tb)):=gE DT kc ha hb (fv _)
theorem Jy (ha:QE X a ta) (hb:QE X b tb):QT X (.Compare a [.GtE] [b] pos) (aM (aC JN ta tb)):=gE Ir kc ha hb (fv _)
def J5 (X:Cx) (r:V→Hp→VK→Prop) (f:D→(D→Prop)→Prop):Prop:=∀(B:Base) (σ:St) (F H:Hp) (env:En) (Q:D→Prop) (d:D) (x:V) (Z:VK),Rep X.K B F H σ env→Den X.K F d x→Kont X B σ env F Q Z→f d Q→r x H Z
def qT (f:D→(D→Prop)→Prop) (ta:TD):TD:=fun env Q=>ta env fun x=>f x Q
theorem IZ {op:UnaryOp} {r:V→Hp→VK→Prop} {f:D→(D→Prop)→Prop} (ho:Iy X (unaryOp op) r) (hf:J5 X r f) (ha:QE X a ta):QE X (.UnaryOp op a pos) (qT f ta):=by
 refine⟨?_⟩
 intro B σ F H env Q rp h
 refine bD (Hw ho bh) ?_
 refine aE (ha B σ F H env _ rp h) fun x H1 ⟨F1,d,r1,s1,d1,q1⟩=>?_
 exact hf B σ F1 H1 env Q d x _ r1 d1 (fun v H' F' d' r' s' hd q=>⟨F',d',r',s1.trans s',hd,q⟩) q1
def iI (x:D) (Q:D→Prop):Prop:=match x with
 | .int i=>Q (.int (-i))
 | _=>False
theorem gm (ha:QE X a ta):QE X (.UnaryOp .USub a pos) (qT iI ta):=by
 refine IZ E4 ?_ ha
 intro B σ F H env Q d x Z rp h1 hz hf
 unfold iI at hf
 split at hf
 ·simp only [Den] at h1;subst h1
  exact⟨_,rfl,hz _ _ F _ rp (ar.refl _) bf hf⟩
 ·exact hf.elim
def DG (X:Cx) (neg:Bool):R2:=fun x y H Q=>∃(F:Hp) (d d':D),ar F H∧Den X.K F d x∧Den X.K F d' y∧X.A.units + dep d < cLine∧dep d < 1000∧dep d' < 1000∧Q (.bl (if neg then !ba d d' else ba d d')) H
theorem zN:gT X (compareOp .Eq) (DG X false):=by
 intro pins s σ H x y v u Q I rx ry h
 obtain⟨F,d,d',fh,h1,h2,hu,hd,hd',q⟩:=h
 exact (Cr I fh d d' X.A x y v u hu hd hd' h1 h2 rx ry).1 X.prog X.w X.xe _ ⟨.bl _,H,I,rfl,q⟩
theorem wY:gT X (compareOp .NotEq) (DG X true):=by
 intro pins s σ H x y v u Q I rx ry h
 obtain⟨F,d,d',fh,h1,h2,hu,hd,hd',q⟩:=h
 exact (Cr I fh d d' X.A x y v u hu hd hd' h1 h2 rx ry).2 X.prog X.w X.xe _ ⟨.bl _,H,I,rfl,q⟩
def jS (x y:D):Prop:=dep x≤60∧dep y≤60
def gI (x y:D) (Q:D→Prop):Prop:=jS x y∧Q (.bl (ba x y))
def pT (x y:D) (Q:D→Prop):Prop:=jS x y∧Q (.bl (!ba x y))
theorem Er (hu:X.A.units + 64 < cLine):p8 X (DG X false) gI:=by
 intro B σ F H env Q d d' x y Z rp h1 h2 hz hf
 obtain⟨⟨l1,l2⟩,q⟩:=hf
 exact⟨F,d,d',rp.fh,h1,h2,by omega,by omega,by omega,hz _ _ F _ rp (ar.refl _) dg q⟩
theorem DV (hu:X.A.units + 64 < cLine):p8 X (DG X true) pT:=by
 intro B σ F H env Q d d' x y Z rp h1 h2 hz hf
 obtain⟨⟨l1,l2⟩,q⟩:=hf
 exact⟨F,d,d',rp.fh,h1,h2,by omega,by omega,by omega,hz _ _ F _ rp (ar.refl _) dg q⟩
theorem AB (hu:X.A.units + 64 < cLine) (ha:QE X a ta) (hb:QE X b tb):QE X (.Compare a [.Eq] [b] pos) (aC gI ta tb):=Ay zN (Er hu) ha hb (fv _)
theorem Je (hu:X.A.units + 64 < cLine) (ha:QE X a ta) (hb:QE X b tb):QE X (.Compare a [.NotEq] [b] pos) (aC pT ta tb):=Ay wY (DV hu) ha hb (fv _)
theorem gN (hu:X.A.units + 64 < cLine) (ha:QE X a ta) (hb:QE X b tb):QT X (.Compare a [.Eq] [b] pos) (aM (aC gI ta tb)):=gE zN (Er hu) ha hb (fv _)
theorem ub (hu:X.A.units + 64 < cLine) (ha:QE X a ta) (hb:QE X b tb):QT X (.Compare a [.NotEq] [b] pos) (aM (aC pT ta tb)):=gE wY (DV hu) ha hb (fv _)
def cz (x y:D) (Q:D→Prop):Prop:=match x,y with
 | .lst xs,.int i=>∃v,jN xs i=some v∧Q v
 | .tup xs,.int i=>∃v,jN xs i=some v∧Q v
 | .str z,.int i=>z.length≤sizeLine∧∃c,jN z.cps.toList i=some c∧Q (.str ⟨#[c]⟩)
 | _,_=>False
theorem ao.jN {K:PySem.W.Frag} {F:Hp} {ds:List D} {vs:List V} {i:Int} {d:D} (r:ao K F ds vs) (h:jN ds i=some d):∃v,L2.jN vs i=some v∧Den K F d v:=by
 unfold L2.jN at h ⊢
 rw [← r.length]
 cases e:r9 ds.length i with
 | none=>rw [e] at h;cases h
 | some j =>
  rw [e] at h
  exact r.get h
theorem Ex:p8 X (Jz X.K) cz:=by
 intro B σ F H env Q d d' x y Z rp h1 h2 hz hf
 unfold cz at hf
 split at hf
 ·simp only [Den] at h1 h2;subst h2
  obtain⟨p,vs,rfl,q,r⟩:=h1
  obtain⟨v,hv,qv⟩:=hf
  obtain⟨w,hw,dw⟩:=r.jN hv
  exact .inl ⟨p,vs,_,w,rfl,rfl,rp.fh.seq q,hw,hz _ _ F _ rp (ar.refl _) dw qv⟩
 ·simp only [Den] at h1 h2;subst h2
  obtain⟨p,vs,rfl,q,r⟩:=h1
  obtain⟨v,hv,qv⟩:=hf
  obtain⟨w,hw,dw⟩:=r.jN hv
  exact .inr (.inl ⟨p,vs,_,w,rfl,rfl,ar.b8 rp.fh q,hw,hz _ _ F _ rp (ar.refl _) dw qv⟩)
 ·simp only [Den] at h1 h2;subst h1 h2
  obtain⟨hl,c,hc,qv⟩:=hf
  exact .inr (.inr ⟨_,_,c,rfl,rfl,hl,hc,hz _ _ F _ rp (ar.refl _) gb qv⟩)
 ·exact hf.elim
theorem bN (ha:QE X a ta) (hb:QE X b tb) (hs:kP b):QE X (.Subscript a b pos) (aC cz ta tb):=⟨fun B σ F H env Q rp h=>bD (yi zZ bh bh hs) (two Ex ha hb rp HF h)⟩
abbrev FP:=En→(Option Int→Prop)→Prop
def gZ:FP:=fun _ Q=>Q none
def kS (t:TD):FP:=fun env Q=>t env fun x=>∃i,x=.int i∧Q (some i)
def QO (X:Cx) (e:Option Expr) (t:FP):Prop:=∃to:TO,PO X e to∧∀(B:Base) (σ:St) (F H:Hp) (env:En) (Q:Option Int→Prop) (Z:Option Int→Hp→Prop),Rep X.K B F H σ env→(∀o H' F',Rep X.K B F' H' σ env→ar F F'→Q o→Z o H')→t env Q→to σ H Z
theorem sY:QO X none gZ:=⟨_,Di,fun B σ F H env Q Z rp hz h=>hz none H F rp (ar.refl _) h⟩
theorem lC (h:QE X e ta):QO X (some e) (kS ta):=by
 refine⟨_,C7 bh,fun B σ F H env Q Z rp hz hq=>?_⟩
 refine aE (h B σ F H env _ rp hq) fun x H1 ⟨F1,d,r1,s1,d1,i,hi,q1⟩=>?_
 subst hi
 simp only [Den] at d1
 exact⟨i,d1,hz _ _ F1 r1 s1 q1⟩
def cutD (xs:List D) (lo hi:Option Int):List D:=(xs.drop (HT.dZ xs.length 0 lo)).take (HT.dZ xs.length xs.length hi - HT.dZ xs.length 0 lo)
def IG (x:D) (lo hi:Option Int) (Q:D→Prop):Prop:=match x with
 | .lst xs=>Q (.lst (cutD xs lo hi))
 | .tup xs=>¬ (HT.dZ xs.length 0 lo=0∧HT.dZ xs.length xs.length hi=xs.length)∧Q (.tup (cutD xs lo hi))
 | _=>False
def Hg (ta:TD) (tl th:FP):TD:=fun env Q=>ta env fun x=>tl env fun lo=>th env fun hi=>IG x lo hi Q
theorem Jk {lo hi:Option Expr} {tl th:FP} {p2:Pos} (ha:QE X a ta) (hl:QO X lo tl) (hh:QO X hi th):QE X (.Subscript a (.Slice lo hi none p2) pos) (Hg ta tl th):=by
 refine⟨?_⟩
 intro B σ F H env Q rp h
 obtain⟨tl',pl,ql⟩:=hl
 obtain⟨th',ph,qh⟩:=hh
 refine bD (vT (C3.or CF Fb) bh pl ph) ?_
 refine aE (ha B σ F H env _ rp h) fun x H1 ⟨F1,d,r1,s1,d1,q1⟩=>?_
 refine ql B σ F1 H1 env _ _ r1 (fun lo' H2 F2 r2 s2 q2=>?_) q1
 refine qh B σ F2 H2 env _ _ r2 (fun hi' H3 F3 r3 s3 q3=>?_) q2
 have d3:=Den.mono (s2.trans s3) _ _ d1
 unfold IG at q3
 split at q3
 ·simp only [Den] at d3
  obtain⟨p,vs,rfl,q,r⟩:=d3
  refine .inl ⟨p,vs,rfl,r3.fh.seq q,fun w hw=>?_⟩
  obtain⟨r4,s4⟩:=r3.laid (o:=.lst (qg vs lo' hi')) hw
  refine⟨_,_,r4,((s1.trans s2).trans s3).trans s4,h9 (fz.of aI) ?_,q3⟩
  unfold qg cutD
  rw [r.length]
  exact ao.mono s4 _ _ ((r.drop _).take _)
 ·simp only [Den] at d3
  obtain⟨p,vs,rfl,q,r⟩:=d3
  refine .inr ⟨p,vs,rfl,ar.b8 r3.fh q,by rw [← r.length];exact q3.1,fun w hw=>?_⟩
  obtain⟨r4,s4⟩:=r3.laid (o:=.tup (qg vs lo' hi')) hw
  refine⟨_,_,r4,((s1.trans s2).trans s3).trans s4,gh (iy.of aI) ?_,q3.2⟩
  unfold qg cutD
  rw [r.length]
  exact ao.mono s4 _ _ ((r.drop _).take _)
 ·exact q3.elim
def Call3 (X:Cx) (r:List V→Hp→VK→Prop) (f:List D→(D→Prop)→Prop):Prop:=∀(B:Base) (σ:St) (F H:Hp) (env:En) (Q:D→Prop) (ds:List D) (vs:List V) (Z:VK),Rep X.K B F H σ env→ao X.K F ds vs→Kont X B σ env F Q Z→f ds Q→r vs H Z
def az (f:List D→(D→Prop)→Prop) (ts:eI):TD:=fun env Q=>ts env fun xs=>f xs Q
theorem Eo {r:List V→Hp→VK→Prop} {f:List D→(D→Prop)→Prop} (hf:Call3 X r f) (ha:QA X es ts) {B:Base} {σ:St} {F H:Hp} {env:En} {Q:D→Prop} (rp:Rep X.K B F H σ env) (h:az f ts env Q):Jj r (wA X es) σ H (RV X B σ env F Q):=by
 refine cg (ha B σ F H env _ rp h) fun vs H1 ⟨F1,ds,r1,s1,d1,q1⟩=>?_
 exact hf B σ F1 H1 env Q ds vs _ r1 d1 (fun v H' F' d' r' s' hd q=>⟨F',d',r',s1.trans s',hd,q⟩) q1
theorem gU {id:String} {r:List V→Hp→VK→Prop} {f:List D→(D→Prop)→Prop} {x:Str} {p:Pos} (hc:dq X (.builtin id) r) (hf:Call3 X r f) (hg:Gl X x) (hm:X.mg x=none) (hv:bootBuiltins x=some (.builtin id)) (ha:QA X (e :: es) ts)
  (hn:x≠"__name__":=by decide) (hdb:(x == ("__debug__" : Str))=false:=by decide) (he:starEach (e :: es) X.env=(false,eval e X.env) :: starEach es X.env:=by exact aR rfl) (hpl:(backTo pos (starEach es X.env)).any (·.1)=false:=by rfl) :
  QE X (.Call (.Name x p) (e :: es) [] pos) (az f ts):=⟨fun B σ F H env Q rp h=>bD (uS hc hg hm hv js hn hdb he hpl) (Eo hf ha rp h)⟩
theorem vo {T:String} {r:List V→Hp→VK→Prop} {f:List D→(D→Prop)→Prop} {x:Str} {p:Pos} (hc:dq X (.type T) r) (hf:Call3 X r f) (hg:Gl X x) (hm:X.mg x=none) (hv:bootBuiltins x=some (.type T)) (ha:QA X (e :: es) ts)
  (hn:x≠"__name__":=by decide) (hdb:(x == ("__debug__" : Str))=false:=by decide) (he:starEach (e :: es) X.env=(false,eval e X.env) :: starEach es X.env:=by exact aR rfl) (hpl:(backTo pos (starEach es X.env)).any (·.1)=false:=by rfl) :
  QE X (.Call (.Name x p) (e :: es) [] pos) (az f ts):=⟨fun B σ F H env Q rp h=>bD (mj hc hg hm hv js hn hdb he hpl) (Eo hf ha rp h)⟩
end
end L2.L3
namespace L2.L3
open PySem PySem.Spec PyProof.Rows
theorem zd:bootBuiltins "abs" = some (.builtin "abs"):=by decide +kernel
theorem qz:bootBuiltins "max" = some (.builtin "max"):=by decide +kernel
theorem zf:bootBuiltins "min" = some (.builtin "min"):=by decide +kernel
theorem rm:bootBuiltins "isinstance" = some (.builtin "isinstance"):=by decide +kernel
theorem qC:bootBuiltins "len" = some (.builtin "len"):=by decide +kernel
theorem rj:bootBuiltins "int" = some (.type "int"):=by decide +kernel
theorem wK:bootBuiltins "bool" = some (.type "bool"):=by decide +kernel
theorem n8:bootBuiltins "list" = some (.type "list"):=by decide +kernel
theorem vb:bootBuiltins "tuple" = some (.type "tuple"):=by decide +kernel
section
variable {X:Cx} {a b c e:Expr} {es:List Expr} {ta tb tc:TD} {tA tB':TB} {ts:eI} {pos:Pos} {rest:List Expr}
def my (ds:List D) (Q:D→Prop):Prop:=match ds with
 | [.int i]=>Q (.int (if i < 0 then -i else i))
 | _=>False
theorem FX:Call3 X (fun xs H Q=>∃i,xs=[.int i]∧Q (.int (if i < 0 then -i else i)) H) my:=by
 intro B σ F H env Q ds vs Z rp h hz hf
 unfold my at hf
 split at hf
 ·simp only [ao,Den] at h
  obtain⟨v,r,rfl,rfl,rfl⟩:=h
  exact⟨_,rfl,hz _ _ F _ rp (ar.refl _) bf hf⟩
 ·exact hf.elim
def iN (ds:List D) (Q:D→Prop):Prop:=match ds with
 | [.lst xs]=>Q (.int xs.length)
 | [.tup xs]=>Q (.int xs.length)
 | [.str z]=>z.length≤sizeLine∧Q (.int z.length)
 | _=>False
theorem Fy:Call3 X (fun xs H Q=>(∃p ys,xs=[.ref p]∧(fz X.K H p ys∨iy X.K H p ys)∧Q (.int ys.length) H)∨∃z,xs=[.str z]∧z.length≤sizeLine∧Q (.int z.length) H) iN:=by
 intro B σ F H env Q ds vs Z rp h hz hf
 unfold iN at hf
 split at hf
 ·simp only [ao,Den] at h
  obtain⟨v,r,rfl,⟨p,ys,rfl,q,r⟩,rfl⟩:=h
  refine .inl ⟨p,ys,rfl,.inl (rp.fh.seq q),hz _ _ F _ rp (ar.refl _) bf ?_⟩
  rw [← r.length];exact hf
 ·simp only [ao,Den] at h
  obtain⟨v,r,rfl,⟨p,ys,rfl,q,r⟩,rfl⟩:=h
  refine .inl ⟨p,ys,rfl,.inr (ar.b8 rp.fh q),hz _ _ F _ rp (ar.refl _) bf ?_⟩
  rw [← r.length];exact hf
 ·simp only [ao,Den] at h
  obtain⟨v,r,rfl,rfl,rfl⟩:=h
  exact .inr ⟨_,rfl,hf.1,hz _ _ F _ rp (ar.refl _) bf hf.2⟩
 ·exact hf.elim
def An (ds:List D) (Q:D→Prop):Prop:=match ds with
 | [.int i,.int j]=>Q (.int (if j > i then j else i))
 | _=>False
def B3 (ds:List D) (Q:D→Prop):Prop:=match ds with
 | [.int i,.int j]=>Q (.int (if j < i then j else i))
 | _=>False
theorem EF:Call3 X (fun xs H Q=>∃i j,xs=[.int i,.int j]∧Q (.int (if j > i then j else i)) H) An:=by
 intro B σ F H env Q ds vs Z rp h hz hf
 unfold An at hf
 split at hf
 ·simp only [ao,Den] at h
  obtain⟨v,r,rfl,rfl,v',r',rfl,rfl,rfl⟩:=h
  exact⟨_,_,rfl,hz _ _ F _ rp (ar.refl _) bf hf⟩
 ·exact hf.elim
theorem FZ:Call3 X (fun xs H Q=>∃i j,xs=[.int i,.int j]∧Q (.int (if j < i then j else i)) H) B3:=by
 intro B σ F H env Q ds vs Z rp h hz hf
 unfold B3 at hf
 split at hf
 ·simp only [ao,Den] at h
  obtain⟨v,r,rfl,rfl,v',r',rfl,rfl,rfl⟩:=h
  exact⟨_,_,rfl,hz _ _ F _ rp (ar.refl _) bf hf⟩
 ·exact hf.elim
def pG (ds:List D) (Q:D→Prop):Prop:=match ds with
 | [.int i]=>Q (.int i)
 | [.bl k]=>Q (.int (if k then 1 else 0))
 | _=>False
theorem Ff:Call3 X (fun xs H Q=>(∃i,xs=[.int i]∧Q (.int i) H)∨∃k,xs=[.bl k]∧Q (.int (if k then 1 else 0)) H) pG:=by
 intro B σ F H env Q ds vs Z rp h hz hf
 unfold pG at hf
 split at hf
 ·simp only [ao,Den] at h
  obtain⟨v,r,rfl,rfl,rfl⟩:=h
  exact .inl ⟨_,rfl,hz _ _ F _ rp (ar.refl _) bf hf⟩
 ·simp only [ao,Den] at h
  obtain⟨v,r,rfl,rfl,rfl⟩:=h
  exact .inr ⟨_,rfl,hz _ _ F _ rp (ar.refl _) bf hf⟩
 ·exact hf.elim
def gz (ds:List D) (Q:D→Prop):Prop:=match ds with
 | [.lst xs]=>Q (.tup xs)
 | [.tup xs]=>Q (.tup xs)
 | _=>False
theorem Bt:Call3 X (fun xs H Q=>∃p ys,xs=[.ref p]∧((fz X.K H p ys∧∀l,H l=none→Q (.ref l) (upd H l (.tup ys)))∨(iy X.K H p ys∧Q (.ref p) H))) gz:=by
 intro B σ F H env Q ds vs Z rp h hz hf
 unfold gz at hf
 split at hf
 ·simp only [ao,Den] at h
  obtain⟨v,r,rfl,⟨p,ys,rfl,q,r⟩,rfl⟩:=h
  refine⟨p,ys,rfl,.inl ⟨rp.fh.seq q,fun w hw=>?_⟩⟩
  obtain⟨r2,s2⟩:=rp.laid (o:=.tup ys) hw
  exact hz _ _ _ _ r2 s2 (gh (iy.of aI) (ao.mono s2 _ _ r)) hf
 ·simp only [ao,Den] at h
  obtain⟨v,r,rfl,⟨p,ys,rfl,q,r⟩,rfl⟩:=h
  exact⟨p,ys,rfl,.inr ⟨ar.b8 rp.fh q,hz _ _ F _ rp (ar.refl _) (gh q r) hf⟩⟩
 ·exact hf.elim
def JR (K:PySem.W.Frag) (H:Hp) (x:V) (t:String):Prop:=match x with
 | .non=>t = "NoneType"
 | .bl _=>t = "bool"
 | .int _=>t = "int"
 | .str _=>t = "str"
 | .ref a=>(t = "tuple"∧∃vs,iy K H a vs)∨(t = "list"∧∃vs,fz K H a vs)
 | _=>False
theorem AY:dq X (.builtin "isinstance") (fun xs H Q=>∃x n t b,xs=[x,.ty n]∧JR X.K H x t∧PySem.W.kitOne X.K (.type t) (.type n)=some b∧Q (.bl b) H):=by
 intro pins s σ H xs us Q I r h
 obtain⟨x,n,t,b,rfl,ty,e,q⟩:=h
 obtain⟨u,w,rfl,rx,rw'⟩:=vals2 r
 cases (show w=Value.type n from rw')
 have fin:∀tk,EP X pins σ Q (.bool b) { s with toks:=tk }:=fun tk=>⟨.bl b,H,I.tok tk,rfl,q⟩
 cases x with
 | non=>cases (show t = "NoneType" from ty);cases (show u=Value.none from rx);exact PySem.W.kia_one PySem.W.kitx_none I.qR True.intro e (fun z=>nomatch z) fin
 | bl y=>cases (show t = "bool" from ty);cases (show u=Value.bool y from rx);exact PySem.W.kia_one PySem.W.kitx_bool I.qR True.intro e (fun z=>nomatch z) fin
 | int i=>cases (show t = "int" from ty);obtain⟨t,q⟩:=(show ∃t,u=Value.int i t from rx);cases q;exact PySem.W.kia_one PySem.W.kitx_int I.qR True.intro e (fun z=>nomatch z) fin
 | str i=>cases (show t = "str" from ty);obtain⟨t,q⟩:=(show ∃t,u=Value.str i t from rx);cases q;exact PySem.W.kia_one PySem.W.kitx_str I.qR True.intro e (fun z=>nomatch z) fin
 | ref a =>
  cases (show u=Value.ref a from rx)
  rcases ty with ⟨rfl,vs,hq⟩ | ⟨rfl,vs,hq⟩
  ·obtain⟨_,_,⟨o,h1,h2,_⟩,_⟩:=I.tuple hq
   exact PySem.W.kia_one PySem.W.kitx_tuple I.qR ⟨o,h1,h2⟩ e (fun z=>nomatch z) fin
  ·obtain⟨_,_,⟨o,n,h1,h2,_⟩,_⟩:=I.list hq
   exact PySem.W.kia_one PySem.W.kitx_list I.qR ⟨o,h1,h2⟩ e (fun z=>nomatch z) fin
 | _=>exact False.elim ty
inductive Kd where | non | bl | int | str | tup | lst | oth
def G3:D→Kd
 | .non=>.non
 | .bl _=>.bl
 | .int _=>.int
 | .str _=>.str
 | .tup _=>.tup
 | .lst _=>.lst
 | _=>.oth
def Dw:Kd→String→Option Bool
 | .oth,_=>none
 | k,"int"=>some (match k with | .int=>true | .bl=>true | _=>false)
 | k,"bool"=>some (match k with | .bl=>true | _=>false)
 | k,"str"=>some (match k with | .str=>true | _=>false)
 | k,"tuple"=>some (match k with | .tup=>true | _=>false)
 | k,"list"=>some (match k with | .lst=>true | _=>false)
 | _,_=>none
def G9 (ds:List D) (Q:D→Prop):Prop:=match ds with
 | [x,.ty n]=>∃b,Dw (G3 x) n=some b∧Q (.bl b)
 | _=>False
theorem jC (K:PySem.W.Frag) (k:Kd) (n t:String) (b:Bool) (h:Dw k n=some b)
  (ht:t=match k with | .non=>"NoneType" | .bl=>"bool" | .int=>"int" | .str=>"str" | .tup=>"tuple" | .lst=>"list" | .oth=>"type"):PySem.W.kitOne K (.type t) (.type n)=some b:=by
 subst ht
 unfold Dw at h
 split at h
 ·cases h
 all_goals (cases k <;> simp at h <;> subst h <;> rfl)
theorem E7:Call3 X (fun xs H Q=>∃x n t b,xs=[x,.ty n]∧JR X.K H x t∧PySem.W.kitOne X.K (.type t) (.type n)=some b∧Q (.bl b) H) G9:=by
 intro B σ F H env Q ds vs Z rp h hz hf
 unfold G9 at hf
 split at hf
 ·rename_i x n
  obtain⟨b,hb,q⟩:=hf
  simp only [ao] at h
  obtain⟨v,r,rfl,hd,v',r',rfl,hd',rfl⟩:=h
  simp only [Den] at hd'
  subst hd'
  have fin:=hz (.bl b) H F (.bl b) rp (ar.refl _) dg q
  cases x with
  | non=>simp only [Den] at hd;subst hd;exact⟨_,n,"NoneType",b,rfl,rfl,jC _ _ _ _ _ hb rfl,fin⟩
  | bl k=>simp only [Den] at hd;subst hd;exact⟨_,n,"bool",b,rfl,rfl,jC _ _ _ _ _ hb rfl,fin⟩
  | int k=>simp only [Den] at hd;subst hd;exact⟨_,n,"int",b,rfl,rfl,jC _ _ _ _ _ hb rfl,fin⟩
  | str k=>simp only [Den] at hd;subst hd;exact⟨_,n,"str",b,rfl,rfl,jC _ _ _ _ _ hb rfl,fin⟩
  | tup k=>simp only [Den] at hd;obtain⟨p,vs,rfl,q',r⟩:=hd;exact⟨_,n,"tuple",b,rfl,.inl ⟨rfl,vs,ar.b8 rp.fh q'⟩,jC _ _ _ _ _ hb rfl,fin⟩
  | lst k=>simp only [Den] at hd;obtain⟨p,vs,rfl,q',r⟩:=hd;exact⟨_,n,"list",b,rfl,.inr ⟨rfl,vs,rp.fh.seq q'⟩,jC _ _ _ _ _ hb rfl,fin⟩
  | dct k _=>cases hb
  | obj k=>cases hb
  | ty k=>cases hb
  | exc k=>cases hb
  | cls k=>cases hb
 ·exact hf.elim
theorem wk {s:Shared} {h':Heap} {o:Obj} (hk:∀b x,b∉[s.heap.objs.size]→(s.heap.push o).get? b=some x→h'.get? b=some x):∀b x,s.heap.get? b=some x→h'.get? b=some x :=
 fun b x e=>hk b x (fun hm=>by rw [List.mem_singleton.mp hm] at e;exact Nat.lt_irrefl _ (Heap.lt_size e)) (Heap.get?_push_of_some _ e)
end
end L2.L3
namespace L2.L3
open PySem PySem.Spec PyProof.Rows
section
variable {K:PySem.W.Frag} {B:Base} {F H:Hp} {σ:St} {env:En}
theorem Rep.bare (r:Rep K B F H σ env):Rep K B F H [] [] :=
 ⟨r.f0,r.fh,r.h0,r.nf,fun i x q=>by simp at q,fun i x q=>by simp at q,fun i j _ _ _ _ q=>by simp at q,fun i x q=>by simp at q,fun i j _ _ _ _ q=>by simp at q⟩
end
section
variable {X:Cx} {a b c e:Expr} {es:List Expr} {ta tb tc:TD} {tA tB':TB} {ts:eI} {pos:Pos} {rest:List Expr} {st:Stmt} {sts:List Stmt} {t u:bC}
def bq:bC:=fun D env=>D.nx env
def aF (t u:bC):bC:=fun D env=>t { D with nx:=u D } env
theorem aV:mI X [] bq:=⟨fun B σ F H env D rp h=>lV Dv ⟨F,env,rp,h⟩⟩
theorem aq (h1:QS X st t):mI X [st] t:=⟨fun B σ F H env D rp h=>lV (si Ag) (h1 B σ F H env D rp h)⟩
theorem aj (h1:QS X st t) (h2:mI X sts u):mI X (st :: sts) (aF t u):=by
 refine⟨?_⟩
 intro B σ F H env D rp h
 refine lV (uH Ag d9) ?_
 exact yL (h1 B σ F H env _ rp h) (fun σ' H' ⟨F',env',rp',q⟩=>h2 B σ' F' H' env' D rp' q) (fun _ _ q=>q) (fun _ _ q=>q) (fun _ _ q=>q)
def n6:bC:=fun D env=>D.bk env
theorem zW:QS X (.Break pos) n6:=⟨fun B σ F H env D rp h=>dA Bf ⟨F,env,rp,h⟩⟩
def bo (te:TD):bC:=fun D env=>te env D.rt
theorem aO (he:QE X e ta):QS X (.Return (some e) pos) (bo ta):=by
 refine⟨?_⟩
 intro B σ F H env D rp h
 refine dA (xA bh) ?_
 exact aE (he B σ F H env _ rp h) fun v H' ⟨F',d,r',s',hd,q⟩=>⟨F',d,r'.bare,hd,q⟩
def fX (c:TB) (t u:bC):bC:=fun D env=>c env fun k=>if k=true then t D env else u D env
theorem bt {xs ys:List Stmt} (hc:QT X c tA) (ha:mI X xs t) (hb:mI X ys u):QS X (.If c xs ys pos) (fX tA t u):=by
 refine⟨?_⟩
 intro B σ F H env D rp h
 refine dA (Ed qi d9 d9) ?_
 refine gk (hc B σ F H env _ rp h) fun k H1 ⟨F1,r1,s1,q1⟩=>?_
 cases k with
 | true=>exact ha B σ F1 H1 env D r1 q1
 | false=>exact hb B σ F1 H1 env D r1 q1
abbrev pS:=D→En→(En→Prop)→Prop
abbrev tR:=List D→En→(En→Prop)→Prop
def wG (X:Cx) (tg:Expr):TG:=fun v σ H Q=>∀(pins:List (Addr×Obj)) (s:Shared) (u:Value),Inv X pins σ H s→RelV v u →
 wpAny (model X.prog X.w) X.A (assign tg X.env u) (fun _ s'=>∃σ' H',Inv X pins σ' H' s'∧Q σ' H') X.xe s
def GK (X:Cx) (tg:List Expr):Ct:=fun vs σ H Q=>∀(pins:List (Addr×Obj)) (s:Shared) (us:List Value),Inv X pins σ H s→Vals vs us →
 wpAny (model X.prog X.w) X.A (assignInOrder ((assignEach tg X.env).map (·.2)) us) (fun _ s'=>∃σ' H',Inv X pins σ' H' s'∧Q σ' H') X.xe s
theorem wR {tg:Expr}:PG X tg (wG X tg):=fun pins s σ H v u Q I r h=>h pins s u I r
theorem Ej {tg:List Expr}:GO X tg (GK X tg):=fun pins s σ H v u Q I r h=>h pins s u I r
theorem HK {tg:Expr} {g:TG} {v:V} {σ:St} {H:Hp} {Q:St→Hp→Prop} (h:PG X tg g) (q:g v σ H Q):wG X tg v σ H Q:=fun pins s u I r=>h pins s σ H v u Q I r q
theorem AV {tg:List Expr} {g:Ct} {v:List V} {σ:St} {H:Hp} {Q:St→Hp→Prop} (h:GO X tg g) (q:g v σ H Q):GK X tg v σ H Q:=fun pins s u I r=>h pins s σ H v u Q I r q
theorem ik {tg:Expr} {v:V} {σ:St} {H:Hp} {Q Q':St→Hp→Prop} (h:wG X tg v σ H Q) (i:∀σ H,Q σ H→Q' σ H):wG X tg v σ H Q':=fun pins s u I r=>bP (h pins s u I r) fun _ _ ⟨σ',H',I',q⟩=>⟨σ',H',I',i _ _ q⟩
theorem zJ {tg:List Expr} {v:List V} {σ:St} {H:Hp} {Q Q':St→Hp→Prop} (h:GK X tg v σ H Q) (i:∀σ H,Q σ H→Q' σ H):GK X tg v σ H Q':=fun pins s u I r=>bP (h pins s u I r) fun _ _ ⟨σ',H',I',q⟩=>⟨σ',H',I',i _ _ q⟩
def RG (X:Cx) (B:Base) (F:Hp) (Q:En→Prop):St→Hp→Prop:=fun σ' H'=>∃F' env',Rep X.K B F' H' σ' env'∧ar F F'∧Q env'
structure QG (X:Cx) (tg:Expr) (g:pS):Prop where
 of ::
 run:∀(B:Base) (σ:St) (F H:Hp) (env:En) (Q:En→Prop) (d:D) (v:V),Rep X.K B F H σ env→Den X.K F d v→g d env Q→wG X tg v σ H (RG X B F Q)
instance {X:Cx} {tg:Expr} {g:pS}:CoeFun (QG X tg g) (fun _=>∀(B:Base) (σ:St) (F H:Hp) (env:En) (Q:En→Prop) (d:D) (v:V),Rep X.K B F H σ env→Den X.K F d v→g d env Q→wG X tg v σ H (RG X B F Q)):=⟨QG.run⟩
structure GR (X:Cx) (tg:List Expr) (g:tR):Prop where
 of ::
 run:∀(B:Base) (σ:St) (F H:Hp) (env:En) (Q:En→Prop) (ds:List D) (vs:List V),Rep X.K B F H σ env→ao X.K F ds vs→g ds env Q→GK X tg vs σ H (RG X B F Q)
instance {X:Cx} {tg:List Expr} {g:tR}:CoeFun (GR X tg g) (fun _=>∀(B:Base) (σ:St) (F H:Hp) (env:En) (Q:En→Prop) (ds:List D) (vs:List V),Rep X.K B F H σ env→ao X.K F ds vs→g ds env Q→GK X tg vs σ H (RG X B F Q)):=⟨GR.run⟩
def aP (i:Nat):pS:=fun x env Q=>Q (env.set i (some (.d x)))
theorem aD {x:Str} (i:Nat) (hN:X.N.Nodup) (hi:X.N[i]?=some x:=by rfl) (hx:Loc X.env.scope x:=by first | exact Or.inl rfl | exact Or.inr rfl) (hf:X.fn x=true∨X.env.scope.names.lookup x=some .local:=by first | exact .inl rfl | exact .inr rfl):QG X (.Name x pos) (aP i):=by
 refine⟨?_⟩
 intro B σ F H env Q d v rp hd h pins s u I r
 refine CL (i:=i) hN hi hx hf pins s σ H v u _ I r ?_
 refine⟨F,_,rp.set hd ?_,ar.refl _,h⟩
 rw [I.len];exact (List.getElem?_eq_some_iff.mp hi).1
def iH:tR:=fun xs env Q=>xs=[]∧Q env
def aZ (g:pS) (gs:tR):tR:=fun xs env Q=>∃x r,xs=x :: r∧g x env fun env'=>gs r env' Q
theorem c9:GR X [] iH:=by
 refine⟨?_⟩
 intro B σ F H env Q ds vs rp hd h
 obtain⟨rfl,q⟩:=h
 simp only [ao] at hd
 exact AV Dc ⟨hd,F,env,rp,ar.refl _,q⟩
theorem aK {g:pS} {gs:tR} (h1:QG X e g) (h2:GR X es gs) (hs:(assignEach (e :: es) X.env).map (·.2)=assign e X.env :: (assignEach es X.env).map (·.2):=by rfl):GR X (e :: es) (aZ g gs):=by
 refine⟨?_⟩
 intro B σ F H env Q ds vs rp hd h
 obtain⟨x,r,rfl,q⟩:=h
 simp only [ao] at hd
 obtain⟨v,vr,rfl,a1,b1⟩:=hd
 refine AV (BJ wR Ej hs) ⟨v,vr,rfl,?_⟩
 refine ik (h1 B σ F H env _ x v rp a1 q) fun σ1 H1 ⟨F1,env1,r1,s1,q1⟩=>?_
 exact zJ (h2 B σ1 F1 H1 env1 Q r vr r1 (ao.mono s1 _ _ b1) q1) fun σ2 H2 ⟨F2,env2,r2,s2,q2⟩=>⟨F2,env2,r2,s1.trans s2,q2⟩
def iG (n:Nat) (gs:tR):pS:=fun x env Q=>∃xs,x=.tup xs∧xs.length=n∧gs xs env Q
theorem ft {k n:Nat} {gs:tR} (hc:X.calm=true) (h:GR X es gs) (hn:(assignEach es X.env).length=n:=by rfl) (hst:(assignEach es X.env).findIdx? (·.1)=none:=by rfl):QG X (.Tuple es k pos) (iG n gs):=by
 refine⟨?_⟩
 intro B σ F H env Q d v rp hd hq
 obtain⟨xs,rfl,hl,q⟩:=hq
 simp only [Den] at hd
 obtain⟨p,vs,rfl,hs,r⟩:=hd
 refine HK (FJ hc Ej hn hst) ⟨p,vs,rfl,ar.b8 rp.fh hs,by rw [← r.length];exact hl,?_⟩
 exact h B σ F H env Q xs vs rp r q
def lO (te:TD) (g:pS):bC:=fun D env=>te env fun x=>g x env D.nx
theorem ig {tg:Expr} {g:pS} (he:QE X e ta) (hg:QG X tg g) (hs:swapsWithSole [tg] e pos.line X.env=pure false:=by rfl) (hw:swappedStores [tg] e X.env=pure none:=by rfl)
  (h1:(assignEach [tg] X.env).map (·.2)=[assign tg X.env]:=by rfl):QS X (.Assign [tg] e pos) (lO ta g):=by
 refine⟨?_⟩
 intro B σ F H env D rp h
 refine dA (wb bh wR hs hw h1) ?_
 refine aE (he B σ F H env _ rp h) fun v H1 ⟨F1,d,r1,s1,d1,q1⟩=>?_
 exact ik (hg B σ F1 H1 env _ d v r1 d1 q1) fun σ2 H2 ⟨F2,env2,r2,s2,q2⟩=>⟨F2,env2,r2,q2⟩
def aX (i:Nat) (te:TD):bC:=fun D env=>te env fun x=>D.nx (env.set i (some (.d x)))
theorem aH {x:Str} {pos':Pos} (i:Nat) (hN:X.N.Nodup) (he:QE X e ta) (hi:X.N[i]?=some x:=by rfl) (hx:Loc X.env.scope x:=by first | exact Or.inl rfl | exact Or.inr rfl) (hs:swapsWith e (some (.Name x pos')) pos.line X.env=pure false:=by rfl)
  (hf:X.fn x=true∨X.env.scope.names.lookup x=some .local:=by first | exact .inl rfl | exact .inr rfl):QS X (.Assign [.Name x pos'] e pos) (aX i ta):=by
 refine⟨?_⟩
 intro B σ F H env D rp h pins s I
 refine tY (i:=i) hN hi hx bh hs hf pins s σ H _ I ?_
 refine aE (he B σ F H env _ rp h) fun v H1 ⟨F1,d,r1,s1,d1,q1⟩=>⟨F1,_,r1.set d1 ?_,q1⟩
 rw [I.len];exact (List.getElem?_eq_some_iff.mp hi).1
def gV (c:TB) (tb:bC):bC:=fun D env=>∃(I:En→Prop) (μ:En→Nat),I env∧∀env,I env→c env fun k=>if k=true then tb { D with nx:=fun e'=>I e'∧μ e' < μ env,ct:=fun e'=>I e'∧μ e' < μ env,bk:=D.nx } env else D.nx env
theorem kQ {body:List Stmt} (hp:PassesOwn (model X.prog X.w) X.A X.env X.xe) (hc:QT X c tA) (hb:mI X body t):QS X (.While c body [] pos) (gV tA t):=by
 refine⟨?_⟩
 intro B σ F H env D rp h
 obtain⟨I,μ,i0,turn⟩:=h
 refine dA (vR hp qi d9) ?_
 refine⟨fun m σ H=>∃F env,Rep X.K B F H σ env∧I env∧μ env=m,⟨_,F,env,rp,i0,rfl⟩,?_⟩
 rintro m σ1 H1 ⟨F1,env1,r1,i1,rfl⟩
 refine gk (hc B σ1 F1 H1 env1 _ r1 (turn env1 i1)) fun k H2 ⟨F2,r2,s2,q2⟩=>?_
 cases k with
 | false=>exact⟨F2,env1,r2,q2⟩
 | true =>
  refine⟨fun σ' H'=>∃F' env',Rep X.K B F' H' σ' env'∧I env'∧μ env' < μ env1,fun σ' H' ⟨F',env',r',i',l⟩=>⟨_,l,F',env',r',i',rfl⟩,?_⟩
  exact hb B σ1 F2 H2 env1 _ r2 q2
def turns (g:pS) (tb:bC) (Z:Ends3):List D→En→Prop
 | [],env=>Z.nx env
 | x :: xs,env=>g x env fun env'=>tb { Z with nx:=turns g tb Z xs,ct:=turns g tb Z xs,bk:=Z.nx } env'
def cT (z:Str):List D:=z.cps.toList.map fun c=>.str ⟨#[c]⟩
def cL:D→Option (List D)
 | .lst xs=>some xs
 | .tup xs=>some xs
 | .str z=>some (cT z)
 | _=>none
def Ho (z:Str):It:=⟨fun i _=>i < z.cps.size,fun i H v H'=>H'=H∧∃c,z.cps[i]?=some c∧v=.str ⟨#[c]⟩,fun i _=>z.cps.size≤i⟩
theorem uP {P:Program} {w:World} {K:PySem.W.Frag} {tg:Expr} (it:Addr) (z:Str) (t:Tok) (nm:String) (hn:["enumerate","zip","dict_itemiterator","dict_reverseitemiterator","odict_iterator","itertools.zip_longest","itertools.pairwise"].contains nm=false)
  (W:∀A:Around,A.handled=none→Walks P w A it [it] [it] z.cps.size (SignAt z) (fun i h=>h.IsStrIter it nm z t i)) (sf:∀(A:Around) (i:Nat) (s:Shared) (Q:Value→Shared→Prop) (E:Value→Shared→Prop),s.heap.IsStrIter it nm z t i→Q (.ref it) s→wpAny (model P w) A (pyIter (.ref it)) Q E s)
  (dn:∀(A:Around) (i:Nat) (s:Shared) (Q:Option Value→Shared→Prop) (E:Value→Shared→Prop),A.handled=none→s.heap.IsStrIter it nm z t i→z.cps[i]?=none→(∀h',Heap.ExtBut it s.heap h'→Q none { s with heap:=h' })→wpAny (model P w) A (pyNext (.ref it)) Q E s) :
  Turn P w K tg (Ho z) [it] it (fun i h=>h.IsStrIter it nm z t i) where
 mem:=by simp
 obj:=fun i h st b hb=>by
  have e:b=it:=by simpa using hb
  subst e
  obtain⟨o,e,c,d⟩:=st
  exact⟨o,e,fun v z=>by rw [d] at z;cases z⟩
 keep:=fun i h h' st k=>by
  obtain⟨o,e,c,d⟩:=st
  exact⟨o,k it (by simp) o e,c,d⟩
 item:=by
  intro X hP hw hK hc i pins s σ H E I hf st hg
  subst hP hw hK
  obtain⟨f0,f1,f2,f3,f4,f5⟩:=hf it (by simp)
  refine (W X.A (I.ok.hd hc)).item i s _ _ hg st fun v h' tk hv st' kk=>?_
  obtain⟨c,u,hc',rfl⟩:=hv
  have I1:Inv X pins σ H { s with heap:=h',toks:=tk }:=I.turned (fun b o hb e=>kk b o (by simpa using hb) e) f0 f1 f3 f4 f5
  obtain⟨o,e,c',d⟩:=id st'
  exact⟨_,rfl,vD (s:={ s with heap:=h',toks:=tk }) e c' d hn ⟨.str ⟨#[c]⟩,H,I1,⟨u,rfl⟩,⟨rfl,c,hc',rfl⟩,st',fun b hb=>(hf b hb).1⟩⟩
 done:=by
  intro X hP hw hK hc i pins s σ H E I hf st hg
  subst hP hw hK
  obtain⟨f0,f1,f2,f3,f4,f5⟩:=hf it (by simp)
  have hg':z.cps.size≤i:=hg
  exact dn X.A i s _ _ (I.ok.hd hc) st (by simp;exact hg') fun h' eb=>⟨rfl,I.turned (t':=s.toks) (fun b o hb e=>eb b o hb e) f0 f1 f3 f4 f5⟩
 self:=fun A i s Q E st h=>sf A i s Q E st h
def Ig (K:PySem.W.Frag) (tl:TE):TI:=fun σ H R=>tl σ H fun x H1=>(∃a,x=.ref a∧(((∃xs,fz K H1 a xs)∧R (IE K a) H1)∨((∃xs,iy K H1 a xs)∧R (Iu K a) H1)))∨∃z,x=.str z∧R (Ho z) H1
theorem Br {tg l:Expr} {tl:TE} (hl:PE X l tl):PI X tg l (Ig X.K tl):=by
 intro pins s σ H R I h
 refine bP (hl pins s σ H _ I h) fun v s1 ⟨x,H1,I1,r1,q1⟩=>?_
 rcases q1 with ⟨a,e,q⟩ | ⟨z,e,q⟩
 rotate_left
 ·subst e
  obtain⟨t,rfl⟩:=r1
  have fin:∀(o:Obj) (nm:String),(∀v,o.data≠.cell v)→Turn X.prog X.w X.K tg (Ho z) [s1.heap.objs.size] s1.heap.objs.size (fun i h=>h.IsStrIter s1.heap.objs.size nm z t i)→(s1.heap.push o).IsStrIter s1.heap.objs.size nm z t 0 →
    Iw X pins σ tg R (.ref s1.heap.objs.size) { s1 with heap:=s1.heap.push o }:=fun o nm hcell T st=>by
   refine⟨s1.heap.objs.size,[s1.heap.objs.size],_,_,H1,rfl,I1.kept (t':=s1.toks) fun b o e=>Heap.get?_push_of_some _ e,T,st,fun b hb=>?_,q⟩
   have e:b=s1.heap.objs.size:=by simpa using hb
   subst e
   exact I1.zh (Nat.le_refl _) (I1.hok.fresh (Nat.le_refl _))
  cases ha:z.cps.all (· < 128)
  ·exact wpAny_pyIter_wide ha (fin _ "str_iterator" (fun v e=>by cases e) (uP _ z t "str_iterator" (by decide) (fun A hA=>Walks.strWide hA _ z t) (fun A i s Q E st h=>wpAny_pyIter_striter_wide st h) (fun A i s Q E hh st hx h=>wpAny_pyNext_wide_end hh st hx h)) ⟨_,Heap.get?_push_size _ rfl,rfl,rfl⟩)
  ·exact wpAny_pyIter_ascii ha (fin _ "str_ascii_iterator" (fun v e=>by cases e) (uP _ z t "str_ascii_iterator" (by decide) (fun A hA=>Walks.strAscii hA _ z t) (fun A i s Q E st h=>wpAny_pyIter_striter_ascii st h) (fun A i s Q E hh st hx h=>wpAny_pyNext_ascii_end hh st hx h)) ⟨_,Heap.get?_push_size _ rfl,rfl,rfl⟩)
 subst e
 cases r1
 rcases q with ⟨⟨xs,hq⟩,q⟩ | ⟨⟨xs,hq⟩,q⟩
 ·obtain⟨its,rv,p,hz⟩:=I1.list hq
  refine wpAny_pyIter_list p.isList ?_
  refine⟨s1.heap.objs.size,[s1.heap.objs.size],_,_,H1,rfl,I1.kept (t':=s1.toks) fun b o e=>Heap.get?_push_of_some _ e,yN a _,⟨_,Heap.get?_push_size _ rfl,rfl,rfl⟩,fun b hb=>?_,q⟩
  have e:b=s1.heap.objs.size:=by simpa using hb
  subst e
  exact I1.zh (Nat.le_refl _) (I1.hok.fresh (Nat.le_refl _))
 ·obtain⟨its,rv,p,hz⟩:=I1.tuple hq
  refine wpAny_pyIter_tuple (show s1.heap.IsTuple a its.toArray from p) ?_
  refine⟨s1.heap.objs.size,[s1.heap.objs.size],_,_,H1,rfl,I1.kept (t':=s1.toks) fun b o e=>Heap.get?_push_of_some _ e,xH a _,⟨_,Heap.get?_push_size _ rfl,rfl,rfl⟩,fun b hb=>?_,q⟩
  have e:b=s1.heap.objs.size:=by simpa using hb
  subst e
  exact I1.zh (Nat.le_refl _) (I1.hok.fresh (Nat.le_refl _))
theorem xi {K:PySem.W.Frag} {F:Hp} (z:Str):ao K F (cT z) (z.cps.toList.map fun c=>V.str ⟨#[c]⟩):=by
 unfold cT
 induction z.cps.toList with
 | nil=>exact a7
 | cons c r ih=>exact aW gb ih
def lZ (te:TD) (g:pS) (tb:bC):bC:=fun D env=>te env fun x=>∃xs,cL x=some xs∧turns g tb D xs env
theorem drop_cons {α:Type} {xs:List α} {i:Nat} {x:α} (h:xs[i]?=some x):xs.drop i=x :: xs.drop (i + 1):=by
 obtain⟨hl,e⟩:=List.getElem?_eq_some_iff.mp h
 rw [List.drop_eq_getElem_cons hl,e]
theorem RS.same {B:Base} {G:Hp} {D:Ends3} (s:ar B.F G):(∀σ H,(RS X ⟨G,B.H,B.N,B.nb⟩ D).nx σ H→(RS X B D).nx σ H)∧(∀v H,(RS X ⟨G,B.H,B.N,B.nb⟩ D).rt v H→(RS X B D).rt v H) ∧
  (∀σ H,(RS X ⟨G,B.H,B.N,B.nb⟩ D).bk σ H→(RS X B D).bk σ H)∧(∀σ H,(RS X ⟨G,B.H,B.N,B.nb⟩ D).ct σ H→(RS X B D).ct σ H) :=
 ⟨fun _ _ ⟨F',env',r,q⟩=>⟨F',env',r.back s,q⟩,fun _ _ ⟨F',d,r,hd,q⟩=>⟨F',d,r.back s,hd,q⟩,fun _ _ ⟨F',env',r,q⟩=>⟨F',env',r.back s,q⟩,fun _ _ ⟨F',env',r,q⟩=>⟨F',env',r.back s,q⟩⟩
theorem iM {tg iter:Expr} {body:List Stmt} {g:pS} (hp:PassesOwn (model X.prog X.w) X.A X.env X.xe) (hc:X.calm=true) (hi:QE X iter ta) (hg:QG X tg g) (hb:mI X body t)
  (hs:∀x,foldedSetIterable iter X.env x=pure x:=by intro _;rfl):QS X (.For tg iter body [] pos) (lZ ta g t):=by
 refine⟨?_⟩
 intro B σ F H env D rp h
 refine dA (pw hp hc (Br bh) wR d9 hs) ?_
 refine aE (hi B σ F H env _ rp h) fun v H1 ⟨F1,d,r1,s1,d1,xs,hx,q1⟩=>?_
 have core:∀(a:Addr) (vs:List V) (J:It),ao X.K F1 xs vs→(∀(i:Nat) (x:V) (G H':Hp),ar F1 G→ar G H'→vs[i]?=some x→J.go i H')→(∀(i:Nat) (x:V) (G H':Hp) (y:V) (H'':Hp),ar F1 G→ar G H'→vs[i]?=some x→J.yld i H' y H''→H''=H'∧y=x) →
   (∀(G H':Hp),ar F1 G→ar G H'→J.stop vs.length H') →
   ∃W:Nat→Nat→St→Hp→Prop,(∃m,W 0 m σ H1)∧∀i m σ H,W i m σ H→(J.stop i H∧(RS X B D).nx σ H)∨(J.go i H∧∃N:St→Hp→Prop,(∀σ' H',N σ' H'→∃m',m' < m∧W (i + 1) m' σ' H') ∧
    ∀x H',J.yld i H x H'→wG X tg x σ H' fun σ2 H2=>wSs X body { RS X B D with nx:=N,ct:=N,bk:=(RS X B D).nx } σ2 H2):=by
  intro a vs J dl go yld stop
  have hlen:=dl.length
  refine⟨fun i m σ H=>m=vs.length - i∧i≤vs.length∧∃F env,Rep X.K ⟨F1,B.H,B.N,B.nb⟩ F H σ env∧turns g t D (xs.drop i) env,⟨vs.length,by simp,Nat.zero_le _,F1,env,r1.now,by simpa using q1⟩,?_⟩
  rintro i m σ2 H2 ⟨rfl,hi2,F2,env2,r2,q2⟩
  by_cases hlt:i < vs.length
  ·have hv:vs[i]?=some vs[i]:=by simp [hlt]
   obtain⟨dx,hdx,ddx⟩:=dl.GW hv
   rw [drop_cons hdx] at q2
   refine .inr ⟨go i _ F2 H2 r2.f0 r2.fh hv,fun σ' H'=>∃F env,Rep X.K ⟨F1,B.H,B.N,B.nb⟩ F H' σ' env∧turns g t D (xs.drop (i + 1)) env,fun σ' H' ⟨F',env',r',q'⟩=>⟨vs.length - (i + 1),by omega,rfl,by omega,F',env',r',q'⟩,fun y H' hy=>?_⟩
   obtain⟨rfl,rfl⟩:=yld i _ F2 H2 y H' r2.f0 r2.fh hv hy
   have st:=hg ⟨F1,B.H,B.N,B.nb⟩ σ2 F2 _ env2 _ dx _ r2 (Den.mono r2.f0 _ _ ddx) q2
   refine ik st fun σ3 H3 ⟨F3,env3,r3,s3,q3⟩=>?_
   have bd:=hb ⟨F1,B.H,B.N,B.nb⟩ σ3 F3 H3 env3 _ r3 q3
   obtain⟨z1,z2,z3,z4⟩:=RS.same (X:=X) (B:=B) (D:=D) (r1.f0)
   exact fR bd (fun _ _ q=>q) z2 z1 (fun _ _ q=>q)
  ·have e:i=vs.length:=by omega
   subst e
   rw [List.drop_eq_nil_of_le (by omega)] at q2
   exact .inl ⟨stop F2 H2 r2.f0 r2.fh,F2,env2,r2.back r1.f0,q2⟩
 cases d with
 | lst ys =>
  simp only [cL] at hx;cases hx
  simp only [Den] at d1
  obtain⟨a,vs,rfl,q,r⟩:=d1
  refine .inl ⟨a,rfl,.inl ⟨⟨vs,r1.fh.seq q⟩,core a vs (IE X.K a) r (fun i x G H' s1 s2 hv=>⟨vs,x,s2.seq (s1.seq q),hv⟩) (fun i x G H' y H'' s1 s2 hv hy=>?_) (fun G H' s1 s2=>⟨vs,s2.seq (s1.seq q),Nat.le_refl _⟩)⟩⟩
  obtain⟨e1,e2⟩:=hy
  have:=e2 vs (s2.seq (s1.seq q))
  rw [hv] at this
  exact⟨e1,(Option.some.inj this).symm⟩
 | tup ys =>
  simp only [cL] at hx;cases hx
  simp only [Den] at d1
  obtain⟨a,vs,rfl,q,r⟩:=d1
  refine .inl ⟨a,rfl,.inr ⟨⟨vs,ar.b8 r1.fh q⟩,core a vs (Iu X.K a) r (fun i x G H' s1 s2 hv=>⟨vs,x,ar.b8 s2 (ar.b8 s1 q),hv⟩) (fun i x G H' y H'' s1 s2 hv hy=>?_) (fun G H' s1 s2=>⟨vs,ar.b8 s2 (ar.b8 s1 q),Nat.le_refl _⟩)⟩⟩
  obtain⟨e1,e2⟩:=hy
  have:=e2 vs (ar.b8 s2 (ar.b8 s1 q))
  rw [hv] at this
  exact⟨e1,(Option.some.inj this).symm⟩
 | str z =>
  simp only [cL] at hx;cases hx
  simp only [Den] at d1
  subst d1
  refine .inr ⟨z,rfl,core 0 (z.cps.toList.map fun c=>V.str ⟨#[c]⟩) (Ho z) (xi z) (fun i x G H' s1 s2 hv=>?_) (fun i x G H' y H'' s1 s2 hv hy=>?_) (fun G H' s1 s2=>?_)⟩
  ·have:=(List.getElem?_eq_some_iff.mp hv).1
   show i < z.cps.size
   simpa using this
  ·obtain⟨e1,c,hc,rfl⟩:=hy
   rw [List.getElem?_map,Array.getElem?_toList,hc] at hv
   exact⟨e1,Option.some.inj hv⟩
  ·show z.cps.size≤_
   simp
 | _=>simp only [cL] at hx;cases hx
def a9 (lo:Int) (n:Nat):List D:=(List.range n).map fun (i:Nat)=>D.int (lo + (i:Int))
def jP (f:List D→(Int→Nat→Prop)→Prop) (ts:eI) (g:pS) (tb:bC):bC:=fun D env=>ts env fun xs=>f xs fun lo n=>turns g tb D (a9 lo n) env
def jK (xs:List D) (Q:Int→Nat→Prop):Prop:=match xs with
 | [.int j]=>(-(2 ^ 62)≤j∧j < 2 ^ 62)∧Q 0 j.toNat
 | _=>False
def CC (xs:List D) (Q:Int→Nat→Prop):Prop:=match xs with
 | [.int i,.int j]=>(-(2 ^ 62)≤i∧i < 2 ^ 62∧-(2 ^ 62)≤j∧j < 2 ^ 62)∧Q i (j - i).toNat
 | _=>False
theorem uK {tg:Expr} {body:List Stmt} {g:pS} (hg:QG X tg g) (hb:mI X body t) {B:Base} {D:Ends3} {lo:Int} {n:Nat} {σ:St} {F1 H1:Hp} {env:En} (r1:Rep X.K B F1 H1 σ env) (q1:turns g t D (a9 lo n) env) :
  ∃W:Nat→Nat→St→Hp→Prop,(∃m,W 0 m σ H1)∧∀i m σ H,W i m σ H→((El lo n).stop i H∧(RS X B D).nx σ H)∨((El lo n).go i H∧∃N:St→Hp→Prop,(∀σ' H',N σ' H'→∃m',m' < m∧W (i + 1) m' σ' H') ∧
    ∀x H',(El lo n).yld i H x H'→wG X tg x σ H' fun σ2 H2=>wSs X body { RS X B D with nx:=N,ct:=N,bk:=(RS X B D).nx } σ2 H2):=by
 have hl:(a9 lo n).length=n:=by simp [a9]
 refine⟨fun i m σ H=>m=n - i∧i≤n∧∃F env,Rep X.K B F H σ env∧turns g t D ((a9 lo n).drop i) env,⟨n,by simp,Nat.zero_le _,F1,env,r1,by simpa using q1⟩,?_⟩
 rintro i m σ2 H2 ⟨rfl,hi2,F2,env2,r2,q2⟩
 by_cases hlt:i < n
 ·have hdx:(a9 lo n)[i]?=some (L3.D.int (lo + (i:Int))):=by simp [a9,hlt]
  rw [drop_cons hdx] at q2
  refine .inr ⟨hlt,fun σ' H'=>∃F env,Rep X.K B F H' σ' env∧turns g t D ((a9 lo n).drop (i + 1)) env,fun σ' H' ⟨F',env',r',q'⟩=>⟨n - (i + 1),by omega,rfl,by omega,F',env',r',q'⟩,fun y H' hy=>?_⟩
  obtain⟨rfl,rfl⟩:=hy
  refine ik (hg B σ2 F2 _ env2 _ _ _ r2 bf q2) fun σ3 H3 ⟨F3,env3,r3,s3,q3⟩=>?_
  exact fR (hb B σ3 F3 H3 env3 _ r3 q3) (fun _ _ q=>q) (fun _ _ q=>q) (fun _ _ q=>q) (fun _ _ q=>q)
 ·have e:i=n:=by omega
  subst e
  rw [List.drop_eq_nil_of_le (by omega)] at q2
  exact .inl ⟨Nat.le_refl _,F2,env2,r2,q2⟩
theorem kJ {tg:Expr} {body:List Stmt} {g:pS} {p:Pos} {pos2:Pos} (hp:PassesOwn (model X.prog X.w) X.A X.env X.xe) (hc:X.calm=true) (hgl:Gl X "range") (hm:X.mg "range" = none) (ha:QA X [a] ts) (hg:QG X tg g) (hb:mI X body t)
  (hst:starEach [a] X.env=[(false,eval a X.env)]:=by rfl) (hs:∀x,foldedSetIterable (.Call (.Name "range" p) [a] [] pos2) X.env x=pure x:=by intro _;rfl):QS X (.For tg (.Call (.Name "range" p) [a] [] pos2) body [] pos) (jP jK ts g t):=by
 refine⟨?_⟩
 intro B σ F H env D rp h
 refine dA (pw hp hc (jz hgl hm js hst) wR d9 hs) ?_
 refine cg (ha B σ F H env _ rp h) fun vs H1 ⟨F1,ds,r1,s1,d1,q1⟩=>?_
 dsimp only at q1;unfold jK at q1
 split at q1
 ·simp only [ao,Den] at d1
  obtain⟨v,r,rfl,rfl,rfl⟩:=d1
  exact⟨_,rfl,q1.1.1,q1.1.2,uK hg hb r1 q1.2⟩
 ·exact q1.elim
theorem BO {tg:Expr} {body:List Stmt} {g:pS} {p:Pos} {pos2:Pos} (hp:PassesOwn (model X.prog X.w) X.A X.env X.xe) (hc:X.calm=true) (hgl:Gl X "range") (hm:X.mg "range" = none) (ha:QA X [a,b] ts) (hg:QG X tg g) (hb:mI X body t)
  (hst:starEach [a,b] X.env=[(false,eval a X.env),(false,eval b X.env)]:=by rfl) (hst2:starEach [b] X.env=[(false,eval b X.env)]:=by rfl) (hs:∀x,foldedSetIterable (.Call (.Name "range" p) [a,b] [] pos2) X.env x=pure x:=by intro _;rfl) :
  QS X (.For tg (.Call (.Name "range" p) [a,b] [] pos2) body [] pos) (jP CC ts g t):=by
 refine⟨?_⟩
 intro B σ F H env D rp h
 refine dA (pw hp hc (zg hgl hm js hst hst2) wR d9 hs) ?_
 refine cg (ha B σ F H env _ rp h) fun vs H1 ⟨F1,ds,r1,s1,d1,q1⟩=>?_
 dsimp only at q1;unfold CC at q1
 split at q1
 ·simp only [ao,Den] at d1
  obtain⟨v,r,rfl,rfl,v',r',rfl,rfl,rfl⟩:=d1
  exact⟨_,_,rfl,q1.1,uK hg hb r1 q1.2⟩
 ·exact q1.elim
def RF (X:Cx) (B:Base) (σ:St) (env:En) (F:Hp) (Q:List D→Prop):VK:=fun v H'=>∃F' H1 p vs ds,v=.ref p∧H1 p=none∧H'=upd H1 p (.lst vs)∧Rep X.K B F' H1 σ env∧ar F F'∧ao X.K F' ds vs∧Q ds
structure QF (X:Cx) (e:Expr) (t:eI):Prop where
 of ::
 run:∀(B:Base) (σ:St) (F H:Hp) (env:En) (Q:List D→Prop),Rep X.K B F H σ env→t env Q→wE X e σ H (RF X B σ env F Q)
instance {X:Cx} {e:Expr} {t:eI}:CoeFun (QF X e t) (fun _=>∀(B:Base) (σ:St) (F H:Hp) (env:En) (Q:List D→Prop),Rep X.K B F H σ env→t env Q→wE X e σ H (RF X B σ env F Q)):=⟨QF.run⟩
def vG (ts:eI):eI:=fun env Q=>ts env fun xs=>xs.length≤sizeLine∧Q xs
theorem rM (h:QA X es ts):QF X (.List es pos) (vG ts):=by
 refine⟨?_⟩
 intro B σ F H env Q rp hq
 refine bD (wj js) ?_
 exact cg (h B σ F H env _ rp hq) fun vs H1 ⟨F1,ds,r1,s1,d1,z,q1⟩=>⟨by rw [← d1.length];exact z,fun p hp=>⟨F1,H1,p,vs,ds,rfl,hp,rfl,r1,s1,d1,q1⟩⟩
def c7 (i:Nat) (ts:eI):bC:=fun D env=>ts env fun xs=>D.nx (env.set i (some (.own xs)))
theorem fL {x:Str} {pos':Pos} (i:Nat) (hN:X.N.Nodup) (he:QF X e ts) (hi:X.N[i]?=some x:=by rfl) (hx:Loc X.env.scope x:=by first | exact Or.inl rfl | exact Or.inr rfl) (hs:swapsWith e (some (.Name x pos')) pos.line X.env=pure false:=by rfl)
  (hf:X.fn x=true∨X.env.scope.names.lookup x=some .local:=by first | exact .inl rfl | exact .inr rfl):QS X (.Assign [.Name x pos'] e pos) (c7 i ts):=by
 refine⟨?_⟩
 intro B σ F H env D rp h pins s I
 refine tY (i:=i) hN hi hx bh hs hf pins s σ H _ I ?_
 refine aE (he B σ F H env _ rp h) fun v H' ⟨F1,H1,p,vs,ds,e1,hp,e2,r1,s1,d1,q1⟩=>?_
 subst e1 e2
 refine⟨F1,_,r1.By hp d1 ?_,q1⟩
 rw [I.len];exact (List.getElem?_eq_some_iff.mp hi).1
def ir (i:Nat) (te:TD):bC:=fun D env=>∃xs,env[i]?=some (some (.own xs))∧xs.length < sizeLine∧te env fun x=>D.nx (env.set i (some (.own (xs ++ [x]))))
theorem l4 {x:Str} {px apos cpos:Pos} (i:Nat) (he:QE X e ta) (hN:X.N[i]?=some x:=by rfl) (hv:xS X.env.scope x:=by first | exact Or.inl rfl | exact Or.inr (Or.inl rfl) | exact Or.inr (Or.inr rfl)) (hd:(x == ("__debug__" : Str))=false:=by decide) (hcd:(x == ("__classdict__" : Str))=false:=by decide)
  (hbase:attributeBase (.Name x px) "append" X.env (eval (.Name x px) X.env)=eval (.Name x px) X.env:=by rfl)
  (hfew:((backTo cpos (starEach [e] X.env)).all (fun x=>!x.1) && (backToKw cpos (keywordEach [] X.env)).all (fun x=>x.1.isSome)
   && decide (([e]:List Expr).length + ([]:List Keyword).length + (if ([]:List Keyword).isEmpty then 0 else 1) < 30))=true:=by rfl)
  (hline:(apos.endLine == cpos.line)=true:=by rfl) (hst:starEach [e] X.env=(false,eval e X.env) :: starEach [] X.env:=by exact aR rfl) (hplain:(backTo cpos (starEach ([]:List Expr) X.env)).any (·.1)=false:=by rfl)
  (hs:swapsWith (.Call (.Attribute (.Name x px) "append" apos) [e] [] cpos) none pos.line X.env=pure false:=by rfl) :
  QS X (.Expr (.Call (.Attribute (.Name x px) "append" apos) [e] [] cpos) pos) (ir i ta):=by
 refine⟨?_⟩
 intro B σ F H env D rp h
 refine dA (sA (uU PySem.F.plainAttrs_list PySem.F.slot_list_append PySem.F.type_list_append rh (eF hN hv hd hcd) (dQ bh gH hst) hbase hfew hline hst hplain) hs) ?_
 obtain⟨xs,hx,hl,h⟩:=h
 obtain⟨p,vs,h1,h2,h3,h4,h5⟩:=rp.ov i xs hx
 refine⟨.ref p,h1,.inl ⟨rfl,vs,fz.of h2⟩,?_⟩
 refine aE (he B σ F H env _ rp h) fun y H1 ⟨F1,d,r1,s1,d1,q1⟩=>?_
 obtain⟨p',vs',g1,g2,g3,g4,g5⟩:=r1.ov i xs hx
 rw [h1] at g1;cases g1
 exact⟨p,vs',y,rfl,rfl,g2,by rw [← g5.length];exact hl,F1,_,r1.change hx h1 (g5.append (aW d1 a7)),q1⟩
end
end L2.L3
namespace L2.L3
open PySem PySem.Spec PyProof.Rows
abbrev Fw:=List D→(D→Prop)→Prop
def DI (K:PySem.W.Frag) (f:Fw):Sp:=fun vs H Q _=>∃(F:Hp) (ds:List D) (P:D→Prop),ar F H∧ao K F ds vs∧f ds P ∧
 ∀(d:D) (v:V) (F' H':Hp),ar F F'→ar H H'→ar F' H'→(∀p,H p≠none→F p=none→F' p=none)→Den K F' d v→P d→Q v H'
structure Known (P:Program) (w:World) (K:PySem.W.Frag) (mg:Str→Option Value) (base:Heap) (k:Nat) (x:Str) (f:Fw):Prop where
 ex:∃(fa:Addr) (fd:FuncData) (ps:List Str),l7 P w K mg base qD k fa fd ps (DI K f)∧mg x=some (.ref fa)∧PySem.W.keepIn K (.ref fa)=true∧Binds K fd ps []
def aJ (N:List Str) (ds:List D):En:=ds.map (fun d=>some (Lo.d d)) ++ List.replicate (N.length - ds.length) none
section
variable {X:Cx} {e:Expr} {es:List Expr} {ts:eI} {p pos:Pos} {x:Str} {k:Nat} {f:Fw}
theorem aL (h:Known X.prog X.w X.K X.mg X.base k x f) (hr:cY k X.A) (ha:QA X (e :: es) ts) (hg:Gl X x:=by rfl) (hdb:(x == ("__debug__" : Str))=false:=by decide)
  (he:starEach (e :: es) X.env=(false,eval e X.env) :: starEach es X.env:=by exact aR rfl) (hpl:(backTo pos (starEach es X.env)).any (·.1)=false:=by rfl):QE X (.Call (.Name x p) (e :: es) [] pos) (az f ts):=by
 refine⟨?_⟩
 intro B σ F H env Q rp hq
 obtain⟨fa,fd,ps,G,hm,hk,hb⟩:=h.ex
 refine bD (yp G hr hg hm hk hb .nil zO js hdb he hpl) ?_
 refine cg (ha B σ F H env _ rp hq) fun vs H1 ⟨F1,ds,r1,s1,d1,hf⟩=>?_
 rw [List.append_nil]
 exact⟨F1,ds,Q,r1.fh,d1,hf,fun d v F' H' a b c n hd q=>⟨F',d,r1.ext a c b n,s1.trans a,hd,q⟩⟩
end
theorem fS {K:PySem.W.Frag} {F H:Hp} {N:List Str} {ds:List D} {vs:List V} (fh:ar F H) (hd:ao K F ds vs) :
  Rep K ⟨F,H,fun p=>H p≠none∧F p=none,fun _ h=>h.1⟩ F H (start N vs) (aJ N ds):=by
 have noown:∀(i:Nat) ys,(aJ N ds)[i]?=some (some (.own ys))→False:=fun i ys q=>by
  unfold aJ at q
  by_cases hi:i < ds.length
  ·rw [List.getElem?_append_left (by simpa using hi),List.getElem?_map] at q
   rw [List.getElem?_eq_getElem hi] at q
   cases q
  ·rw [List.getElem?_append_right (by simpa using hi),List.getElem?_replicate] at q
   split at q <;> cases q
 have nodic:∀(i:Nat) ys,(aJ N ds)[i]?=some (some (.dic ys))→False:=fun i ys q=>by
  unfold aJ at q
  by_cases hi:i < ds.length
  ·rw [List.getElem?_append_left (by simpa using hi),List.getElem?_map] at q
   rw [List.getElem?_eq_getElem hi] at q
   cases q
  ·rw [List.getElem?_append_right (by simpa using hi),List.getElem?_replicate] at q
   split at q <;> cases q
 refine⟨ar.refl _,fh,ar.refl _,fun p h=>h.2,fun i x q=>?_,fun i ys q=>(noown i ys q).elim,fun i j xs ys p _ q=>(noown i xs q).elim,fun i ys q=>(nodic i ys q).elim,fun i j xs ys p _ q=>(nodic i xs q).elim⟩
 unfold aJ at q
 by_cases hi:i < ds.length
 ·rw [List.getElem?_append_left (by simpa using hi),List.getElem?_map] at q
  rw [List.getElem?_eq_getElem hi] at q
  cases q
  obtain⟨v,h1,h2⟩:=hd.get (List.getElem?_eq_getElem hi)
  refine⟨v,?_,h2⟩
  unfold start
  rw [List.getElem?_append_left (by rw [List.length_map,← hd.length];exact hi),List.getElem?_map,h1]
  rfl
 ·rw [List.getElem?_append_right (by simpa using hi),List.getElem?_replicate] at q
  split at q <;> cases q
section
variable {P:Program} {w:World} {K:PySem.W.Frag} {mg:Str→Option Value} {base:Heap}
theorem mX.CA {x qual:Str} {st:Stmt} {fa:Addr} {fd:FuncData} {N ps:List Str} {k:Nat} {f:Fw} (F:mX K x qual st fa fd) (S:aG N ps (ak st))
  (hl:∀ds Q,f ds Q→ds.length=ps.length)
  (hbody:∀(cdv:Value) (A:Around) (outer:List Env) (s:Shared) (H:Hp) (E:XK),cY k (A.deeper (envOfC qual (ak st) s.heap.objs.size fa cdv)) →
   ∃t,mI (fY qD P w K mg base N qual (ak st) fa cdv A outer s H E).nF (a8 st) t∧∀ds (Q:D→Prop),f ds Q→t { nx:=fun _=>Q .non,rt:=Q } (aJ N ds)) :
  l7 P w K mg base qD (k + 1) fa fd ps (DI K f):=by
 refine F.ok S (fun vs H Q E h=>?_) (fun cdv A outer s H vs Q E hr h=>?_)
 ·obtain⟨F0,ds,P,_,hd,hf,_⟩:=h
  rw [← hd.length];exact hl ds _ hf
 ·obtain⟨F0,ds,P,fh,hd,hf,kk⟩:=h
  obtain⟨t,ht,hq⟩:=hbody cdv A outer s H E hr
  refine⟨_,d9,?_⟩
  have core:=ht _ (start N vs) F0 H (aJ N ds) _ (fS fh hd) (hq ds P hf)
  refine fR core (fun σ' H' ⟨F',env',r,q⟩=>?_) (fun v H' ⟨F',d',r,dd,q⟩=>?_) (fun _ _ ⟨_,_,_,q⟩=>q) (fun _ _ ⟨_,_,_,q⟩=>q)
  ·exact kk .non .non F' H' r.f0 r.h0 r.fh (fun p h1 h2=>r.nf p ⟨h1,h2⟩) jx q
  ·exact kk d' v F' H' r.f0 r.h0 r.fh (fun p h1 h2=>r.nf p ⟨h1,h2⟩) dd q
theorem mX.known {x qual:Str} {st:Stmt} {fa:Addr} {fd:FuncData} {N ps:List Str} {k:Nat} {f:Fw} (F:mX K x qual st fa fd) (S:aG N ps (ak st)) (hmg:mg x=some (.ref fa)) (hb:Binds K fd ps [])
  (hl:∀ds Q,f ds Q→ds.length=ps.length)
  (hbody:∀(cdv:Value) (A:Around) (outer:List Env) (s:Shared) (H:Hp) (E:XK),cY k (A.deeper (envOfC qual (ak st) s.heap.objs.size fa cdv)) →
   ∃t,mI (fY qD P w K mg base N qual (ak st) fa cdv A outer s H E).nF (a8 st) t∧∀ds (Q:D→Prop),f ds Q→t { nx:=fun _=>Q .non,rt:=Q } (aJ N ds)) :
  Known P w K mg base (k + 1) x f:=⟨fa,fd,ps,mX.CA F S hl hbody,hmg,F.kp,hb⟩
def zy (n:Nat):Fw:=fun ds Q=>∃ns:List Int,ds=[.lst (ns.map D.int)]∧ns.length≤n∧Q (.bl true)
theorem Fs {K:PySem.W.Frag} {H:Hp} {a:Addr} {ns:List Int} {n:Nat} (hl:ns.length≤n) (hS:fz K H a (ns.map V.int)):DI K (zy n) [.ref a] H (fun v _=>v=.bl true) fun _ _ _=>False:=by
 refine⟨H,[.lst (ns.map D.int)],fun d=>d=.bl true,ar.refl _,aW (h9 hS (qM ns)) a7,⟨ns,rfl,hl,rfl⟩,fun d v F' H' _ _ _ _ hd q=>?_⟩
 subst q
 simpa only [Den] using hd
end
section
variable {X:Cx} {a b c e:Expr} {es:List Expr} {ta tb tc:TD} {ts:eI} {pos:Pos} {st:Stmt} {sts:List Stmt} {t u:bC}
def fG (i:Nat) (t:bC):bC:=fun D env=>∃xs,env[i]?=some (some (.own xs))∧t D (env.set i (some (.d (.lst xs))))
theorem gP (i:Nat) (h:QS X st t):QS X st (fG i t):=by
 refine⟨?_⟩
 intro B σ F H env D rp hq
 obtain⟨xs,hx,q⟩:=hq
 obtain⟨F',s',r'⟩:=rp.freeze hx
 exact h B σ F' H _ D r' q
def de (i:Nat) (tj:TD):TD:=fun env Q=>∃xs,env[i]?=some (some (.own xs))∧tj env fun y=>∃j v,y=.int j∧jN xs j=some v∧Q v
theorem dM {x:Str} {px:Pos} (i:Nat) (hb:QE X b tb) (hs:kP b) (hN:X.N[i]?=some x:=by rfl) (hv:xS X.env.scope x:=by first | exact Or.inl rfl | exact Or.inr (Or.inl rfl) | exact Or.inr (Or.inr rfl)) (hd:(x == ("__debug__" : Str))=false:=by decide)
  (hcd:(x == ("__classdict__" : Str))=false:=by decide):QE X (.Subscript (.Name x px) b pos) (de i tb):=by
 refine⟨?_⟩
 intro B σ F H env Q rp h
 refine bD (yi yf (eF hN hv hd hcd) bh hs) ?_
 obtain⟨xs,hx,h⟩:=h
 obtain⟨p,vs,h1,h2,h3,h4,h5⟩:=rp.ov i xs hx
 refine⟨.ref p,h1,?_⟩
 refine aE (hb B σ F H env _ rp h) fun y H1 ⟨F1,d,r1,s1,d1,j,v,hj,hv,q1⟩=>?_
 subst hj
 simp only [Den] at d1
 obtain⟨p',vs',g1,g2,g3,g4,g5⟩:=r1.ov i xs hx
 rw [h1] at g1;cases g1
 obtain⟨w,hw,dw⟩:=g5.jN hv
 exact⟨p,vs',j,w,rfl,d1,fz.of g2,hw,F1,v,r1,s1,dw,q1⟩
def xf (i:Nat) (tj te:TD):bC:=fun D env=>te env fun x=>∃xs,env[i]?=some (some (.own xs))∧tj env fun y=>∃(j:Int) (k:Nat),y=.int j∧r9 xs.length j=some k∧D.nx (env.set i (some (.own (xs.set k x))))
theorem xp {x:Str} {px p2:Pos} (i:Nat) (hb:QE X b tb) (he:QE X e ta) (hN:X.N[i]?=some x:=by rfl) (hv:xS X.env.scope x:=by first | exact Or.inl rfl | exact Or.inr (Or.inl rfl) | exact Or.inr (Or.inr rfl)) (hd:(x == ("__debug__" : Str))=false:=by decide)
  (hcd:(x == ("__classdict__" : Str))=false:=by decide) (hs:swapsWithSole [.Subscript (.Name x px) b p2] e pos.line X.env=pure false:=by rfl) (hw:swappedStores [.Subscript (.Name x px) b p2] e X.env=pure none:=by rfl)
  (h1:(assignEach [.Subscript (.Name x px) b p2] X.env).map (·.2)=[assign (.Subscript (.Name x px) b p2) X.env]:=by rfl)
  (ha:∀v,assign (.Subscript (.Name x px) b p2) X.env v=(do
   let ov ← holding [v] (eval (.Name x px) X.env)
   let iv ← holding [v,ov] (eval b X.env)
   standAt p2
   holding [v,ov,iv] (setItem ov iv v)
   release [v,ov,iv] []):=by intro _;rfl):QS X (.Assign [.Subscript (.Name x px) b p2] e pos) (xf i tb ta):=by
 refine⟨?_⟩
 intro B σ F H env D rp h
 refine dA (wb bh (Av (eF hN hv hd hcd) bh set_list ha) hs hw h1) ?_
 refine aE (he B σ F H env _ rp h) fun y H1 ⟨F1,d,r1,s1,d1,xs,hx,q1⟩=>?_
 obtain⟨p,vs,g1,g2,g3,g4,g5⟩:=r1.ov i xs hx
 refine⟨.ref p,g1,?_⟩
 refine aE (hb B σ F1 H1 env _ r1 q1) fun z H2 ⟨F2,d2,r2,s2,dd2,j,k,hj,hk,q2⟩=>?_
 subst hj
 simp only [Den] at dd2
 obtain⟨p',vs',e1,e2,e3,e4,e5⟩:=r2.ov i xs hx
 rw [g1] at e1;cases e1
 exact⟨p,vs',j,k,rfl,dd2,e2,by rw [← e5.length];exact hk,F2,_,r2.change hx g1 (e5.set (Den.mono s2 _ _ d1) k),q2⟩
end
end L2.L3
namespace L2.L3
open PySem PySem.Spec PyProof.Rows
def gL (names:List (Str×NameKind)) (cells:List (Str×Addr)) (acc:List (Str×Addr)):List (Str×Addr):=match names with
 | []=>acc
 | (n,k) :: r=>if k=.free then (match cells.lookup n with | some c=>gL r cells ((n,c) :: acc) | none=>gL r cells acc) else gL r cells acc
theorem fy {env:Env}:∀(names:List (Str×NameKind)) (acc:List (Str×Addr)),(∀y∈names,y.2=.free→∃c,env.cells.lookup y.1=some c) →
  (forIn names acc fun (x:Str×NameKind) r=>if (x.2 == NameKind.free)=true then (do let a ← cellOf env x.1;pure (ForInStep.yield ((x.1,a) :: r))) else pure (ForInStep.yield r):Sem (List (Str×Addr)))=pure (gL names env.cells acc)
 | [],acc,_=>rfl
 | (n,k) :: r,acc,h=>by
  rw [List.forIn_cons]
  by_cases hk:k=.free
  ·subst hk
   obtain⟨c,hc⟩:=h (n,.free) List.mem_cons_self rfl
   have hc':env.cells.lookup n=some c:=hc
   have ih:=fy r ((n,c) :: acc) fun y hy=>h y (List.mem_cons_of_mem _ hy)
   simp only [beq_self_eq_true,if_true,cellOf,hc',gL]
   exact ih
  ·have ih:=fy r acc fun y hy=>h y (List.mem_cons_of_mem _ hy)
   have hb:(k == NameKind.free)=false:=by simpa using hk
   simp only [hb,Bool.false_eq_true,if_false,gL,if_neg hk]
   exact ih
theorem pX {scope:Scope} {env:Env} (h:∀y∈scope.names,y.2=.free→∃c,env.cells.lookup y.1=some c):closureFor scope env=pure (gL scope.names env.cells []):=by
 have e:=fy (env:=env) scope.names [] h
 have e2:closureFor scope env=((forIn scope.names ([]:List (Str×Addr)) fun (x:Str×NameKind) r=>if (x.2 == NameKind.free)=true then (do let a ← cellOf env x.1;pure (ForInStep.yield ((x.1,a) :: r))) else pure (ForInStep.yield r)) >>= fun cs=>pure cs):=rfl
 rw [e2,e];rfl
theorem ja {cells:List (Str×Addr)}:∀(names:List (Str×NameKind)) (acc:List (Str×Addr)),(∀x c,acc.lookup x=some c→cells.lookup x=some c)→∀x c,(gL names cells acc).lookup x=some c→cells.lookup x=some c
 | [],acc,h,x,c,q=>h x c q
 | (n,k) :: r,acc,h,x,c,q=>by
  unfold gL at q
  split at q
  ·split at q
   ·rename_i c' e
    refine ja r _ (fun y d w=>?_) x c q
    rw [List.lookup_cons] at w
    split at w
    ·rename_i z
     have:y=n:=by simpa using z
     subst this
     cases w;exact e
    ·exact h y d w
   ·exact ja r _ h x c q
  ·exact ja r _ h x c q
theorem lJ {cells:List (Str×Addr)}:∀(names:List (Str×NameKind)) (acc:List (Str×Addr)) (x:Str),(acc.lookup x).isSome=true→((gL names cells acc).lookup x).isSome=true
 | [],acc,x,q=>q
 | (n,k) :: r,acc,x,q=>by
  unfold gL
  split
  ·split
   ·refine lJ r _ x ?_
    rw [List.lookup_cons]
    split
    ·rfl
    ·exact q
   ·exact lJ r _ x q
  ·exact lJ r _ x q
theorem ku {cells:List (Str×Addr)}:∀(names:List (Str×NameKind)) (acc:List (Str×Addr)) (x:Str),(x,NameKind.free)∈names→(cells.lookup x).isSome=true→((gL names cells acc).lookup x).isSome=true
 | [],acc,x,h,_=>by simp at h
 | (n,k) :: r,acc,x,h,q=>by
  rcases List.mem_cons.mp h with e | h
  ·cases e
   unfold gL
   rw [if_pos rfl]
   split
   ·exact lJ r _ _ (by rw [List.lookup_cons];simp)
   ·rename_i e;rw [e] at q;cases q
  ·unfold gL
   split
   ·split <;> exact ku r _ x h q
   ·exact ku r _ x h q
def bH (X:Cx) (N':List Str) (scope:Scope) (C:Addr) (s:Shared) (H:Hp) (fp:List Addr) (pins:List (Addr×Obj)):Cx :=
 { X with N:=N',s₀:=s,H₀:=H,env:=compEnvC scope (gL scope.names X.env.cells []) C X.env,outer:=X.stack,stack:=X.stack,ex:=fp,fn:=fun _=>false,pn:=X.pn ++ pins,xe:=fun _ _=>False }
structure cn (X:Cx) (N':List Str) (nt:Nat) (ix:List Nat) (scope:Scope):Prop where
 kind:scope.kind=.function
 nocell:∀x∈scope.names,x.2≠.cell
 names:∀x∈scope.names,x.2=.local→scope.names.lookup x.1=some .local
 free:∀x∈scope.names,x.2=.free→X.env.scope.names.lookup x.1=some .cell
 caps:∀(j:Nat) (i:Nat),ix[j]?=some i→∃x,N'[nt + j]?=some x∧X.N[i]?=some x∧(x,NameKind.free)∈scope.names∧(relabel scope X.env).names.lookup x=some .cell
 len:N'.length=nt + ix.length
section
variable {prog:Program} {w:World} {A:Around} {R:Result→Shared→Prop} {s:Shared}
theorem tL {elt target iter:Expr} {ifs:List Expr} {scope:Scope} {pos:Pos} {it acc:Value} {env:Env} (I:Nat→Shared→Prop)
  (turn:∀n s,I n s→wpAny (model prog w) A (pyNext it) (fun r s₁=>match r with
   | none=>R (.ok .next) s₁
   | some v=>wpAny (model prog w) A (letOwnedTupleGo target it v) (fun _ s₁'=>wpAny (model prog w) A (assign target env v) (fun _ s₂ =>
     wpAny (model prog w) A (forIn ifs true fun c r=>if r=true then do let ok ← isTrue c env (eval c env);pure (ForInStep.yield ok) else pure (ForInStep.yield r)) (fun ok s₃ =>
      if ok=true then wpAny (model prog w) A (eval elt env) (fun x s₄ =>
       wpAny (model prog w) A (call (.builtin "list.append") [acc,x]) (fun _ s₅=>∃m,m < n∧I m s₅) (fun _ _=>False) s₄) (fun _ _=>False) s₃
      else ∃m,m < n∧I m s₃) (fun _ _=>False) s₂) (fun _ _=>False) s₁') (fun _ _=>False) s₁) (fun _ _=>False) s)
  (n:Nat) (h:I n s) :
  codeAny (model prog w) A (.compLoop (.ListComp elt [⟨target,iter,ifs,0⟩] scope pos) 0 it acc env) R s:=by
 refine codeAny_loop rfl I (fun n s hI=>?_) n h
 show wpAny _ A ((compTurn (.ListComp elt [⟨target,iter,ifs,0⟩] scope pos) 0 it acc env).onRaise (fun x=>do noteFrame x env;theTreesLotGoes x)) _ _ s
 refine wpAny_noted ?_
 rw [compTurn_list]
 refine wpAny_bind (wpAny_standAt (wpAny_bind (wpAny_mono (turn n s hI) (fun r s₁ h₁=>?_) fun _ _ h'=>h'.elim)))
 cases r with
 | none=>exact wpAny_pure h₁
 | some v =>
  refine wpAny_bind (wpAny_mono h₁ (fun _ s₁' h₁'=>?_) fun _ _ h'=>h'.elim)
  refine wpAny_bind (wpAny_mono h₁' (fun _ s₂ h₂=>wpAny_bind (wpAny_mono h₂ (fun ok s₃ h₃=>?_) fun _ _ h'=>h'.elim)) fun _ _ h'=>h'.elim)
  cases ok with
  | false=>exact wpAny_pure ⟨rfl,h₃⟩
  | true =>
   exact wpAny_bind (wpAny_bind (wpAny_mono h₃ (fun x s₄ h₄=>wpAny_bind (wpAny_mono h₄ (fun _ s₅ h₅=>wpAny_pure (wpAny_pure ⟨rfl,h₅⟩)) fun _ _ h'=>h'.elim)) fun _ _ h'=>h'.elim))
end
def uZ (nt:Nat) (ix:List Nat) (σ:St):St:=List.replicate nt none ++ ix.map fun i=>(σ[i]?).join
theorem lookup_mem {α β:Type} [BEq α] [LawfulBEq α] {l:List (α×β)} {x:α} {y:β} (h:l.lookup x=some y):(x,y)∈l:=by
 induction l with
 | nil=>simp at h
 | cons p r ih =>
  obtain⟨a,b⟩:=p
  rw [List.lookup_cons] at h
  split at h
  ·rename_i e
   have:x=a:=by simpa using e
   subst this;cases h;exact List.mem_cons_self
  ·exact List.mem_cons_of_mem _ (ih h)
section
variable {X:Cx} {pins:List (Addr×Obj)} {σ:St} {H:Hp} {s:Shared} {N':List Str} {nt:Nat} {ix:List Nat} {scope:Scope}
theorem mG {x:Str} {k:NameKind} (h:(x,k)∈(relabel scope X.env).names):(x,k)∈scope.names∨((x,NameKind.free)∈scope.names∧k=.cell):=by
 unfold relabel at h
 obtain⟨⟨n,k'⟩,hm,e⟩:=List.mem_map.mp h
 dsimp only at e
 split at e
 ·rename_i hc
  cases e
  simp only [Bool.and_eq_true,beq_iff_eq] at hc
  exact .inr ⟨by rw [← hc.1.1];exact hm,rfl⟩
 ·cases e;exact .inl hm
theorem xC (I:Inv X pins σ H s) (O:cn X N' nt ix scope) {fp:List Addr} (hf:∀b∈fp,lS X pins H b) (hlt:∀b∈fp,b < s.heap.objs.size) {h1:Heap} {tk:Nat}
  (hns:h1.Ns s.heap.objs.size (fun _=>none)) (hsb:∀b o,s.heap.get? b=some o→h1.get? b=some o) :
  Inv (bH X N' scope s.heap.objs.size s H fp pins) [] (uZ nt ix σ) H { s with heap:=h1,toks:=tk }:=by
 have cellsAt:∀x c,(gL scope.names X.env.cells []).lookup x=some c→X.env.cells.lookup x=some c:=fun x c q=>ja scope.names [] (fun y d w=>by simp at w) x c q
 have clt:∀x c,X.env.cells.lookup x=some c→c < s.heap.objs.size:=fun x c e=>let ⟨_,q⟩:=I.cell x c e;q.lt
 refine⟨⟨I.ok.mod,O.kind,I.ok.glob,I.ok.blt,Nat.le_refl _,fun x y c h1 h2=>I.ok.inj x y c (cellsAt _ _ h1) (cellsAt _ _ h2),fun x hx=>?_,fun x c h=>(by cases h),I.ok.hd,I.ok.frames,.inl rfl,fun b hb=>⟨Nat.ne_of_lt (hlt b hb),fun x c e=>(hf b hb).2.2.2.2.1 x c (cellsAt _ _ e)⟩,I.bs,
   Nat.le_trans I.ok.bsz I.sz,fun b o e hb=>?_,fun b hb z=>?_,I.stack,I.sN⟩,
  rfl,I.bare,Un.kept hsb,⟨_,hns,fun j x v e1 e2 e3=>?_⟩,fun x c e=>?_,I.hok.fresh (Nat.le_refl _),fun x c e=>I.freeC x c (cellsAt _ _ e),fun p hp=>?_,I.hok.kept hsb,?_⟩
 ·
  have hx':((relabel scope X.env).names.lookup x=some .cell∨(relabel scope X.env).names.lookup x=some .free):=hx
  have key:(x,NameKind.free)∈scope.names:=by
   rcases hx' with h | h
   ·rcases mG (lookup_mem h) with q | q
    ·exact absurd rfl (O.nocell _ q)
    ·exact q.1
   ·rcases mG (lookup_mem h) with q | q
    ·exact q
    ·exact q.1
  obtain⟨c,hc⟩:=I.ok.has x (.inl (O.free _ key rfl))
  exact Option.isSome_iff_exists.mp (ku scope.names [] x key (by rw [hc];rfl))
 ·rcases (hf b hb).2.2.2.1 with z | z
  ·exact I.ok.noex b o e z
  ·exact absurd (Nat.lt_of_lt_of_le (Heap.lt_size (I.ok.bs b o e).1) z) (Nat.lt_irrefl _)
 ·rcases List.mem_cons.mp (I.pv b z) with e | e
  ·exact (hf b hb).2.1 e
  ·exact (hf b hb).2.2.1 e
 ·
  unfold uZ at e2
  by_cases hj:j < nt
  ·rw [List.getElem?_append_left (by simpa using hj),List.getElem?_replicate] at e2
   split at e2 <;> cases e2
  ·rw [List.getElem?_append_right (by simpa using hj),List.getElem?_map,List.length_replicate] at e2
   cases hi:ix[j - nt]? with
   | none=>rw [hi] at e2;cases e2
   | some i =>
    rw [hi] at e2
    have hs:σ[i]?=some (some v):=by
     simp only [Option.map_some,Option.some.injEq] at e2
     cases q:σ[i]? with
     | none=>rw [q] at e2;cases e2
     | some o=>rw [q] at e2;simp only [Option.join] at e2;rw [show o=some v from e2]
    obtain⟨y,n1,n2,n3,n4⟩:=O.caps (j - nt) i hi
    have hjj:nt + (j - nt)=j:=by omega
    rw [hjj] at n1
    have e1':N'[j]?=some x:=e1
    rw [n1] at e1';cases e1'
    obtain⟨m,hn,hl⟩:=I.loc
    have hk:X.env.scope.names.lookup x=some .cell:=O.free _ n3 rfl
    obtain⟨u,r,l⟩:=hl i x v n2 hs (.inr (.inl hk))
    refine⟨u,r,?_⟩
    rcases l with ⟨k,_⟩ | ⟨_,c,ec,z⟩
    ·have k':X.env.scope.names.lookup x=some .local:=k
     rw [hk] at k';cases k'
    ·have hc2:=Option.isSome_iff_exists.mp (ku (cells:=X.env.cells) scope.names [] x n3 (by rw [ec];rfl))
     obtain⟨c2,hc2⟩:=hc2
     have:=cellsAt x c2 hc2
     rw [ec] at this;cases this
     exact .inr ⟨.inl n4,c,hc2,z.keeps hsb⟩
 ·obtain⟨v,z⟩:=I.cell x c (cellsAt _ _ e)
  exact⟨v,z.keeps hsb⟩
 ·rw [List.append_nil] at hp
  obtain⟨e,n,ne,nf,d⟩:=I.pin p hp
  refine⟨hsb _ _ e,n,Nat.ne_of_lt (Heap.lt_size e),fun z=>?_,d⟩
  rcases List.mem_cons.mp (I.pv p.1 z) with q | q
  ·exact ne q
  ·exact nf q
 ·unfold uZ
  show _=N'.length
  rw [O.len,List.length_append,List.length_replicate,List.length_map]
theorem BR (I:Inv X pins σ H s) {fp:List Addr} (hf:∀b∈fp,lS X pins H b) {σ':St} {H':Hp} {s':Shared} (J:Inv (bH X N' scope s.heap.objs.size s H fp pins) [] σ' H' s') {h':Heap} (hs:Heap.SameBut s.heap.objs.size s'.heap h') :
  Inv X pins σ H' { s' with heap:=h' }:=by
 have ne:∀b o,s.heap.get? b=some o→b≠s.heap.objs.size:=fun b o e=>Nat.ne_of_lt (Heap.lt_size e)
 have jb:=J.base
 refine I.Bn (ch:=fp) J.os ⟨fun b o e n h1 h2=>(hs.2 b (ne b o e)).trans (jb.keep b o e n h1 h2),fun b o e n h1 h2=>?_,jb.free,fun b o e h2=>?_,jb.tups,jb.frzs,jb.tbls⟩ (fun b o e=>?_) J.bare fun b hb=>?_
 ·obtain⟨sl,q⟩:=jb.slot b o e n h1 h2
  exact⟨sl,(hs.2 b (ne b o e)).trans q⟩
 ·obtain⟨o',q⟩:=jb.there b o e h2
  exact⟨o',(hs.2 b (ne b o e)).trans q⟩
 ·have jf:H' s.heap.objs.size=none:=J.free
  refine (J.hok b o e).oo (fun c u hc q=>(hs.2 c ?_).trans q) (fun _ q=>q) fun _ _ q=>q
  intro z
  subst z
  rcases hc with z | z
  ·rw [← z,jf] at e;cases e
  ·rw [jf] at z;cases z
 ·obtain⟨f0,f1,f2,f3,f4,f5⟩:=hf b hb
  exact⟨f3,f1,f4,f5⟩
end
end L2.L3
namespace L2.L3
open PySem PySem.Spec PyProof.Rows
def Ah (X:Cx) (ifs:List Expr):TT:=fun σ H Q=>∀(pins:List (Addr×Obj)) (s:Shared),Inv X pins σ H s →
 wpAny (model X.prog X.w) X.A (forIn ifs true fun c r=>if r=true then do let ok ← isTrue c X.env (eval c X.env);pure (ForInStep.yield ok) else pure (ForInStep.yield r)) (TP X pins σ Q) (fun _ _=>False) s
def DR (X:Cx) (N':List Str) (nt:Nat) (ix:List Nat) (scope:Scope) (elt target:Expr) (ifs:List Expr) (wi:TI):TE:=fun σ H Q=>wi σ H fun J H1=>∀(a C:Addr) (s:Shared) (fp:List Addr) (pins:List (Addr×Obj)),H1 a=none →
 ∃W:Nat→Nat→St→Hp→Prop,(∃m,W 0 m (uZ nt ix σ) (upd H1 a (.lst [])))∧∀i m σ' H',W i m σ' H'→(J.stop i H'∧Q (.ref a) H')∨(J.go i H'∧∀x H2,J.yld i H' x H2 →
  wG (bH X N' scope C s (upd H1 a (.lst [])) fp pins) target x σ' H2 fun σ2 H3=>Ah (bH X N' scope C s (upd H1 a (.lst [])) fp pins) ifs σ2 H3 fun ok H4=>if ok=true then
   wE (bH X N' scope C s (upd H1 a (.lst [])) fp pins) elt σ2 H4 fun y H5=>∃ys,H5 a=some (.lst ys)∧ys.length < sizeLine∧∃m',m' < m∧W (i + 1) m' σ2 (upd H5 a (.lst (ys ++ [y])))
   else ∃m',m' < m∧W (i + 1) m' σ2 H4)
section
variable {X:Cx} {N':List Str} {nt:Nat} {ix:List Nat} {scope:Scope}
theorem cn.G4 {pins:List (Addr×Obj)} {σ:St} {H:Hp} {s:Shared} (O:cn X N' nt ix scope) (I:Inv X pins σ H s):closureFor scope X.env=pure (gL scope.names X.env.cells []) :=
 pX fun y hy hk=>I.ok.has y.1 (.inl (O.free y hy hk))
theorem vI {elt target iter:Expr} {ifs:List Expr} {pos:Pos} {pins:List (Addr×Obj)} {σ:St} {s2:Shared} {Q:VK} {R:It→Hp→Prop} {itv:Value} {RR:Value→Addr→Result→Shared→Prop} (hc:X.calm=true) (O:cn X N' nt ix scope)
  (h2:Iw X pins σ target R itv s2)
  (hR:∀J H1,R J H1→∀(a C:Addr) (s:Shared) (fp:List Addr) (pins:List (Addr×Obj)),H1 a=none →
   ∃W:Nat→Nat→St→Hp→Prop,(∃m,W 0 m (uZ nt ix σ) (upd H1 a (.lst [])))∧∀i m σ' H',W i m σ' H'→(J.stop i H'∧Q (.ref a) H')∨(J.go i H'∧∀x H2,J.yld i H' x H2 →
    wG (bH X N' scope C s (upd H1 a (.lst [])) fp pins) target x σ' H2 fun σ2 H3=>Ah (bH X N' scope C s (upd H1 a (.lst [])) fp pins) ifs σ2 H3 fun ok H4=>if ok=true then
     wE (bH X N' scope C s (upd H1 a (.lst [])) fp pins) elt σ2 H4 fun y H5=>∃ys,H5 a=some (.lst ys)∧ys.length < sizeLine∧∃m',m' < m∧W (i + 1) m' σ2 (upd H5 a (.lst (ys ++ [y])))
     else ∃m',m' < m∧W (i + 1) m' σ2 H4))
  (hRR:∀(a C:Addr) (H':Hp) (s6:Shared) (m:Str→Option Value),Q (.ref a) H'→s6.heap.Ns C m→H' C=none→C≠X.env.locals→X.s₀.heap.objs.size≤C→(∀x c,X.env.cells.lookup x=some c→c≠C)→(∀p∈X.pn ++ pins,p.1≠C) →
   (∀h',Heap.SameBut C s6.heap h'→Inv X pins σ H' { s6 with heap:=h' })→RR (.ref a) C (.ok .next) s6) :
  wpAny (model X.prog X.w) X.A (newList []) (fun acc s3=>wpAny (model X.prog X.w) X.A (newFunctionEnv scope X.env.globals (gL scope.names X.env.cells []) [] X.env.qual none .none (some X.env)) (fun cenv s4 =>
   codeAny (model X.prog X.w) X.A (.compStart (.ListComp elt [⟨target,iter,ifs,0⟩] scope pos) 0 itv acc { cenv with scope:=relabel scope X.env }) (RR acc cenv.locals) s4) X.xe s3) X.xe s2:=by
 obtain⟨it,fp,tn,J,H2,e,I2,T,st2,f2,hq0⟩:=h2
 have hq:=hR J H2 hq0
 subst e
 have hlt2:∀b∈fp,b < s2.heap.objs.size:=fun b hb=>let ⟨o,e,_⟩:=T.obj _ _ st2 b hb;Heap.lt_size e
 refine wpAny_newObj_type ?_
 generalize hs3:({ s2 with heap:=s2.heap.push { cls:=.type "list",dict:=none,data:=.seq ([]:List Value).toArray } }:Shared)=s3
 have k3:∀b o,s2.heap.get? b=some o→s3.heap.get? b=some o:=fun b o e=>by rw [← hs3];exact Heap.get?_push_of_some _ e
 have ha:H2 s2.heap.objs.size=none:=I2.hok.fresh (Nat.le_refl _)
 have I3:Inv X pins σ (upd H2 s2.heap.objs.size (.lst [])) s3:=by
  rw [← hs3]
  exact I2.laid (t':=s2.toks) (fun b u e=>Heap.get?_push_of_some _ e) (Nat.le_refl _) ⟨Nat.zero_le _,[],0,.nil,Heap.get?_push_size _ rfl⟩
 have f3:∀b∈fp,lS X pins (upd H2 s2.heap.objs.size (.lst [])) b:=fun b hb=>⟨by rw [aB (Nat.ne_of_lt (hlt2 b hb))];exact (f2 b hb).1,(f2 b hb).2⟩
 have st3:tn 0 s3.heap:=T.keep _ _ _ st2 fun b hb o e=>k3 b o e
 have hlt3:∀b∈fp,b < s3.heap.objs.size:=fun b hb=>let ⟨o,e,_⟩:=T.obj _ _ st3 b hb;Heap.lt_size e
 refine wpAny_newFunctionEnv O.nocell (by intro y hy;simp at hy) (fun h1 hns hsb=>?_) O.kind
 have k4:∀b o,s3.heap.get? b=some o→h1.get? b=some o:=fun b o e=>(hsb.2 b (Nat.ne_of_lt (Heap.lt_size e))).trans (Heap.get?_push_of_some _ e)
 have I4:=xC (tk:=s3.toks + ([]:List (Str×Value)).length) I3 O f3 hlt3 hns k4
 have st4:tn 0 h1:=T.keep _ _ _ st3 fun b hb o e=>k4 b o e
 obtain⟨W,⟨m0,w0⟩,turn⟩:=hq s2.heap.objs.size s3.heap.objs.size s3 fp pins ha
 have fr3:∀b∈fp,(upd H2 s2.heap.objs.size (.lst [])) b=none:=fun b hb=>(f3 b hb).1
 have stat:∀{H':Hp},(∀b∈fp,H' b=none)→∀b∈fp,lS (bH X N' scope s3.heap.objs.size s3 (upd H2 s2.heap.objs.size (.lst [])) fp pins) [] H' b:=fun {H'} hn b hb=>by
  refine⟨hn b hb,Nat.ne_of_lt (hlt3 b hb),fun z=>?_,.inl hb,fun x c e=>(f3 b hb).2.2.2.2.1 x c (ja scope.names [] (fun y d w=>by simp at w) x c e),fun p hp=>?_⟩
  ·rcases List.mem_cons.mp (I3.pv b z) with q | q
   ·exact (f3 b hb).2.1 q
   ·exact (f3 b hb).2.2.1 q
  ·rw [List.append_nil] at hp
   exact (f3 b hb).2.2.2.2.2 p hp
 generalize hX:bH X N' scope s3.heap.objs.size s3 (upd H2 s2.heap.objs.size (.lst [])) fp pins=X' at I4 turn stat
 have eP:X'.prog=X.prog:=by rw [← hX];rfl
 have eW:X'.w=X.w:=by rw [← hX];rfl
 have eK:X'.K=X.K:=by rw [← hX];rfl
 have eA:X'.A=X.A:=by rw [← hX];rfl
 have eC:X'.calm=true:=by rw [← hX];exact hc
 have eE:X'.env=compEnvC scope (gL scope.names X.env.cells []) s3.heap.objs.size X.env:=by rw [← hX];rfl
 have eX:X'.xe=fun _ _=>False:=by rw [← hX];rfl
 have loop:codeAny (model X.prog X.w) X.A (.compLoop (.ListComp elt [⟨target,iter,ifs,0⟩] scope pos) 0 (.ref it) (.ref s2.heap.objs.size) (compEnvC scope (gL scope.names X.env.cells []) s3.heap.objs.size X.env))
   (RR (.ref s2.heap.objs.size) s3.heap.objs.size) { s3 with heap:=h1,toks:=s3.toks + ([]:List (Str×Value)).length }:=by
  refine tL (fun n s'=>∃i σ' H',Inv X' [] σ' H' s'∧tn i s'.heap∧(∀b∈fp,H' b=none)∧W i n σ' H') ?_ m0 ⟨0,_,_,I4,st4,fr3,w0⟩
  rintro n s5 ⟨i,σ5,H5,I5,st5,fr5,w5⟩
  rcases turn i n σ5 H5 w5 with ⟨stop,q⟩ | ⟨go,step⟩
  ·have:=T.done X' eP eW eK eC i [] s5 σ5 H5 (fun _ _=>False) I5 (stat fr5) st5 stop
   rw [eA] at this
   refine bP this fun r s6 ⟨hr,I6⟩=>?_
   subst hr
   obtain⟨m,hm,_⟩:=id I6.loc
   rw [eE] at hm
   have fre:H5 s3.heap.objs.size=none:=by have z:=I6.free;rw [eE] at z;exact z
   refine hRR _ _ H5 s6 m q hm fre (Nat.ne_of_gt I3.lt) I3.sz (fun x c e z=>?_) (fun p hp z=>?_) fun h' hsb'=>?_
   ·obtain⟨v,w⟩:=I3.cell x c e
    exact absurd w.lt (by rw [z];exact Nat.lt_irrefl _)
   ·exact absurd (Heap.lt_size (I3.pin p hp).1) (by rw [z];exact Nat.lt_irrefl _)
   ·rw [← hX] at I6
    exact BR I3 f3 I6 hsb'
  ·have:=T.item X' eP eW eK eC i [] s5 σ5 H5 (fun _ _=>False) I5 (stat fr5) st5 go
   rw [eA] at this
   refine bP this fun r s6 ⟨u,hr,h6⟩=>?_
   subst hr
   refine bP h6 fun _ s7 ⟨x,H7,I7,r7,y7,st7,fr7⟩=>?_
   have I7':=I7.pinned (stat fr7) (T.obj _ _ st7)
   have g7:=step x H7 y7 _ s7 u I7' r7
   rw [eP,eW,eA,eE,eX] at g7
   refine bP g7 fun _ s8 ⟨σ8,H8,I8,q8⟩=>?_
   have t8:=q8 _ s8 I8
   rw [eP,eW,eA,eE] at t8
   refine bP t8 fun ok s9 ⟨H9,I9,q9⟩=>?_
   have back:∀{σz:St} {Hz:Hp} {sz:Shared} {m':Nat},Inv X' ([] ++ og fp s7.heap) σz Hz sz→m' < n→W (i + 1) m' σz Hz→∃m,m < n∧∃i σ' H',Inv X' [] σ' H' sz∧tn i sz.heap∧(∀b∈fp,H' b=none)∧W i m σ' H':=fun {σz Hz sz m'} Iz hm wz=>by
    refine⟨m',hm,i + 1,σz,Hz,Iz.kn,T.keep _ _ _ st7 fun b hb o e=>(Iz.pin (b,o) (List.mem_append_right _ (List.mem_append_right _ (g9 hb e)))).1,fun b hb=>?_,wz⟩
    obtain⟨o,e,d⟩:=T.obj _ _ st7 b hb
    exact (Iz.pin (b,o) (List.mem_append_right _ (List.mem_append_right _ (g9 hb e)))).2.1
   cases ok with
   | false =>
    obtain⟨m',hm,w9⟩:=q9
    exact back I9 hm w9
   | true =>
    have e9:=q9 _ s9 I9
    rw [eP,eW,eA,eE,eX] at e9
    refine bP e9 fun uy s10 ⟨y,H10,I10,r10,ys,hys,hl,m',hm,w10⟩=>?_
    have ap:=rh (X:=X') _ s10 σ8 H10 (.ref s2.heap.objs.size) [y] (.ref s2.heap.objs.size) [uy] (fun _ H'=>H'=upd H10 s2.heap.objs.size (.lst (ys ++ [y]))) I10 rfl (.cons r10 .nil) ⟨_,ys,y,rfl,rfl,hys,hl,rfl⟩
    rw [eP,eW,eA,eX] at ap
    refine bP ap fun _ s11 ⟨_,H11,I11,_,q11⟩=>?_
    have q11':H11=upd H10 s2.heap.objs.size (.lst (ys ++ [y])):=q11
    subst q11'
    exact back I11 hm w10
 exact codeAny_compStart_list loop (T.self _ _ _ _ _ st4 loop)
theorem yc {elt target iter:Expr} {ifs:List Expr} {pos:Pos} {wi:TI} (hc:X.calm=true) (hi:PI X target iter wi) (O:cn X N' nt ix scope) (hs:∀x,foldedSetIterable iter X.env x=pure x:=by intro _;rfl) :
  PE X (.ListComp elt [⟨target,iter,ifs,0⟩] scope pos) (DR X N' nt ix scope elt target ifs wi):=by
 intro pins s σ H Q I h
 rw [eval_ListComp]
 refine wpAny_comprehension_free (use:=none) rfl hs (O.G4 I) O.kind O.names ?_
 refine bP (hi pins s σ H _ I h) fun v s1 h1=>bP h1 fun itv s2 h2=>?_
 refine vI (Q:=Q) (RR:=fun acc C=>compPost (model X.prog X.w) X.A X.xe none (EP X pins σ Q) acc C) hc O h2 (fun J H1 z=>z) ?_
 intro a C H' s6 m q hm _ _ _ _ _ hI
 exact⟨m,hm,fun h' hsb=>⟨.ref a,H',hI h' hsb,rfl,q⟩⟩
theorem o4 {elt target iter:Expr} {ifs:List Expr} {pos spos py:Pos} {y:Str} {i:Nat} {wi:TI} (hc:X.calm=true) (hi:PI X target iter wi) (O:cn X N' nt ix scope) (hN:X.N.Nodup) (hy:X.N[i]?=some y) (hx:Loc X.env.scope y)
  (hsw:swapsWith (.ListComp elt [⟨target,iter,ifs,0⟩] scope pos) (some (.Name y py)) spos.line X.env=pure true)
  (hf:X.fn y=true∨X.env.scope.names.lookup y=some .local) (hs:∀x,foldedSetIterable iter X.env x=pure x:=by intro _;rfl) :
  PS X (.Assign [.Name y py] (.ListComp elt [⟨target,iter,ifs,0⟩] scope pos) spos) (fun D=>fun σ H=>DR X N' nt ix scope elt target ifs wi σ H fun v H'=>D.nx (σ.set i (some v)) H'):=by
 intro pins s σ H D I h
 rw [exec_Assign_Name_used _ _ _ _ hsw]
 refine wpAny_bind (wpAny_standAt (wpAny_bind ?_))
 show wpAny _ X.A (do let _ ← comprehension (.ListComp elt [⟨target,iter,ifs,0⟩] scope pos) scope X.env _ (newList []) false (eval iter X.env) (some (assign (.Name y py) X.env))) _ _ s
 refine wpAny_bind (wpAny_mono (wpAny_comprehension_free (use:=some (assign (.Name y py) X.env)) (Q:=fun _ s'=>SP X pins D .next s') rfl hs (O.G4 I) O.kind O.names ?_) (fun _ s' hq=>wpAny_pure (wpAny_pure hq)) fun _ _ e=>e)
 refine bP (hi pins s σ H _ I h) fun v s1 h1=>bP h1 fun itv s2 h2=>?_
 refine vI (Q:=fun v H'=>D.nx (σ.set i (some v)) H') (RR:=fun acc C=>compPost (model X.prog X.w) X.A X.xe (some (assign (.Name y py) X.env)) (fun _ s'=>SP X pins D .next s') acc C) hc O h2 (fun J H1 z=>z) ?_
 intro a C H' s6 m q hm hC n1 n2 n3 n4 hI
 have I6:Inv X pins σ H' s6:=hI s6.heap (.refl ..)
 show wpAny _ X.A (assign (.Name y py) X.env (.ref a)) _ _ _
 refine wpAny_assign_Name (qZ I6 hN hy hx (v:=.ref a) rfl (fun s7 I7 hsame=>?_) hf)
 obtain⟨b,hb,hbx⟩:=hsame
 have hne:C≠b:=by
  rcases hbx with e | e
  ·rw [e];exact n1
  ·exact Ne.symm (n3 y b e)
 refine⟨m,hm.sameBut hb hne,fun h' hsb=>⟨_,H',?_,q⟩⟩
 exact I7.turned (t':=s7.toks) (fun c o hc' e=>(hsb.2 c hc').trans e) hC n1 (.inr n2) n3 n4
end
end L2.L3
namespace L2.L3
open PySem PySem.Spec PyProof.Rows
def dX (nt:Nat) (ix:List Nat) (env:En):En:=List.replicate nt none ++ ix.map fun i=>match env[i]? with
 | some (some (.d x))=>some (.d x)
 | _=>none
theorem er {nt:Nat} {ix:List Nat} {env:En} (i:Nat) (ys:List D):(dX nt ix env)[i]?≠some (some (.own ys)):=fun q=>by
 unfold dX at q
 by_cases hj:i < nt
 ·rw [List.getElem?_append_left (by simpa using hj),List.getElem?_replicate] at q
  split at q <;> cases q
 ·rw [List.getElem?_append_right (by simpa using hj),List.getElem?_map] at q
  cases e:ix[i - (List.replicate nt (none:Option Lo)).length]? with
  | none=>rw [e] at q;cases q
  | some k =>
   rw [e] at q
   simp only [Option.map_some,Option.some.injEq] at q
   split at q <;> cases q
theorem eD {nt:Nat} {ix:List Nat} {env:En} (i:Nat) (ys:List (D×D)):(dX nt ix env)[i]?≠some (some (.dic ys)):=fun q=>by
 unfold dX at q
 by_cases hj:i < nt
 ·rw [List.getElem?_append_left (by simpa using hj),List.getElem?_replicate] at q
  split at q <;> cases q
 ·rw [List.getElem?_append_right (by simpa using hj),List.getElem?_map] at q
  cases e:ix[i - (List.replicate nt (none:Option Lo)).length]? with
  | none=>rw [e] at q;cases q
  | some k =>
   rw [e] at q
   simp only [Option.map_some,Option.some.injEq] at q
   split at q <;> cases q
def Base.here (F H:Hp):Base:=⟨F,H,fun p=>H p≠none∧F p=none,fun _ h=>h.1⟩
theorem CG {K:PySem.W.Frag} {B:Base} {F H:Hp} {σ:St} {env:En} {nt:Nat} {ix:List Nat} {a:Addr} {o:HO} (r:Rep K B F H σ env) (ha:H a=none):Rep K (Base.here F H) F (upd H a o) (uZ nt ix σ) (dX nt ix env):=by
 refine⟨ar.refl _,r.fh.trans (ck ha),ck ha,fun p h=>h.2,fun j x q=>?_,fun j ys q=>(er j ys q).elim,fun i j xs ys p _ q=>(er i xs q).elim,fun j ys q=>(eD j ys q).elim,fun i j xs ys p _ q=>(eD i xs q).elim⟩
 unfold dX at q
 by_cases hj:j < nt
 ·rw [List.getElem?_append_left (by simpa using hj),List.getElem?_replicate] at q
  split at q <;> cases q
 ·rw [List.getElem?_append_right (by simpa using hj),List.getElem?_map,List.length_replicate] at q
  cases e:ix[j - nt]? with
  | none=>rw [e] at q;cases q
  | some k =>
   rw [e] at q
   simp only [Option.map_some,Option.some.injEq] at q
   split at q
   ·rename_i x' h'
    cases q
    obtain⟨v,h1,h2⟩:=r.dv k x h'
    refine⟨v,?_,h2⟩
    unfold uZ
    rw [List.getElem?_append_right (by simpa using hj),List.getElem?_map,List.length_replicate,e]
    simp only [Option.map_some,h1,Option.join]
    rfl
   ·cases q
theorem Rep.here {K:PySem.W.Frag} {B:Base} {F H:Hp} {σ:St} {env:En} (r:Rep K B F H σ env) (no:∀(i:Nat) ys,env[i]?≠some (some (.own ys))) (no':∀(i:Nat) ys,env[i]?≠some (some (.dic ys))):Rep K (Base.here F H) F H σ env :=
 ⟨ar.refl _,r.fh,ar.refl _,fun p h=>h.2,r.dv,fun i ys q=>(no i ys q).elim,fun i j xs ys p _ q=>(no i xs q).elim,fun i ys q=>(no' i ys q).elim,fun i j xs ys p _ q=>(no' i xs q).elim⟩
theorem Rep.there {K:PySem.W.Frag} {B:Base} {F H F' H':Hp} {σ:St} {env hW:En} (r:Rep K (Base.here F H) F' H' σ env) (f0:ar B.F F) (h0:ar B.H H) (nf:∀p,B.N p→F p=none) (he:∀(i:Nat) l,hW[i]?=some (some l)→env[i]?=some (some l)) (no:∀(i:Nat) ys,hW[i]?≠some (some (.own ys))) (no':∀(i:Nat) ys,hW[i]?≠some (some (.dic ys))):Rep K B F' H' σ hW:=by
 refine⟨f0.trans r.f0,r.fh,h0.trans r.h0,fun p hp=>?_,fun i x q=>r.dv i x (he i _ q),fun i ys q=>(no i ys q).elim,fun i j xs ys p _ q=>(no i xs q).elim,fun i ys q=>(no' i ys q).elim,fun i j xs ys p _ q=>(no' i xs q).elim⟩
 refine r.nf p ⟨fun z=>?_,nf p hp⟩
 have q:=B.nb p hp
 cases w:B.H p with
 | none=>exact q w
 | some o=>rw [h0 _ _ w] at z;cases z
structure qY (K:PySem.W.Frag) (J:It) (F1:Hp) (xs:List D):Prop where
 go:∀(i:Nat) (G H':Hp),ar F1 G→ar G H'→i < xs.length→J.go i H'
 yld:∀(i:Nat) (G H':Hp) (y:V) (H'':Hp) (x:D),ar F1 G→ar G H'→xs[i]?=some x→J.yld i H' y H''→H''=H'∧Den K G x y
 stop:∀(G H':Hp),ar F1 G→ar G H'→J.stop xs.length H'
theorem xa {K:PySem.W.Frag} {F1:Hp} {a:Addr} {vs:List V} {xs:List D} (q:fz K F1 a vs) (r:ao K F1 xs vs):qY K (IE K a) F1 xs where
 go:=fun i G H' s1 s2 hi=>by
  have:i < vs.length:=by rw [← r.length];exact hi
  exact⟨vs,vs[i],s2.seq (s1.seq q),by simp [this]⟩
 yld:=fun i G H' y H'' x s1 s2 hx hy=>by
  obtain⟨v,h1,h2⟩:=r.get hx
  obtain⟨e1,e2⟩:=hy
  have:=e2 vs (s2.seq (s1.seq q))
  rw [h1] at this;cases this
  exact⟨e1,Den.mono s1 _ _ h2⟩
 stop:=fun G H' s1 s2=>⟨vs,s2.seq (s1.seq q),by rw [r.length];exact Nat.le_refl _⟩
theorem yZ {K:PySem.W.Frag} {F1:Hp} {a:Addr} {vs:List V} {xs:List D} (q:iy K F1 a vs) (r:ao K F1 xs vs):qY K (Iu K a) F1 xs where
 go:=fun i G H' s1 s2 hi=>by
  have:i < vs.length:=by rw [← r.length];exact hi
  exact⟨vs,vs[i],ar.b8 s2 (ar.b8 s1 q),by simp [this]⟩
 yld:=fun i G H' y H'' x s1 s2 hx hy=>by
  obtain⟨v,h1,h2⟩:=r.get hx
  obtain⟨e1,e2⟩:=hy
  have:=e2 vs (ar.b8 s2 (ar.b8 s1 q))
  rw [h1] at this;cases this
  exact⟨e1,Den.mono s1 _ _ h2⟩
 stop:=fun G H' s1 s2=>⟨vs,ar.b8 s2 (ar.b8 s1 q),by rw [r.length];exact Nat.le_refl _⟩
theorem zb {K:PySem.W.Frag} {F1:Hp} {z:Str}:qY K (Ho z) F1 (cT z) where
 go:=fun i G H' s1 s2 hi=>by
  show i < z.cps.size
  simpa [cT] using hi
 yld:=fun i G H' y H'' x s1 s2 hx hy=>by
  obtain⟨e1,c,hc,rfl⟩:=hy
  unfold cT at hx
  rw [List.getElem?_map,Array.getElem?_toList,hc] at hx
  cases hx
  exact⟨e1,gb⟩
 stop:=fun G H' s1 s2=>by
  show z.cps.size≤_
  simp [cT]
theorem iQ {K:PySem.W.Frag} {F1:Hp} {lo:Int} {n:Nat}:qY K (El lo n) F1 (a9 lo n) where
 go:=fun i G H' s1 s2 hi=>by
  have:i < n:=by simpa [a9] using hi
  exact this
 yld:=fun i G H' y H'' x s1 s2 hx hy=>by
  obtain⟨e1,e2⟩:=hy
  have hi:i < n:=by
   have:=(List.getElem?_eq_some_iff.mp hx).1
   simpa [a9] using this
  have:(a9 lo n)[i]?=some (D.int (lo + (i:Int))):=by simp [a9,hi]
  rw [this] at hx;cases hx
  exact⟨e1,by rw [e2];exact bf⟩
 stop:=fun G H' s1 s2=>by
  have:(a9 lo n).length=n:=by simp [a9]
  rw [this];exact Nat.le_refl n
def comps (tt:TB) (te:TD) (hW:En) (Q:List D→Prop):List D→List D→Prop
 | [],acc=>Q acc
 | x :: xs,acc=>tt (hW.set 0 (some (.d x))) fun ok=>if ok=true then te (hW.set 0 (some (.d x))) fun y=>acc.length < sizeLine∧comps tt te hW Q xs (acc ++ [y]) else comps tt te hW Q xs acc
structure uX (X:Cx) (ifs:List Expr) (t:TB):Prop where
 of ::
 run:∀(B:Base) (σ:St) (F H:Hp) (env:En) (Q:Bool→Prop),Rep X.K B F H σ env→t env Q→Ah X ifs σ H (RB X B σ env F Q)
instance {X:Cx} {ifs:List Expr} {t:TB}:CoeFun (uX X ifs t) (fun _=>∀(B:Base) (σ:St) (F H:Hp) (env:En) (Q:Bool→Prop),Rep X.K B F H σ env→t env Q→Ah X ifs σ H (RB X B σ env F Q)):=⟨uX.run⟩
def fg:TB:=fun _ Q=>Q true
section
variable {X:Cx}
theorem fb:uX X [] fg:=⟨fun B σ F H env Q rp h pins s I=>wpAny_tests_nil ⟨H,I,F,rp,ar.refl _,h⟩⟩
variable {N':List Str} {nt:Nat} {ix:List Nat} {scope:Scope} {elt iter a b:Expr} {ifs:List Expr} {x:Str} {px pos:Pos} {tt:TB} {te ti:TD} {ts:eI}
theorem jv (hN:N'.Nodup) (h0:N'[0]?=some x) (hx:(relabel scope X.env).names.lookup x=some .local)
  (ht:∀C s H fp pins,uX (bH X N' scope C s H fp pins) ifs tt) (he:∀C s H fp pins,QE (bH X N' scope C s H fp pins) elt te)
  {B:Base} {σ:St} {F F1 H1:Hp} {env:En} {Q:List D→Prop} {J:It} {xs:List D} (sF:ar F F1) (r1:Rep X.K B F1 H1 σ env) (S:qY X.K J F1 xs) (q1:comps tt te (dX 1 ix env) Q xs []) :
  ∀(a C:Addr) (s:Shared) (fp:List Addr) (pins:List (Addr×Obj)),H1 a=none →
   ∃W:Nat→Nat→St→Hp→Prop,(∃m,W 0 m (uZ 1 ix σ) (upd H1 a (.lst [])))∧∀i m σ' H',W i m σ' H'→(J.stop i H'∧RF X B σ env F Q (.ref a) H')∨(J.go i H'∧∀y H2,J.yld i H' y H2 →
    wG (bH X N' scope C s (upd H1 a (.lst [])) fp pins) (.Name x px) y σ' H2 fun σ2 H3=>Ah (bH X N' scope C s (upd H1 a (.lst [])) fp pins) ifs σ2 H3 fun ok H4=>if ok=true then
     wE (bH X N' scope C s (upd H1 a (.lst [])) fp pins) elt σ2 H4 fun y H5=>∃ys,H5 a=some (.lst ys)∧ys.length < sizeLine∧∃m',m' < m∧W (i + 1) m' σ2 (upd H5 a (.lst (ys ++ [y])))
     else ∃m',m' < m∧W (i + 1) m' σ2 H4):=by
 intro a C s fp pins ha
 have hF1a:F1 a=none:=r1.qB ha
 refine⟨fun i m σ' H'=>m=xs.length - i∧i≤xs.length∧∃(F':Hp) (acc:List D) (ys:List V),Rep X.K (Base.here F1 H1) F' H' σ' (dX 1 ix env)∧H' a=some (.lst ys)∧F' a=none∧ao X.K F' acc ys∧comps tt te (dX 1 ix env) Q (xs.drop i) acc,
  ⟨xs.length,by simp,Nat.zero_le _,F1,[],[],CG r1 ha,aI,hF1a,a7,by simpa using q1⟩,?_⟩
 rintro i m σ2 H2 ⟨rfl,hi2,F2,acc,ys,r2,hys,hFa,hd,q2⟩
 have sH:ar H1 H2:=r2.h0
 by_cases hlt:i < xs.length
 ·have hxi:xs[i]?=some xs[i]:=by simp [hlt]
  rw [drop_cons hxi] at q2
  refine .inr ⟨S.go i F2 H2 r2.f0 r2.fh hlt,fun y H3 hy=>?_⟩
  obtain⟨eH,dy⟩:=S.yld i F2 H2 y H3 xs[i] r2.f0 r2.fh hxi hy
  subst eH
  have r2':=r2.here er eD
  have g:=aD (X:=bH X N' scope C s (upd H1 a (.lst [])) fp pins) (pos:=px) 0 hN h0 (.inl hx) (.inr hx)
  refine ik (g (Base.here F2 H3) σ2 F2 H3 (dX 1 ix env) (fun e=>e=(dX 1 ix env).set 0 (some (.d xs[i]))) xs[i] y r2' dy rfl) fun σ3 H4 ⟨F4,env4,r4,s4,q4⟩=>?_
  subst q4
  intro pins' s' I'
  refine wpAny_mono (ht C s (upd H1 a (.lst [])) fp pins (Base.here F2 H3) σ3 F4 H4 _ _ r4 q2 pins' s' I') (fun ok s5 ⟨H5,I5,F5,r5,s5',q5⟩=>⟨H5,I5,?_⟩) fun _ _ e=>e
  have weak':∀(j:Nat) l,(dX 1 ix env)[j]?=some (some l)→((dX 1 ix env).set 0 (some (.d xs[i])))[j]?=some (some l):=fun j l hj=>by
   have hj0:j≠0:=fun z=>by
    subst z
    simp [dX] at hj
   rw [List.getElem?_set_ne (Ne.symm hj0)];exact hj
  cases ok with
  | false =>
   have q5':comps tt te (dX 1 ix env) Q (xs.drop (i + 1)) acc:=q5
   refine⟨xs.length - (i + 1),by omega,rfl,by omega,F5,acc,ys,r5.there r2.f0 sH (fun p hp=>r2.nf p hp) weak' er eD,r5.h0 _ _ hys,r5.nf a ⟨by rw [hys];simp,hFa⟩,ao.mono r5.f0 _ _ hd,q5'⟩
  | true =>
   have q5':te ((dX 1 ix env).set 0 (some (.d xs[i]))) fun y=>acc.length < sizeLine∧comps tt te (dX 1 ix env) Q (xs.drop (i + 1)) (acc ++ [y]):=q5
   refine aE (he C s (upd H1 a (.lst [])) fp pins (Base.here F2 H3) σ3 F5 H5 _ _ r5 q5') fun z H6 ⟨F6,d,r6,s6,d6,hl,q6⟩=>?_
   have ha6:H6 a=some (.lst ys):=r6.h0 _ _ hys
   have hF6:F6 a=none:=r6.nf a ⟨by rw [hys];simp,hFa⟩
   refine⟨ys,ha6,by rw [← hd.length];exact hl,xs.length - (i + 1),by omega,rfl,by omega,F6,acc ++ [d],ys ++ [z],?_,aI,hF6,(ao.mono r6.f0 _ _ hd).append (aW d6 a7),q6⟩
   have r7:Rep X.K (Base.here F1 H1) F6 H6 σ3 (dX 1 ix env):=r6.there r2.f0 sH (fun p hp=>r2.nf p hp) weak' er eD
   refine⟨r7.f0,fun b o hb=>?_,fun b o hb=>?_,r7.nf,r7.dv,fun j zs q=>(er j zs q).elim,r7.ne,fun j zs q=>(eD j zs q).elim,r7.nm⟩
   ·have:b≠a:=fun w=>by subst w;rw [hF6] at hb;cases hb
    rw [aB this];exact r7.fh _ _ hb
   ·have:b≠a:=fun w=>by subst w;have hb':H1 b=some o:=hb;rw [ha] at hb';cases hb'
    rw [aB this];exact r7.h0 _ _ hb
 ·have e:i=xs.length:=by omega
  subst e
  rw [List.drop_eq_nil_of_le (Nat.le_refl _)] at q2
  refine .inl ⟨S.stop F2 H2 r2.f0 r2.fh,F2,fun b=>if b=a then none else H2 b,a,ys,acc,rfl,if_pos rfl,?_,?_,sF.trans r2.f0,hd,q2⟩
  ·funext b
   unfold upd
   by_cases z:b=a
   ·rw [if_pos z,z];exact hys
   ·rw [if_neg z]
    show H2 b=if b=a then none else H2 b
    rw [if_neg z]
  ·refine r1.ext r2.f0 (fun b o hb=>?_) (fun b o hb=>?_) fun p h1 h2=>r2.nf p ⟨h1,h2⟩
   ·have:b≠a:=fun w=>by subst w;rw [hFa] at hb;cases hb
    show (if b=a then none else H2 b)=_
    rw [if_neg this];exact r2.fh _ _ hb
   ·have:b≠a:=fun w=>by subst w;rw [ha] at hb;cases hb
    show (if b=a then none else H2 b)=_
    rw [if_neg this];exact sH _ _ hb
theorem RF.rv {B:Base} {σ:St} {env:En} {F:Hp} {Q:D→Prop} {v:V} {H:Hp} (h:RF X B σ env F (fun ds=>Q (.lst ds)) v H):RV X B σ env F Q v H:=by
 obtain⟨F',H1,p,vs,ds,rfl,hp,rfl,r,s,hd,q⟩:=h
 exact (RV.BC r hd q p hp).weaken s
def fu (ts:eI):TD:=fun env Q=>ts env fun ds=>Q (.lst ds)
theorem QF.e {e:Expr} {ts:eI} (h:QF X e ts):QE X e (fu ts):=⟨fun B σ F H env Q rp hq=>aE (h B σ F H env _ rp hq) fun v H' z=>z.rv⟩
def kN (ix:List Nat) (ti:TD) (tt:TB) (te:TD):eI:=fun env Q=>ti env fun d=>∃xs,cL d=some xs∧comps tt te (dX 1 ix env) Q xs []
theorem AL {B:Base} {σ:St} {F H:Hp} {env:En} {P:List D→Prop} {R:It→Hp→Prop} (hi:QE X iter ti) (rp:Rep X.K B F H σ env) (h:ti env fun d=>∃xs,cL d=some xs∧P xs)
  (hR:∀(J:It) (F1 H1:Hp) (xs:List D),Rep X.K B F1 H1 σ env→ar F F1→qY X.K J F1 xs→P xs→R J H1):Ig X.K (wE X iter) σ H R:=by
 refine aE (hi B σ F H env _ rp h) fun v H1 ⟨F1,d,r1,s1,d1,xs,hx,q1⟩=>?_
 cases d with
 | lst ys =>
  simp only [cL] at hx;cases hx
  simp only [Den] at d1
  obtain⟨a,vs,rfl,q,r⟩:=d1
  exact .inl ⟨a,rfl,.inl ⟨⟨vs,r1.fh.seq q⟩,hR _ F1 H1 _ r1 s1 (xa q r) q1⟩⟩
 | tup ys =>
  simp only [cL] at hx;cases hx
  simp only [Den] at d1
  obtain⟨a,vs,rfl,q,r⟩:=d1
  exact .inl ⟨a,rfl,.inr ⟨⟨vs,ar.b8 r1.fh q⟩,hR _ F1 H1 _ r1 s1 (yZ q r) q1⟩⟩
 | str z =>
  simp only [cL] at hx;cases hx
  simp only [Den] at d1
  subst d1
  exact .inr ⟨z,rfl,hR _ F1 H1 _ r1 s1 zb q1⟩
 | _=>simp only [cL] at hx;cases hx
theorem kI (hc:X.calm=true) (O:cn X N' 1 ix scope) (hN:N'.Nodup) (h0:N'[0]?=some x) (hx:(relabel scope X.env).names.lookup x=some .local) (hi:QE X iter ti)
  (ht:∀C s H fp pins,uX (bH X N' scope C s H fp pins) ifs tt) (he:∀C s H fp pins,QE (bH X N' scope C s H fp pins) elt te) (hs:∀x,foldedSetIterable iter X.env x=pure x:=by intro _;rfl) :
  QF X (.ListComp elt [⟨.Name x px,iter,ifs,0⟩] scope pos) (kN ix ti tt te):=by
 refine⟨?_⟩
 intro B σ F H env Q rp h
 refine bD (yc hc (Br bh) O hs) ?_
 exact AL hi rp h fun J F1 H1 xs r1 s1 S q=>jv hN h0 hx ht he s1 r1 S q
def ie (f:List D→(Int→Nat→Prop)→Prop) (ix:List Nat) (ts:eI) (tt:TB) (te:TD):eI:=fun env Q=>ts env fun xs=>f xs fun lo n=>comps tt te (dX 1 ix env) Q (a9 lo n) []
theorem zv {p pos2:Pos} (hc:X.calm=true) (O:cn X N' 1 ix scope) (hN:N'.Nodup) (h0:N'[0]?=some x) (hx:(relabel scope X.env).names.lookup x=some .local) (hgl:Gl X "range") (hm:X.mg "range" = none) (ha:QA X [a] ts)
  (ht:∀C s H fp pins,uX (bH X N' scope C s H fp pins) ifs tt) (he:∀C s H fp pins,QE (bH X N' scope C s H fp pins) elt te) (hst:starEach [a] X.env=[(false,eval a X.env)]:=by rfl)
  (hs:∀x,foldedSetIterable (.Call (.Name "range" p) [a] [] pos2) X.env x=pure x:=by intro _;rfl) :
  QF X (.ListComp elt [⟨.Name x px,.Call (.Name "range" p) [a] [] pos2,ifs,0⟩] scope pos) (ie jK ix ts tt te):=by
 refine⟨?_⟩
 intro B σ F H env Q rp h
 refine bD (yc hc (jz hgl hm js hst) O hs) ?_
 refine cg (ha B σ F H env _ rp h) fun vs H1 ⟨F1,ds,r1,s1,d1,q1⟩=>?_
 dsimp only at q1;unfold jK at q1
 split at q1
 ·simp only [ao,Den] at d1
  obtain⟨v,r,rfl,rfl,rfl⟩:=d1
  exact⟨_,rfl,q1.1.1,q1.1.2,jv hN h0 hx ht he s1 r1 iQ q1.2⟩
 ·exact q1.elim
end
end L2.L3
namespace L2.L3
open PySem PySem.Spec PyProof.Rows
section
variable {X:Cx} {a b c e:Expr} {es:List Expr} {ta tb tc:TD} {tA tB':TB} {ts:eI} {p p2 pos:Pos} {rest:List Expr}
theorem kX (hm:X.mg "abs" = none) (ha:QA X [e] ts) (hg:Gl X "abs":=by rfl) (he:starEach [e] X.env=(false,eval e X.env) :: starEach [] X.env:=by exact aR rfl):QE X (.Call (.Name "abs" p) [e] [] pos) (az my ts) :=
 gU As FX hg hm zd ha (he:=he)
theorem mP (hm:X.mg "len" = none) (ha:QA X [e] ts) (hg:Gl X "len":=by rfl) (he:starEach [e] X.env=(false,eval e X.env) :: starEach [] X.env:=by exact aR rfl):QE X (.Call (.Name "len" p) [e] [] pos) (az iN ts) :=
 gU (kW.or t7) Fy hg hm qC ha (he:=he)
theorem HE (hm:X.mg "max" = none) (ha:QA X [a,b] ts) (hg:Gl X "max":=by rfl) (hc:X.calm=true:=by rfl) (he:starEach [a,b] X.env=(false,eval a X.env) :: starEach [b] X.env:=by exact aR rfl) (hpl:(backTo pos (starEach [b] X.env)).any (·.1)=false:=by rfl):QE X (.Call (.Name "max" p) [a,b] [] pos) (az An ts) :=
 gU (zt hc) EF hg hm qz ha (he:=he) (hpl:=hpl)
theorem HV (hm:X.mg "min" = none) (ha:QA X [a,b] ts) (hg:Gl X "min":=by rfl) (hc:X.calm=true:=by rfl) (he:starEach [a,b] X.env=(false,eval a X.env) :: starEach [b] X.env:=by exact aR rfl) (hpl:(backTo pos (starEach [b] X.env)).any (·.1)=false:=by rfl):QE X (.Call (.Name "min" p) [a,b] [] pos) (az B3 ts) :=
 gU (zu hc) FZ hg hm zf ha (he:=he) (hpl:=hpl)
theorem nG (hm:X.mg "int" = none) (ha:QA X [e] ts) (hg:Gl X "int":=by rfl) (he:starEach [e] X.env=(false,eval e X.env) :: starEach [] X.env:=by exact aR rfl):QE X (.Call (.Name "int" p) [e] [] pos) (az pG ts) :=
 vo yR Ff hg hm rj ha (he:=he)
theorem gK (hm:X.mg "tuple" = none) (ha:QA X [e] ts) (hg:Gl X "tuple":=by rfl) (he:starEach [e] X.env=(false,eval e X.env) :: starEach [] X.env:=by exact aR rfl):QE X (.Call (.Name "tuple" p) [e] [] pos) (az gz ts) :=
 vo qj Bt hg hm vb ha (he:=he)
def GA (n:String) (x:D) (Q:D→Prop):Prop:=∃k,Dw (G3 x) n=some k∧Q (.bl k)
def uA (n:String) (ta:TD):TD:=fun env Q=>ta env fun x=>GA n x Q
theorem Ep {n:Str} {m:String} (hm:X.mg "isinstance" = none) (ht:X.mg n=none) (hb:bootBuiltins n=some (.type m)) (ha:QE X a ta) (hg:Gl X "isinstance":=by rfl) (hg2:Gl X n:=by rfl) (hn:n≠"__name__":=by decide) (hd:(n == ("__debug__" : Str))=false:=by decide)
  (he:starEach [a,.Name n p2] X.env=(false,eval a X.env) :: starEach [.Name n p2] X.env:=by exact aR rfl) (hpl:(backTo pos (starEach [.Name n p2] X.env)).any (·.1)=false:=by rfl)
  (he2:starEach [.Name n p2] X.env=(false,eval (.Name n p2) X.env) :: starEach [] X.env:=by exact aR rfl):QE X (.Call (.Name "isinstance" p) [a,.Name n p2] [] pos) (uA m ta):=by
 have h:=gU (p:=p) (pos:=pos) AY E7 hg hm rm (ae ha (ae (JK hg2 ht hb hn hd) ah he2) he) (he:=he) (hpl:=hpl)
 exact⟨fun B σ F H env Q rp hq=>h B σ F H env Q rp hq⟩
variable {N':List Str} {nt:Nat} {ix:List Nat} {scope:Scope} {elt iter:Expr} {ifs:List Expr} {x:Str} {px py spos:Pos} {tt:TB} {te ti:TD}
theorem cn.of (sc:Scope) (hsc:X.env.scope=sc) (kind:scope.kind=.function) (nocell:∀x∈scope.names,x.2≠.cell) (names:∀x∈scope.names,x.2=.local→scope.names.lookup x.1=some .local)
  (free:∀x∈scope.names,x.2=.free→sc.names.lookup x.1=some .cell)
  (caps:∀(j:Nat) (i:Nat),ix[j]?=some i→∃x,N'[nt + j]?=some x∧X.N[i]?=some x∧(x,NameKind.free)∈scope.names∧(relabel scope X.env).names.lookup x=some .cell) (len:N'.length=nt + ix.length):cn X N' nt ix scope :=
 ⟨kind,nocell,names,by rw [hsc];exact free,caps,len⟩
end
end L2.L3
namespace L2.L3
open PySem PySem.Spec PyProof.Rows
def Base.guard (B:Base) (p:Addr) (o:HO):Base:=⟨B.F,upd B.H p o,fun a=>a=p∨B.N a,fun a h=>by
 by_cases e:a=p
 ·subst e;rw [aI];simp
 ·rw [aB e];exact B.nb a (h.resolve_left e)⟩
section
variable {K:PySem.W.Frag} {B:Base} {F H:Hp} {σ:St} {env:En} {p:Addr} {o o':HO}
theorem Rep.guarded (r:Rep K B F H σ env) (hp:H p=none):Rep K (B.guard p o) F (upd H p o) σ env where
 f0:=r.f0
 fh:=r.fh.trans (ck hp)
 h0:=fun b u q=>by
  by_cases e:b=p
  ·subst e;rw [aI];have q':upd B.H b o b=some u:=q;rw [aI] at q';exact q'
  ·rw [aB e];have q':upd B.H p o b=some u:=q;rw [aB e] at q';exact r.h0 _ _ q'
 nf:=fun a h=>by
  rcases h with rfl | h
  ·exact r.qB hp
  ·exact r.nf a h
 dv:=r.dv
 ov:=fun i xs h=>by
  obtain⟨q,vs,h1,h2,h3,h4,h5⟩:=r.ov i xs h
  have ne:q≠p:=fun e=>by subst e;rw [hp] at h2;cases h2
  exact⟨q,vs,h1,by rw [aB ne];exact h2,h3,by show upd B.H p o q=none;rw [aB ne];exact h4,h5⟩
 ne:=r.ne
 mv:=fun i xs h=>by
  obtain⟨q,ep,us,vs,h1,h2,h3,h4,h5⟩:=r.mv i xs h
  have ne:q≠p:=fun e=>by subst e;rw [hp] at h2;cases h2
  exact⟨q,ep,us,vs,h1,by rw [aB ne];exact h2,h3,by show upd B.H p o q=none;rw [aB ne];exact h4,h5⟩
 nm:=r.nm
theorem Rep.sa (r:Rep K (B.guard p o) F H σ env) (hb:B.H p=none):Rep K B F H σ env∧H p=some o∧F p=none:=by
 refine⟨⟨r.f0,r.fh,fun b u q=>r.h0 b u ?_,fun a h=>r.nf a (.inr h),r.dv,fun i xs h=>?_,r.ne,fun i xs h=>?_,r.nm⟩,r.h0 p o aI,r.nf p (.inl rfl)⟩
 ·show upd B.H p o b=some u
  have:b≠p:=fun e=>by subst e;rw [hb] at q;cases q
  rw [aB this];exact q
 ·obtain⟨q,vs,h1,h2,h3,h4,h5⟩:=r.ov i xs h
  have h4':upd B.H p o q=none:=h4
  have ne:q≠p:=fun e=>by subst e;rw [aI] at h4';cases h4'
  rw [aB ne] at h4'
  exact⟨q,vs,h1,h2,h3,h4',h5⟩
 ·obtain⟨q,ep,us,vs,h1,h2,h3,h4,h5⟩:=r.mv i xs h
  have h4':upd B.H p o q=none:=h4
  have ne:q≠p:=fun e=>by subst e;rw [aI] at h4';cases h4'
  rw [aB ne] at h4'
  exact⟨q,ep,us,vs,h1,h2,h3,h4',h5⟩
theorem Rep.settle (r:Rep K B F H σ env) (hp:H p=some o) (hf:F p=none) (hb:B.H p=none) (hk:∀vs,o≠.lst vs) (hx:∀φ,o≠.ext φ:=by intro φ e;cases e):Rep K B (upd F p o') (upd H p o') σ env∧ar F (upd F p o'):=by
 have s1:ar F (upd F p o'):=ck hf
 refine⟨⟨r.f0.trans s1,lW r.fh,fun b u q=>?_,fun a h=>?_,fun i x h=>?_,fun i xs h=>?_,r.ne,fun i xs h=>?_,r.nm⟩,s1⟩
 ·have:b≠p:=fun e=>by subst e;rw [hb] at q;cases q
  rw [aB this];exact r.h0 _ _ q
 ·have:a≠p:=fun e=>by subst e;exact B.nb a h hb
  rw [aB this];exact r.nf a h
 ·obtain⟨v,h1,h2⟩:=r.dv i x h
  exact⟨v,h1,Den.mono s1 _ _ h2⟩
 ·obtain⟨q,vs,h1,h2,h3,h4,h5⟩:=r.ov i xs h
  have ne:q≠p:=fun e=>by subst e;rw [hp] at h2;cases h2;exact hk vs rfl
  exact⟨q,vs,h1,by rw [aB ne];exact h2,by rw [aB ne];exact h3,h4,ao.mono s1 _ _ h5⟩
 ·obtain⟨q,ep,us,vs,h1,h2,h3,h4,h5,h6⟩:=r.mv i xs h
  have ne:q≠p:=fun e=>by subst e;rw [hp] at h2;cases h2;exact hx _ rfl
  exact⟨q,ep,us,vs,h1,by rw [aB ne];exact h2,by rw [aB ne];exact h3,h4,ao.mono s1 _ _ h5,ao.mono s1 _ _ h6⟩
end
def vH (ks:List Key) (xs:List D) (k:Key):Option D:=match ks,xs with
 | k' :: ks,x :: xs=>if k'=k then some x else vH ks xs k
 | _,_=>none
theorem qE {K:PySem.W.Frag} {F:Hp}:∀{ks:List Key} {xs:List D} {vs:List V} {k:Key} {d:D},ao K F xs vs→vH ks xs k=some d→∃v,lB (ks.zip vs) k=some v∧Den K F d v
 | [],xs,vs,k,d,h,e=>by cases xs <;> cases e
 | k' :: ks,[],vs,k,d,h,e=>by cases e
 | k' :: ks,x :: xs,vs,k,d,h,e=>by
  simp only [ao] at h
  obtain⟨v,r,rfl,a,b⟩:=h
  unfold vH at e
  rw [List.zip_cons_cons]
  split at e
  ·rename_i z
   cases e
   exact⟨v,kC (p:=(k',v)) z,a⟩
  ·rename_i z
   rw [kK (p:=(k',v)) z]
   exact qE b e
theorem kB:∀(kvs acc:List (Key×V)),(acc ++ kvs).map (·.1) |>.Nodup→gY acc kvs=acc ++ kvs
 | [],acc,_=>by simp [gY]
 | (k,v) :: r,acc,h=>by
  have hn:lB acc k=none:=by
   rw [← Option.not_isSome_iff_eq_none,← pM]
   intro z
   rw [List.any_eq_true] at z
   obtain⟨x,hx,e⟩:=z
   have e':x.1=k:=by simpa using e
   rw [List.map_append,List.nodup_append] at h
   exact h.2.2 k (by rw [← e'];exact List.mem_map_of_mem hx) k (by simp) rfl
  show gY (putK acc k v) r=_
  rw [AQ v hn,kB r (acc ++ [(k,v)]) (by simpa using h)]
  simp
section
variable {X:Cx} {a b:Expr} {ta tb:TD} {pos:Pos}
structure QD (X:Cx) (pos:Pos) (ks:List Key) (keys:List (Option Expr)) (values:List Expr) (t:eI):Prop where
 of ::
 run:∃trs,HD X pos keys values trs∧∀(B:Base) (σ:St) (F H:Hp) (env:En) (Q:List D→Prop) (Z:List (V×V)→Hp→Prop),Rep X.K B F H σ env→t env Q →
  (∀F' H' vs ds,Rep X.K B F' H' σ env→ar F F'→ao X.K F' ds vs→vs.length=ks.length→Q ds→Z ((ks.zip vs).map fun kv=>(kV kv.1,kv.2)) H')→lL trs σ H Z
theorem Bg:QD X pos [] [] [] av:=⟨[],CV,fun B σ F H env Q Z r h k=>k F H [] [] r (ar.refl _) a7 rfl h⟩
theorem CQ {k:Key} {ke v:Expr} {ks:List Key} {keys:List (Option Expr)} {values:List Expr} {tv:TD} {ts:eI} (hk:PE X ke (tC (kV k))) (hv:QE X v tv) (hr:QD X pos ks keys values ts):QD X pos (k :: ks) (some ke :: keys) (v :: values) (af tv ts):=by
 obtain⟨trs,hp,hq⟩:=hr.run
 refine⟨(tC (kV k),wE X v) :: trs,Bx hk bh hp,fun B σ F H env Q Z r h z=>?_⟩
 show tC (kV k) σ H fun x H1=>wE X v σ H1 fun y H2=>lL trs σ H2 fun ps H3=>Z ((x,y) :: ps) H3
 show wE X v σ H fun y H2=>lL trs σ H2 fun ps H3=>Z ((kV k,y) :: ps) H3
 refine aE (hv B σ F H env _ r h) fun y H1 ⟨F1,d,r1,s1,d1,q1⟩=>?_
 refine hq B σ F1 H1 env _ _ r1 q1 fun F' H' vs ds r' s' dl hl q=>?_
 exact z F' H' (y :: vs) (d :: ds) r' (s1.trans s') (aW (Den.mono s' _ _ d1) dl) (by simp [hl]) q
theorem wC {x:Str} {j:Nat} {p:Pos} {v:Expr} {ks:List Key} {keys:List (Option Expr)} {values:List Expr} {tv:TD} {ts:eI} (hv:QE X v tv) (hr:QD X pos ks keys values ts):QD X pos (.inr x :: ks) (some (.Constant (.str x) j p) :: keys) (v :: values) (af tv ts):=CQ A4 hv hr
def qA (ks:List Key) (ts:eI):TD:=fun env Q=>ts env fun xs=>Q (.dct ks xs)
theorem A7 {ks:List Key} {keys:List (Option Expr)} {values:List Expr} {ts:eI} (h:QD X pos ks keys values ts) (hall:keys.all (·.isSome)=true:=by rfl) (hl:keys.length=values.length:=by rfl) (h0:keys≠[]:=by simp) (h15:keys.length≤15:=by decide)
  (hkl:ks.length=keys.length:=by rfl) (nd:ks.Nodup:=by decide +kernel):QE X (.Dict keys values pos) (qA ks ts):=by
 obtain⟨trs,hp,hq⟩:=h.run
 refine⟨fun B σ F H env Q r hh=>bD (Cu hp hall hl h0 h15) fun p hpn=>?_⟩
 have hb:B.H p=none:=r.h0.free hpn
 refine hq (B.guard p (.dK [])) σ F _ env _ _ (r.guarded hpn) hh fun F' H' vs ds r' s' dl hlen q=>?_
 obtain⟨r2,e2,f2⟩:=r'.sa hb
 refine⟨e2,ks.zip vs,rfl,by rw [List.length_zip,hlen,Nat.min_self,hkl];exact h15,?_⟩
 have em:gY [] (ks.zip vs)=ks.zip vs:=by
  rw [kB]
  ·simp
  ·rw [List.nil_append,List.map_fst_zip (by omega)];exact nd
 rw [em]
 obtain⟨r3,s3⟩:=r2.settle (o':=.dK (ks.zip vs)) e2 f2 hb (fun vs z=>by cases z)
 refine⟨_,.dct ks ds,r3,s'.trans s3,?_,q⟩
 simp only [Den]
 exact⟨p,vs,rfl,aI,hlen,ao.mono s3 _ _ dl⟩
def C9:D→Option Key
 | .str x=>some (.inr x)
 | .int i=>some (.inl i)
 | _=>none
theorem zC {K:PySem.W.Frag} {F:Hp} {d:D} {v:V} {k:Key} (h:Den K F d v) (e:C9 d=some k):v=kV k:=by
 cases d <;> simp only [C9,Option.some.injEq] at e <;> first | cases e | skip
 all_goals (simp only [Den] at h;subst h;rfl)
def HW (x y:D) (Q:D→Prop):Prop:=match x with
 | .dct ks xs=>∃k v,C9 y=some k∧vH ks xs k=some v∧Q v
 | _=>False
theorem Eg (hu:X.A.units + 64 < cLine) (ha:QE X a ta) (hb:QE X b tb) (hs:AI b):QE X (.Subscript a b pos) (aC HW ta tb):=by
 refine⟨fun B σ F H env Q r h=>bD (CS (by omega) bh bh hs) ?_⟩
 refine aE (ha B σ F H env _ r h) fun x H1 ⟨F1,d,r1,s1,d1,q1⟩=>?_
 refine aE (hb B σ F1 H1 env _ r1 q1) fun y H2 ⟨F2,d',r2,s2,d2,q2⟩=>?_
 have d1':=Den.mono s2 _ _ d1
 unfold HW at q2
 split at q2
 ·obtain⟨k,v,hk,hv,q⟩:=q2
  simp only [Den] at d1'
  obtain⟨p,vs,rfl,hp,hl,dl⟩:=d1'
  obtain⟨w,hw,dw⟩:=qE dl hv
  have:=zC d2 hk
  subst this
  exact⟨p,w,rfl,by rw [← hw];exact .k (r2.fh _ _ hp),F2,v,r2,s1.trans s2,dw,q⟩
 ·exact q2.elim
end
end L2.L3
namespace L2.L3
open PySem PySem.Spec PyProof.Rows
section
variable {X:Cx} {e:Expr} {ts:eI} {pos:Pos}
end
end L2.L3
namespace L2.L3
open PySem PySem.Spec PyProof.Rows
theorem bF.at {P:Program} {w:World} {H:Hp} {h:Heap} {a:Addr} {o:HO} (x:bF P w H h a o):∃ob,h.get? a=some ob:=by
 cases o with
 | lst xs=>obtain⟨_,_,_,_,e⟩:=x;exact⟨_,e⟩
 | tup xs=>obtain⟨_,_,_,ob,e,_⟩:=x;exact⟨_,e⟩
 | dK kvs=>obtain⟨_,_,_,_,o,_,_,e,_⟩:=x;exact⟨_,e⟩
 | dT kvs=>obtain⟨_,_,_,_,o,_,_,e,_⟩:=x;exact⟨_,e⟩
 | set S n=>obtain⟨o,_,_,_,e,_⟩:=x;exact⟨_,e⟩
 | ins C dx fs=>obtain⟨_,_,_,e,_⟩:=x;exact⟨_,e⟩
 | own y=>exact x
 | xd fs=>obtain⟨_,⟨_,_,_,e,_⟩,_⟩:=x;exact⟨_,e⟩
 | rng lo hi=>obtain⟨_,_,_,e⟩:=x;exact⟨_,e⟩
 | frz ob u=>obtain⟨e,_⟩:=x;exact⟨_,e⟩
 | Cn ps=>exact⟨_,(show h.get? a=some _ from x)⟩
 | met f y=>exact⟨_,(show h.get? a=some _ from x)⟩
 | ext φ=>obtain⟨_,⟨_,e⟩,_⟩:=x;exact⟨_,e⟩
def jg (H:Hp) (h0 h:Heap) (a:Addr) (cls:Value) (dd:Option Addr):Prop:=h0.get? a=none∧H a=none∧∃oe vs,h.get? a=some oe∧oe.cls=cls∧oe.dict=dd∧oe.data=.fields vs ∧
 (vs[1]?=some .none∨∃T oT ts,vs[1]?=some (.ref T)∧h0.get? T=none∧H T=none∧T≠a∧h.get? T=some oT∧oT.data=.fields ts∧ts[3]?=some .none)
abbrev AJ (H:Hp) (h0 h:Heap) (a:Addr) (cls:Value):Prop:=jg H h0 h a cls none
theorem jg.Ek {H:Hp} {g h0 h:Heap} {a:Addr} {cls:Value} {dd:Option Addr} (x:jg H h0 h a cls dd) (k:∀b o,g.get? b=some o→∃o',h0.get? b=some o'):jg H g h a cls dd:=by
 have none_:∀b,h0.get? b=none→g.get? b=none:=fun b e=>by
  cases q:g.get? b with
  | none=>rfl
  | some o=>obtain⟨o',e'⟩:=k b o q;rw [e] at e';cases e'
 obtain⟨n,f,oe,vs,he,hc,hdc,hd,z⟩:=x
 refine⟨none_ a n,f,oe,vs,he,hc,hdc,hd,?_⟩
 rcases z with z | ⟨T,oT,ts,h1,h2,h3⟩
 ·exact .inl z
 ·exact .inr ⟨T,oT,ts,h1,none_ T h2,h3⟩
def Dm (P:Program) (w:World):BL:=fun outer H s E e s'=>∃(a:Addr) (C:Value) (dd:Option Addr) (H':Hp),e=.ref a∧s'.os=s.os∧AllBare s'.gens∧Un (nA outer) [] H H' s.heap s'.heap∧jO P w H' s'.heap∧jg H' s.heap s'.heap a C dd∧E C dd H'
theorem oC {M:Model} {A:Around} {E:Value→Shared→Prop} {s:Shared} {base:Heap} {env:Env} {outer:List Env} {L x:Addr} {ox:Obj} {fs:Array Value} {hd0:Value} {nx0:Bool} {Q:Unit→Shared→Prop}
  (hA:A.frames=some (env :: outer)) (ff:s.heap.FunFrames base (env :: outer)) (hL:env.frame=some L) (hx:s.heap.get? x=some ox) (hdx:ox.data=.fields fs) (h2:1 < fs.size)
  (k:∀h' T oT ts,(∀b o,s.heap.get? b=some o→b≠x→b∉nA (env :: outer)→h'.get? b=some o)→(∀b o,s.heap.get? b=some o→b∈nA (env :: outer)→∃sl,h'.get? b=some { o with slots:=sl }) →
   h'.get? x=some (ox.mapFields (·.setIfInBounds 1 (.ref T)))→s.heap.get? T=none→T≠x→h'.get? T=some oT→oT.data=.fields ts→ts[3]?=some .none→Q () { s with heap:=h' }) :
  wpAny M A (do let a ← frameOf env;let pl ← entryPlaceOf L nx0;let b ← EntryCells.newEntry hd0 a .none (rawInt L) .none pl;setField (.ref x) 1 b) (fun _ s'=>wpAny M A (setFlight (.ref x) none) Q E s') E s:=by
 have xnf:x∉nA (env :: outer):=fun z=>by
  obtain⟨_,o,e,nf⟩:=ff.mem z
  rw [hx] at e;cases e;exact nf fs hdx
 refine wpAny_bind (wpAny_frameOf_fun hA ff hL fun g so=>?_)
 refine wpAny_bind (wpAny_entryPlaceOf fun pl ipl=>?_)
 unfold EntryCells.newEntry newFields
 refine wpAny_bind (wpAny_newObj_type ?_ (ipl.sizeOk5 _ _ _ _ _))
 have gx:g.get? x=some ox:=(so.2.1 x xnf).trans hx
 generalize hno:({ cls:=.type "traceback",dict:=none,data:=.fields ([hd0,.ref L,.none,rawInt L,.none] ++ (if pl.isEmpty then List.replicate 6 Value.none else pl)).toArray }:Obj)=no
 have nod:no.data=.fields ([hd0,.ref L,.none,rawInt L,.none] ++ (if pl.isEmpty then List.replicate 6 Value.none else pl)).toArray:=by rw [← hno]
 have nofree:no.isFreed=false:=Obj.isFreed_of_fields nod
 have gx1:(g.push no).get? x=some ox:=Heap.get?_push_of_some no gx
 have gT1:(g.push no).get? g.objs.size=some no:=Heap.get?_push_size g nofree
 have Tx:g.objs.size≠x:=fun z=>absurd (Heap.lt_size gx) (by rw [z];exact Nat.lt_irrefl _)
 refine wpAny_setField gx1 hdx h2 ?_
 have dx2:=Obj.data_mapFields hdx (·.setIfInBounds 1 (Value.ref g.objs.size))
 have gx2:=Heap.get?_update_self (Obj.mapFields (·.setIfInBounds 1 (Value.ref g.objs.size))) gx1 (Obj.isFreed_of_fields dx2)
 have gT2:((g.push no).update x (Obj.mapFields (·.setIfInBounds 1 (Value.ref g.objs.size)))).get? g.objs.size=some no:=(Heap.get?_update_other _ _ (Ne.symm Tx)).trans gT1
 unfold setFlight
 refine wpAny_bind (wpAny_field gx2 dx2 (x:=.ref g.objs.size) (by simp [h2]) ?_)
 rw [if_pos (show (Value.ref g.objs.size != Value.none)=true from by simp)]
 have sz3:3 < ([hd0,.ref L,.none,rawInt L,.none] ++ (if pl.isEmpty then List.replicate 6 Value.none else pl)).toArray.size:=by
  simp only [List.size_toArray,List.length_append,List.length_cons,List.length_nil];omega
 refine wpAny_setField gT2 nod sz3 ?_
 have oth:∀b,b≠x→b≠g.objs.size→(((g.push no).update x (Obj.mapFields (·.setIfInBounds 1 (Value.ref g.objs.size)))).update g.objs.size (Obj.mapFields (·.setIfInBounds 3 ((none:Option Addr).elim Value.none fun f=>rawInt f)))).get? b=(g.push no).get? b:=fun b b1 b2=>by
  rw [Heap.get?_update_other _ _ (Ne.symm b2),Heap.get?_update_other _ _ (Ne.symm b1)]
 have ne_g:∀b o,g.get? b=some o→b≠g.objs.size:=fun b o e z=>absurd (Heap.lt_size e) (by rw [z];exact Nat.lt_irrefl _)
 have Tn:s.heap.get? g.objs.size=none:=Heap.get?_none_of_le (by rw [so.1];exact Nat.le_refl _)
 refine k _ g.objs.size _ _ (fun b o e b1 b2=>?_) (fun b o e b2=>?_) ?_ Tn Tx (Heap.get?_update_self _ gT2 (Obj.isFreed_of_fields (Obj.data_mapFields nod _))) (Obj.data_mapFields nod _) ?_
 ·have e1:g.get? b=some o:=(so.2.1 b b2).trans e
  rw [oth b b1 (ne_g b o e1)];exact Heap.get?_push_of_some no e1
 ·obtain⟨sl,e1⟩:=so.2.2 b o e
  have b1:b≠x:=fun z=>xnf (z▸b2)
  exact⟨sl,by rw [oth b b1 (ne_g b _ e1)];exact Heap.get?_push_of_some no e1⟩
 ·rw [Heap.get?_update_other _ _ Tx];exact gx2
 ·simp [Array.getElem?_setIfInBounds]
theorem pI (o:Obj) (f:Array Value→Array Value):(o.mapFields f).dict=o.dict:=by
 obtain⟨c,d,dt,sl⟩:=o
 cases dt <;> rfl
theorem Ad {M:Model} {P:Program} {w:World} {A:Around} {env:Env} {outer:List Env} {base:Heap} {H0 H1:Hp} {h0:Heap} {s1:Shared} {a:Addr} {C:Value} {dd:Option Addr} {L:Addr} {Q:Unit→Shared→Prop} {E:Value→Shared→Prop}
  (hfr:A.frames=some (env :: outer)) (hf:env.frame=some L) (FF:s1.heap.FunFrames base (env :: outer)) (ff:∀b∈nA (env :: outer),H1 b=none) (hok:jO P w H1 s1.heap)
  (un:Un (nA (env :: outer)) [] H0 H1 h0 s1.heap) (Fl:jg H1 h0 s1.heap a C dd)
  (h:∀h',Un (nA (env :: outer)) [] H0 H1 h0 h'→jO P w H1 h'→jg H1 h0 h' a C dd→Q () { s1 with heap:=h' }) :
  wpAny M A (noteFrame (.ref a) env) (fun _ s'=>wpAny M A (setFlight (.ref a) none) Q E s') E s1:=by
 obtain⟨n0,na,oe,vs,he,hc,hdc,hd,z⟩:=Fl
 have hsz:1 < vs.size:=by
  rcases z with z | ⟨T,oT,ts,h1,_⟩
  ·exact (Array.getElem?_eq_some_iff.mp z).1
  ·exact (Array.getElem?_eq_some_iff.mp h1).1
 have core:∀(hid:List Addr) (h1:Heap),a∈hid→(∀b∈hid,h0.get? b=none∧H1 b=none)→(∀b o,s1.heap.get? b=some o→b∉hid→h1.get? b=some o)→(∀b,h1.get? b=none→s1.heap.get? b=none) →
   ∀h' T oT ts,(∀b o,h1.get? b=some o→b≠a→b∉nA (env :: outer)→h'.get? b=some o)→(∀b o,h1.get? b=some o→b∈nA (env :: outer)→∃sl,h'.get? b=some { o with slots:=sl }) →
   h'.get? a=some (oe.mapFields (·.setIfInBounds 1 (.ref T)))→h1.get? T=none→T≠a→h'.get? T=some oT→oT.data=.fields ts→ts[3]?=some .none→Q () { s1 with heap:=h' }:=by
  intro hid h1 ha hids hkeep hnone h' T oT ts k1 k2 k3 hTn hTa hT hdT h3
  have keepN:∀b o,s1.heap.get? b=some o→b∉hid→b∉nA (env :: outer)→h'.get? b=some o:=fun b o e nb nf=>k1 b o (hkeep b o e nb) (fun z=>nb (z▸ha)) nf
  have frn:∀b∈nA (env :: outer),∀o,h0.get? b=some o→b∉hid:=fun b _ o e z=>by rw [(hids b z).1] at e;cases e
  have hs:=hnone T hTn
  refine h h' ⟨fun b o e n hb hx=>?_,fun b o e n hb hx=>?_,un.free,fun b o e hx=>?_,un.tups,un.frzs,un.tbls⟩ (fun b u e=>?_) ?_
  ·exact keepN b o (un.keep b o e n hb hx) (fun z=>by rw [(hids b z).1] at e;cases e) hb
  ·obtain⟨s2,e2⟩:=un.slot b o e n hb hx
   obtain⟨s3,e3⟩:=k2 b _ (hkeep b _ e2 (frn b hb o e)) hb
   exact⟨s3,e3⟩
  ·obtain⟨o',e'⟩:=un.there b o e hx
   have nb:b∉hid:=fun z=>by rw [(hids b z).1] at e;cases e
   by_cases hb:b∈nA (env :: outer)
   ·obtain⟨s3,e3⟩:=k2 b o' (hkeep b o' e' nb) hb
    exact⟨_,e3⟩
   ·exact⟨o',keepN b o' e' nb hb⟩
  ·refine (hok b u e).oo (fun c v hc q=>?_) (fun _ q=>q) fun _ _ q=>q
   have hcn:H1 c≠none:=by
    rcases hc with z | z
    ·rw [z,e];simp
    ·rw [z];simp
   exact keepN c v q (fun z=>hcn (hids c z).2) (fun z=>hcn (ff c z))
  ·refine⟨n0,na,_,_,k3,(Obj.cls_mapFields _ _).trans hc,(pI _ _).trans hdc,Obj.data_mapFields hd _,.inr ⟨T,oT,ts,by simp [hsz],?_,?_,hTa,hT,hdT,h3⟩⟩
   ·cases q:h0.get? T with
    | none=>rfl
    | some o=>obtain⟨o',e'⟩:=un.there T o q (by simp);rw [hs] at e';cases e'
   ·cases q:H1 T with
    | none=>rfl
    | some u=>obtain⟨ob,e'⟩:=bF.at (hok T u q);rw [hs] at e';cases e'
 rcases z with z | ⟨T,oT,ts,h1,hT0,hTn,hTa,hT,hdT,h3⟩
 ·
  unfold noteFrame
  simp only [hf]
  refine wpAny_bind (wpAny_field he hd z ?_)
  rw [if_neg (by decide)]
  exact oC hfr FF hf he hd hsz (core [a] s1.heap (by simp) (fun b hb=>by rw [List.mem_singleton.mp hb];exact⟨n0,na⟩) (fun b o e _=>e) (fun b e=>e))
 ·
  unfold noteFrame
  simp only [hf]
  refine wpAny_bind (wpAny_field he hd h1 ?_)
  rw [if_pos (show (Value.ref T != Value.none)=true from by simp)]
  refine wpAny_bind (wpAny_field hT hdT h3 ?_)
  rw [if_neg (show ¬ ((Value.none == rawInt L)=true) from by simp [rawInt])]
  refine wpAny_bind (wpAny_setField hT hdT (Array.getElem?_eq_some_iff.mp h3).1 ?_)
  have other:∀b,b≠T→(s1.heap.update T (Obj.mapFields (·.setIfInBounds 3 Value.none))).get? b=s1.heap.get? b:=fun b hb=>Heap.get?_update_other _ _ (Ne.symm hb)
  have noRec:∀b o,s1.heap.get? b=some o→(∀vs,o.data≠.fields vs)→b≠T:=fun b o hb hnf q=>by
   subst q;rw [hT] at hb;cases hb;exact hnf ts hdT
  refine oC (s:={ s1 with heap:=s1.heap.update T (Obj.mapFields (·.setIfInBounds 3 Value.none)) }) hfr (FF.of_keeps fun b o hb hnf=>⟨o,(other b (noRec b o hb hnf)).trans hb,rfl⟩) hf ((other a (Ne.symm hTa)).trans he) hd hsz ?_
  refine core [a,T] _ (by simp) (fun b hb=>?_) (fun b o e nb=>?_) (fun b e=>?_)
  ·rcases List.mem_cons.mp hb with z | hb
   ·subst z;exact⟨n0,na⟩
   ·rw [List.mem_singleton.mp hb];exact⟨hT0,hTn⟩
  ·rwa [other b (fun z=>nb (by simp [z]))]
  ·by_cases z:b=T
   ·subst z
    have:=Heap.get?_update_self (Obj.mapFields (·.setIfInBounds 3 Value.none)) hT (Obj.isFreed_of_fields (Obj.data_mapFields hdT _))
    rw [this] at e;cases e
   ·rwa [other b z] at e
end L2.L3
namespace L2.L3
open PySem PySem.Spec PyProof.Rows
def c5 (X:Cx) (pins:List (Addr×Obj)) (σ:St) (H':Hp) (a:Addr) (C:Value) (dd:Option Addr) (s':Shared):Prop:=∃(Hc:Hp) (sc:Shared),Inv X pins σ Hc sc∧s'.os=sc.os∧AllBare s'.gens∧Un (nA X.stack) [] Hc H' sc.heap s'.heap∧jO X.prog X.w H' s'.heap∧jg H' sc.heap s'.heap a C dd
abbrev jj (X:Cx) (pins:List (Addr×Obj)) (σ:St) (H':Hp) (a:Addr) (C:Value) (s':Shared):Prop:=c5 X pins σ H' a C none s'
section
variable {X:Cx} {pins:List (Addr×Obj)} {σ:St} {H H':Hp} {a:Addr} {C:Value} {dd:Option Addr} {s s':Shared}
theorem c5.inv (t:c5 X pins σ H' a C dd s'):Inv X pins σ H' s':=by
 obtain⟨Hc,sc,I,os,bare,un,hok,fl⟩:=t
 exact I.Bn os un hok bare fun b z=>absurd z (by simp)
theorem jj.made {vs:List Value} {h':Heap} {e:Addr} (I:Inv X pins σ H s) (m:Heap.MadeExcOf s.heap h' e C vs):jj X pins σ H e C { s with heap:=h' }:=by
 obtain⟨t,ht,_⟩:=m.there
 have hn:H e=none:=by
  cases q:H e with
  | none=>rfl
  | some u=>obtain⟨ob,z⟩:=bF.at (I.hok e u q);rw [m.new] at z;cases z
 exact⟨H,s,I,rfl,I.bare,Un.kept m.keeps,I.hok.kept m.keeps,m.new,hn,_,_,ht,rfl,rfl,rfl,.inl rfl⟩
theorem c5.note {Q:Unit→Shared→Prop} {E:Value→Shared→Prop} (t:c5 X pins σ H' a C dd s') (hst:X.stack=X.env :: X.outer) (hf:X.env.frame=some X.env.locals)
  (h:∀s'',c5 X pins σ H' a C dd s''→Q () s''):wpAny (model X.prog X.w) X.A (noteFrame (.ref a) X.env) (fun _ s=>wpAny (model X.prog X.w) X.A (setFlight (.ref a) none) Q E s) E s':=by
 have I':=t.inv
 obtain⟨Hc,sc,I,os,bare,un,hok,fl⟩:=t
 have hfr:=I'.ok.frames
 have FF:=I'.stack
 have ff:=I'.sN
 rw [hst] at hfr FF ff un
 refine Ad hfr hf FF ff hok un fl fun h' un' hok' fl'=>h _ ⟨Hc,sc,I,os,bare,by rw [hst];exact un',hok',fl'⟩
theorem c5.leave {P:Program} {w:World} {K:PySem.W.Frag} {mg:Str→Option Value} {base:Heap} {N:List Str} {qual:Str} {scope:Scope} {f:Addr} {cd:Value} {A:Around} {outer:List Env} {s0:Shared} {H0:Hp} {E:XK}
  (t:c5 (fY (Dm P w) P w K mg base N qual scope f cd A outer s0 H0 E) pins σ H' a C dd s') (q:E C dd H'):(fY (Dm P w) P w K mg base N qual scope f cd A outer s0 H0 E).xe (.ref a) s':=by
 show wpAny (model P w) _ (leaving _ (.ref a)) _ _ s'
 unfold leaving
 refine wpAny_bind (t.note rfl rfl fun s'' t''=>?_)
 have I:=t''.inv
 obtain⟨Hc,sc,Ic,os,bare,un,hok,fl⟩:=t''
 refine⟨a,C,dd,H',rfl,I.os,I.bare,I.base,I.hok,fl.Ek fun b o e=>?_,q⟩
 exact Ic.base.there b o e (by show b∉([]:List Addr);simp)
end
structure v5 extends Ends3 where
 xc:Str→Prop
abbrev sW:=v5→En→Prop
def XZ (X:Cx) (B:Base) (xc:Str→Prop):Value→Shared→Prop:=fun ex s'=>∃(pins:List (Addr×Obj)) (a:Addr) (c:Str) (C:Value) (σ':St) (H' F':Hp) (env':En),ex=.ref a∧jj X pins σ' H' a C s'∧Rep X.K B F' H' σ' env'∧X.mg c=some C∧xc c
structure QZ (X:Cx) (st:Stmt) (t:sW):Prop where
 of ::
 run:∀(B:Base) (σ:St) (F H:Hp) (env:En) (D:v5),Rep X.K B F H σ env→t D env→wS (X.cv (XZ X B D.xc)) st (RS X B D.toEnds3) σ H
structure GL (X:Cx) (st:List Stmt) (t:sW):Prop where
 of ::
 run:∀(B:Base) (σ:St) (F H:Hp) (env:En) (D:v5),Rep X.K B F H σ env→t D env→wSs (X.cv (XZ X B D.xc)) st (RS X B D.toEnds3) σ H
section
variable {X:Cx} {c e:Expr} {es:List Expr} {st:Stmt} {sts xs ys:List Stmt} {t u:bC} {p q:sW} {tc:TB} {te:TD} {ts:eI} {pos:Pos}
theorem SP.xR {E E':Value→Shared→Prop} {pins:List (Addr×Obj)} {D:Ends} {f:Flow} {s':Shared} (h:SP (X.cv E) pins D f s'):SP (X.cv E') pins D f s':=by
 cases f with
 | next=>obtain⟨σ',H',I,q⟩:=h;exact⟨σ',H',I.bj.cv _,q⟩
 | brk=>obtain⟨σ',H',I,q⟩:=h;exact⟨σ',H',I.bj.cv _,q⟩
 | cont=>obtain⟨σ',H',I,q⟩:=h;exact⟨σ',H',I.bj.cv _,q⟩
 | ret u=>obtain⟨v,σ',H',I,r,q⟩:=h;exact⟨v,σ',H',I.bj.cv _,r,q⟩
theorem EO {E:Value→Shared→Prop} {D:Ends} {σ:St} {H:Hp} (h:wS X.nF st D σ H):wS (X.cv E) st D σ H:=fun pins s I =>
 wpAny_mono (h pins s (I.bj.cv _)) (fun _ _ q=>SP.xR q) fun _ _ z=>False.elim z
theorem DL {E:Value→Shared→Prop} {D:Ends} {σ:St} {H:Hp} (h:wSs X.nF sts D σ H):wSs (X.cv E) sts D σ H:=fun pins s I =>
 wpAny_mono (h pins s (I.bj.cv _)) (fun _ _ q=>SP.xR q) fun _ _ z=>False.elim z
theorem AX {E:Value→Shared→Prop} {Q:Bool→Hp→Prop} {σ:St} {H:Hp} (h:wT X.nF c σ H Q):wT (X.cv E) c σ H Q:=fun pins s I =>
 wpAny_mono (h pins s (I.bj.cv _)) (fun _ _ ⟨H',I',q⟩=>⟨H',I'.bj.cv _,q⟩) fun _ _ z=>False.elim z
theorem E9 {E:Value→Shared→Prop} {Q:VK} {σ:St} {H:Hp} (h:wE X.nF e σ H Q):wE (X.cv E) e σ H Q:=fun pins s I =>
 wpAny_mono (h pins s (I.bj.cv _)) (fun _ _ ⟨v,H',I',r,q⟩=>⟨v,H',I'.bj.cv _,r,q⟩) fun _ _ z=>False.elim z
theorem BQ {E:Value→Shared→Prop} {Q:List V→Hp→Prop} {σ:St} {H:Hp} (h:wA X.nF es σ H Q):wA (X.cv E) es σ H Q:=fun pos pins s I =>
 wpAny_mono (h pos pins s (I.bj.cv _)) (fun _ _ ⟨v,H',I',r,q⟩=>⟨v,H',I'.bj.cv _,r,q⟩) fun _ _ z=>False.elim z
def Cj (t:bC):sW:=fun D env=>t D.toEnds3 env
theorem va (h:QS X.nF st t):QZ X st (Cj t):=⟨fun B σ F H env D r hq=>EO (h B σ F H env D.toEnds3 r hq)⟩
theorem EA (h:mI X.nF sts t):GL X sts (Cj t):=⟨fun B σ F H env D r hq=>DL (h B σ F H env D.toEnds3 r hq)⟩
def uB (t u:sW):sW:=fun D env=>t { D with nx:=u D } env
theorem sC (h:QZ X st p):GL X [st] p:=⟨fun B σ F H env D rp hq=>lV (si Ag) (h.run B σ F H env D rp hq)⟩
def Iv (c:TB) (t u:sW):sW:=fun D env=>c env fun k=>if k=true then t D env else u D env
theorem G5 (hc:QT X.nF c tc) (ha:GL X xs p) (hb:GL X ys q):QZ X (.If c xs ys pos) (Iv tc p q):=by
 refine⟨fun B σ F H env D rp h=>dA (Ed qi d9 d9) ?_⟩
 refine gk (AX (hc B σ F H env _ rp h)) fun k H1 ⟨F1,r1,s1,q1⟩=>?_
 cases k with
 | true=>exact ha.run B σ F1 H1 env D r1 q1
 | false=>exact hb.run B σ F1 H1 env D r1 q1
theorem Dn {K:PySem.W.Frag} {h:Heap} {C:Addr} {bmB:List Value} {newId:String} (X:K.In h) (q:PySem.W.excIn K C bmB newId=true) :
  ∃bm N nm qn bs hdct sn sub ab col dd k0 k1 k2 k3 k5 mN,h.get? C=some (excClassObj nm qn C N bs bm hdct sn sub ab col dd k0 k1 k2 k3 k5 newId)∧h.Ns N mN∧mN "__init__" = none∧OwnTail h bmB bm:=by
 unfold PySem.W.excIn at q
 split at q
 ·rename_i dd cd sl ho
  split at q
  ·rename_i C' bm k0 k1 k2 k3 n k5 hm hs
   simp only [Bool.and_eq_true,beq_iff_eq,Bool.not_eq_true'] at q
   obtain⟨⟨⟨⟨⟨rfl,rfl⟩,hdel⟩,ht⟩,hok⟩,hni⟩:=q
   obtain⟨nm,bs,mro,ns,qn,hd,sn,sub,ab,col,del⟩:=cd
   dsimp only at hm hdel hok hni
   subst hm hdel
   have hsl:sl=#[k0,k1,k2,k3,some (.builtin n),k5]:=by
    obtain⟨l⟩:=sl
    simp only at hs
    rw [hs]
   subst hsl
   exact⟨bm,ns,nm,qn,bs,hd,sn,sub,ab,col,dd,k0,k1,k2,k3,k5,_,X _ _ ho,.of_isNs (PySem.W.isNs_of_in X hok),PySem.W.nsMap_none_of_in X hok hni,PySem.W.tail_of_in X ht⟩
  ·cases q
 ·cases q
abbrev DZ (K:PySem.W.Frag) (C:Addr):Bool:=PySem.W.excIn K C [.type "ValueError",.type "Exception",.type "BaseException",.type "object"] "ValueError.__new__"
def nZ (cx:Str) (ts:eI):sW:=fun D env=>ts env fun xs=>xs.length≤sizeLine∧D.xc cx
theorem BS {cx:Str} {C:Addr} {np cpos:Pos} (hC:X.mg cx=some (.ref C)) (hq:DZ X.K C=true) (hc:X.calm=true) (ha:QA X.nF [e] ts) (hg:Gl X cx:=by rfl) (hdb:(cx == ("__debug__" : Str))=false:=by decide)
  (he:starEach [e] X.env=(false,eval e X.env) :: starEach [] X.env:=by exact aR rfl) (hplain:(backTo cpos (starEach ([]:List Expr) X.env)).any (·.1)=false:=by rfl) :
  QZ X (.Raise (some (.Call (.Name cx np) [e] [] cpos)) none pos) (nZ cx ts):=by
 refine⟨fun B σ F H env D rp h pins s I=>?_⟩
 have I0:=I.bj
 obtain⟨bm,N,nm,qn,bs,hdct,sn,sub,ab,col,dd,k0,k1,k2,k3,k5,mN,hCo,hN,hni,T⟩:=Dn I0.ok.mod.kin hq
 refine wpAny_Raise_call_subT (C:=C) (nm:=nm) (q:=qn) (N:=N) (bs:=bs) (bm:=bm) (hdct:=hdct) (sn:=sn) (sub:=sub) (ab:=ab) (col:=col) (dd:=dd) (k0:=k0) (k1:=k1) (k2:=k2) (k3:=k3) (k5:=k5)
  PySem.F.excBase_ValueError (mN:=mN) (T.hasType (by decide +kernel)) (I0.ok.hd hc) (by rw [he];show (false || (backTo cpos (starEach [] X.env)).any (·.1))=false;rw [hplain];rfl) hni (hV I hg hC ⟨rfl,?_⟩ hdb)
 have hw:=BQ (E:=XZ X B D.xc) (ha B σ F H env _ rp h) cpos pins s I
 rw [he] at hw ⊢
 refine Calls.evalArgs_plain (wpAny_mono hw (fun us s2 ⟨vs,H2,I2,rv,F2,ds,r2,s2',d2,hl,q2⟩=>⟨rfl,?_,?_,?_,?_,fun h' e' m=>?_⟩) fun _ _ y=>y)
 ·show us.length≤sizeLine
  rw [← rv.length,← d2.length];exact hl
 ·exact I2.bk _ _ hCo
 ·exact hN.keeps I2.bk
 ·exact T.keeps I2.bk
 ·exact⟨pins,e',cx,.ref C,σ,H2,F2,env,rfl,jj.made I2.bj m,r2,hC,q2⟩
end
end L2.L3
namespace L2.L3
open PySem PySem.Spec PyProof.Rows
abbrev zz:=List D→(D→Prop)→(Str→Prop)→Prop
def JM (K:PySem.W.Frag) (mg:Str→Option Value) (f:zz):Sp:=fun vs H Q E=>∃(F:Hp) (ds:List D) (P:D→Prop) (R:Str→Prop),ar F H∧ao K F ds vs∧f ds P R ∧
 (∀(d:D) (v:V) (F' H':Hp),ar F F'→ar H H'→ar F' H'→(∀p,H p≠none→F p=none→F' p=none)→Den K F' d v→P d→Q v H') ∧
 ∀(c:Str) (C:Value) (F' H':Hp),ar F F'→ar H H'→ar F' H'→(∀p,H p≠none→F p=none→F' p=none)→mg c=some C→R c→E C none H'
structure fP (P:Program) (w:World) (K:PySem.W.Frag) (mg:Str→Option Value) (base:Heap) (k:Nat) (x:Str) (f:zz):Prop where
 ex:∃(fa:Addr) (fd:FuncData) (ps:List Str),l7 P w K mg base (Dm P w) k fa fd ps (JM K mg f)∧mg x=some (.ref fa)∧PySem.W.keepIn K (.ref fa)=true∧Binds K fd ps []
section
variable {P:Program} {w:World} {K:PySem.W.Frag} {mg:Str→Option Value} {base:Heap}
theorem mX.sP {x qual:Str} {st:Stmt} {fa:Addr} {fd:FuncData} {N ps:List Str} {k:Nat} {f:zz} (F:mX K x qual st fa fd) (S:aG N ps (ak st)) (hmg:mg x=some (.ref fa)) (hb:Binds K fd ps [])
  (hl:∀ds Q R,f ds Q R→ds.length=ps.length)
  (hbody:∀(cdv:Value) (A:Around) (outer:List Env) (s:Shared) (H:Hp) (E:XK),cY k (A.deeper (envOfC qual (ak st) s.heap.objs.size fa cdv)) →
   ∃t,GL (fY (Dm P w) P w K mg base N qual (ak st) fa cdv A outer s H E) (a8 st) t∧∀ds (Q:D→Prop) (R:Str→Prop),f ds Q R→t { nx:=fun _=>Q .non,rt:=Q,xc:=R } (aJ N ds)) :
  fP P w K mg base (k + 1) x f:=by
 refine⟨fa,fd,ps,?_,hmg,F.kp,hb⟩
 obtain⟨oc,od,kV,doc,pm,an,cdv,ct,osl,rfl,lk,hcd⟩:=F.ex
 refine yM lk hcd S (fun vs H Q E h=>?_) fun A outer s H vs Q E hr h=>?_
 ·obtain⟨F0,ds,P,R,_,hd,hf,_⟩:=h
  rw [← hd.length];exact hl ds _ _ hf
 ·obtain⟨F0,ds,P',R,fh,hd,hf,kk,kx⟩:=h
  obtain⟨t,ht,hq⟩:=hbody cdv A outer s H E hr
  refine⟨_,d9,?_⟩
  have core:=ht.run _ (start N vs) F0 H (aJ N ds) _ (fS fh hd) (hq ds P' R hf)
  intro pins s1 I
  refine wpAny_mono (core pins s1 (I.cv _)) (fun fl s2 z=>?_) fun ex s2 z=>?_
  ·refine nH (SP.bj z) (fun σ' H' ⟨F',env',r,q⟩=>?_) (fun v H' ⟨F',d',r,dd,q⟩=>?_) (fun _ _ ⟨_,_,_,q⟩=>q) (fun _ _ ⟨_,_,_,q⟩=>q)
   ·exact kk .non .non F' H' r.f0 r.h0 r.fh (fun p h1 h2=>r.nf p ⟨h1,h2⟩) jx q
   ·exact kk d' v F' H' r.f0 r.h0 r.fh (fun p h1 h2=>r.nf p ⟨h1,h2⟩) dd q
  ·obtain⟨pins',a,c,C,σ',H',F',env',rfl,th,r,hm,hx⟩:=z
   exact th.leave (kx c C F' H' r.f0 r.h0 r.fh (fun p h1 h2=>r.nf p ⟨h1,h2⟩) hm hx)
end
abbrev TX:=En→(D→Prop)→(Str→Prop)→Prop
def XX (X:Cx) (pins:List (Addr×Obj)) (σ:St) (B:Base) (env:En) (R:Str→Prop):Value→Shared→Prop:=fun ex s'=>∃(a:Addr) (c:Str) (C:Value) (H' F':Hp),ex=.ref a∧jj X pins σ H' a C s'∧Rep X.K B F' H' σ env∧X.mg c=some C∧R c
structure QX (X:Cx) (e:Expr) (t:TX):Prop where
 of ::
 run:∀(B:Base) (σ:St) (F H:Hp) (env:En) (Q:D→Prop) (R:Str→Prop),Rep X.K B F H σ env→t env Q R→∀(pins:List (Addr×Obj)) (s:Shared),Inv X pins σ H s →
  wpAny (model X.prog X.w) X.A (eval e X.env) (EP X pins σ (RV X B σ env F Q)) (XX X pins σ B env R) s
def mf (f:zz) (ts:eI):TX:=fun env Q R=>ts env fun xs=>f xs Q R
section
variable {X:Cx} {e:Expr} {es:List Expr} {ts:eI} {tx:TX} {p pos:Pos} {x:Str} {k:Nat} {f:zz}
theorem tQ (h:fP X.prog X.w X.K X.mg X.base k x f) (hr:cY k X.A) (ha:QA X.nF (e :: es) ts) (hg:Gl X x:=by rfl) (hdb:(x == ("__debug__" : Str))=false:=by decide)
  (he:starEach (e :: es) X.env=(false,eval e X.env) :: starEach es X.env:=by exact aR rfl) (hpl:(backTo pos (starEach es X.env)).any (·.1)=false:=by rfl):QX X (.Call (.Name x p) (e :: es) [] pos) (mf f ts):=by
 refine⟨fun B σ F H env Q R rp hq pins s I=>?_⟩
 obtain⟨fa,fd,ps,G,hm,hk,hb⟩:=h.ex
 refine wpAny_Call_Name_kw (hV I hg hm ?_ hdb)
 have hw:=BQ (E:=XX X pins σ B env R) (ha B σ F H env _ rp hq) pos pins s (I.cv _)
 refine PySem.W.callWith_K (h₀:=X.base) I.ok.mod.kin hk (bP hw fun us s1 ⟨vs,H1,I1,r,F1,ds,r1,s1',d1,hf⟩=>⟨I1.qR,?_⟩) he hpl
 have I1':=I1.bj
 have hsp:JM X.K X.mg f (vs ++ []) H1 (RV X B σ env F Q) (fun C dd H'=>dd=none∧∃(c:Str) (F':Hp),Rep X.K B F' H' σ env∧X.mg c=some C∧R c):=by
  rw [List.append_nil]
  exact⟨F1,ds,Q,R,r1.fh,d1,hf,fun d v F' H' a b c n hd q=>⟨F',d,r1.ext a c b n,s1'.trans a,hd,q⟩,fun c C F' H' a b c' n hm hx=>⟨rfl,c,F',r1.ext a c' b n,hm,hx⟩⟩
 have hl:(us ++ []).length=ps.length:=by
  have:=G.len _ _ _ _ hsp
  rw [List.append_nil] at this ⊢
  rw [← r.length];exact this
 refine wpAny_call (codeAny_mono (G.run X.A X.stack s1 H1 ⟨us,[]⟩ (us ++ []) (vs ++ []) _ _ hr I1'.hW (hb s1 us I1'.qR hl) (by simpa using r) hsp) fun rs s' hq'=>?_)
 cases rs with
 | error ex =>
  obtain⟨a,C,dd,H',rfl,os,bare,un,hok,fl,rfl,c,F',r',hm',hx⟩:=hq'
  exact⟨a,c,C,H',F',rfl,⟨H1,s1,I1',os,bare,un,hok,fl⟩,r',hm',hx⟩
 | ok fl =>
  cases fl with
  | ret u=>exact I1'.after hq'
  | next=>exact False.elim hq'
  | brk=>exact False.elim hq'
  | cont=>exact False.elim hq'
theorem QX.w (h:QX X e tx) {B:Base} {σ:St} {F H:Hp} {env:En} {Q:D→Prop} {R:Str→Prop} (rp:Rep X.K B F H σ env) (hq:tx env Q R):wE (X.cv (XZ X B R)) e σ H (RV X B σ env F Q):=fun pins s I =>
 wpAny_mono (h.run B σ F H env Q R rp hq pins s I.bj) (fun _ _ ⟨v,H',I',r,q⟩=>⟨v,H',I'.cv _,r,q⟩) fun ex s' ⟨a,c,C,H',F',e,t,r,m,x⟩=>⟨pins,a,c,C,σ,H',F',env,e,t,r,m,x⟩
def CW (tx:TX):sW:=fun D env=>tx env D.rt D.xc
theorem Fx (h:QX X e tx):QZ X (.Return (some e) pos) (CW tx):=by
 refine⟨fun B σ F H env D rp hq=>dA (xA bh) ?_⟩
 exact aE (h.w rp hq) fun v H' ⟨F',d,r',s',hd,q⟩=>⟨F',d,r'.bare,hd,q⟩
end
section
variable {X:Cx} {pins:List (Addr×Obj)} {σ:St} {H H':Hp} {a:Addr} {s s':Shared}
theorem AJ.ext {a C:Addr} {h:Heap} {H:Hp} {h0:Heap} (f:AJ H h0 h a (.ref C)):excAt a C h:=by
 obtain⟨_,_,oe,vs,he,hc,hdc,hdt,_⟩:=f
 exact⟨oe,vs,he,hc,hdc,hdt⟩
end
end L2.L3
namespace L2.L3
open PySem PySem.Spec PyProof.Rows
section
variable {X:Cx} {pins:List (Addr×Obj)} {σ:St} {H H':Hp} {a C:Addr} {s s':Shared}
theorem jj.Gy (t:jj X pins σ H' a (.ref C) s'):H' a=none∧Inv X pins σ (upd H' a (.ext (excAt a C))) s':=by
 obtain⟨Hc,sc,I,os,bare,un,hok,fl⟩:=t
 have x:=AJ.ext fl
 obtain⟨n0,na,_⟩:=fl
 refine⟨na,I.Bn os ⟨un.keep,un.slot,fun b o e n hx=>?_,un.there,fun b xs e=>?_,fun b o u e=>?_,fun b ps e=>?_⟩ (fun b u e=>?_) bare fun b z=>absurd z (by simp)⟩
 ·have:b≠a:=fun z=>by subst z;rw [n0] at e;cases e
  rw [aB this];exact un.free b o e n hx
 ·have q:=un.tups b xs e
  rw [aB (bS q na)];exact q
 ·have q:=un.frzs b o u e
  rw [aB (bS q na)];exact q
 ·obtain⟨more,q⟩:=un.tbls b ps e
  exact⟨more,by rw [aB (bS q na)];exact q⟩
 ·by_cases z:b=a
  ·subst z
   rw [aI] at e;cases e
   obtain⟨o,vs,h1,h2⟩:=x
   exact⟨⟨o,vs,h1,h2⟩,⟨o,h1⟩,fun h h' ⟨o,vs,h1,h2⟩ k=>⟨o,vs,k o h1,h2⟩⟩
  ·rw [aB z] at e
   exact (hok b u e).oo (fun _ _ _ q=>q) (fun c q=>by rw [aB (bS q na)];exact q) fun c xs q=>by rw [aB (bS q na)];exact q
theorem c5.land {M:Model} {A:Around} {C:Value} {dd:Option Addr} {Q:Unit→Shared→Prop} {E:Value→Shared→Prop} (t:c5 X pins σ H' a C dd s') (h:∀s'',c5 X pins σ H' a C dd s''→Q () s''):wpAny M A (setFlight (.ref a) none) Q E s':=by
 obtain⟨Hc,sc,I,os,bare,un,hok,n0,na,oe,vs,he,hc,hdc,hd,z⟩:=t
 rcases z with z | ⟨T,oT,ts,h1,hT0,hTn,hTa,hT,hdT,h3⟩
 ·unfold setFlight
  refine wpAny_bind (wpAny_field he hd z ?_)
  rw [if_neg (by decide)]
  exact wpAny_pure (h _ ⟨Hc,sc,I,os,bare,un,hok,n0,na,oe,vs,he,hc,hdc,hd,.inl z⟩)
 ·refine wpAny_setFlight_none he hd h1 hT hdT (Array.getElem?_eq_some_iff.mp h3).1 (h _ ?_)
  have other:∀b,b≠T→(s'.heap.update T (Obj.mapFields (·.setIfInBounds 3 Value.none))).get? b=s'.heap.get? b:=fun b hb=>Heap.get?_update_other _ _ (Ne.symm hb)
  have old:∀b o,sc.heap.get? b=some o→b≠T:=fun b o e z=>by subst z;rw [hT0] at e;cases e
  have Fo:∀b u,H' b=some u→b≠T:=fun b u e z=>by subst z;rw [hTn] at e;cases e
  refine⟨Hc,sc,I,os,bare,⟨fun b o e n hb hx=>(other b (old b o e)).trans (un.keep b o e n hb hx),fun b o e n hb hx=>?_,un.free,fun b o e hx=>?_,un.tups,un.frzs,un.tbls⟩,fun b u e=>?_,n0,na,oe,vs,(other a (Ne.symm hTa)).trans he,hc,hdc,hd,.inr ⟨T,_,_,h1,hT0,hTn,hTa,Heap.get?_update_self _ hT (Obj.isFreed_of_fields (Obj.data_mapFields hdT _)),Obj.data_mapFields hdT _,?_⟩⟩
  ·obtain⟨sl,q⟩:=un.slot b o e n hb hx
   exact⟨sl,(other b (old b o e)).trans q⟩
  ·obtain⟨o',q⟩:=un.there b o e hx
   exact⟨o',(other b (old b o e)).trans q⟩
  ·refine (hok b u e).oo (fun c v hc q=>?_) (fun _ q=>q) fun _ _ q=>q
   refine (other c ?_).trans q
   rcases hc with z | z
   ·subst z;exact Fo c u e
   ·exact Fo c _ z
  ·have:=(Array.getElem?_eq_some_iff.mp h3).1
   simp [Array.getElem?_setIfInBounds,this]
theorem Inv.IV {h':Heap} {m':Str→Option Value} {t':Nat} (I:Inv X pins σ H s) (hn:h'.Ns X.env.locals m') (hs:Heap.SameBut X.env.locals s.heap h'):Inv X pins (σ.map fun _=>none) H { s with heap:=h',toks:=t' }:=by
 have lo:∀b o,X.s₀.heap.get? b=some o→b≠X.env.locals:=fun b o e=>Nat.ne_of_lt (Nat.lt_of_lt_of_le (Heap.lt_size e) I.ok.above)
 refine⟨I.ok,I.os,I.bare,⟨fun b o e n hb hx=>(hs.2 b (lo b o e)).trans (I.base.keep b o e n hb hx),fun b o e n hb hx=>?_,I.base.free,fun b o e hx=>?_,I.base.tups,I.base.frzs,I.base.tbls⟩,⟨m',hn,fun i x v e1 e2=>?_⟩,fun y c e=>?_,I.free,I.freeC,fun p hp=>?_,fun b ob e=>?_,by simpa using I.len⟩
 ·obtain⟨sl,e1⟩:=I.base.slot b o e n hb hx
  exact⟨sl,(hs.2 b (lo b o e)).trans e1⟩
 ·obtain⟨o',e1⟩:=I.base.there b o e hx
  exact⟨o',(hs.2 b (lo b o e)).trans e1⟩
 ·rw [List.getElem?_map] at e2
  cases q:σ[i]? with
  | none=>rw [q] at e2;cases e2
  | some u=>rw [q] at e2;cases e2
 ·obtain⟨w',z⟩:=I.cell y c e
  exact⟨w',z.sameBut hs (I.D0 y c e)⟩
 ·obtain⟨e,n,ne,nf,d⟩:=I.pin p hp
  exact⟨(hs.2 p.1 ne).trans e,n,ne,nf,d⟩
 ·refine (I.hok b ob e).oo (fun c w' hc q=>(hs.2 c ?_).trans q) (fun _ q=>q) fun _ _ q=>q
  have hfree:=I.free
  rintro rfl
  rcases hc with z | hc
  ·rw [← z,hfree] at e;cases e
  ·rw [hfree] at hc;cases hc
end
abbrev Cx.hand (X:Cx) (a:Addr):Cx:={ X with A:=X.A.mark (some (.ref a)),calm:=false,xe:=fun _ _=>False }
theorem Inv.hand {X:Cx} {pins:List (Addr×Obj)} {σ:St} {H:Hp} {s:Shared} (I:Inv X pins σ H s) (a:Addr):Inv (Cx.hand X a) pins σ H s :=
 ⟨⟨I.ok.mod,I.ok.kind,I.ok.glob,I.ok.blt,I.ok.above,I.ok.inj,I.ok.has,I.ok.cab,(fun z=>by cases z),I.ok.frames,I.ok.stk,I.ok.exf,I.ok.bs,I.ok.bsz,I.ok.noex,I.ok.exfs,I.ok.kj,I.ok.frf⟩,I.os,I.bare,I.base,I.loc,I.cell,I.free,I.freeC,I.pin,I.hok,I.len⟩
theorem Inv.Gg {X:Cx} {a:Addr} {pins:List (Addr×Obj)} {σ:St} {H:Hp} {s:Shared} (ok:X.Ok) (I:Inv (Cx.hand X a) pins σ H s):Inv X pins σ H s :=
 ⟨ok,I.os,I.bare,I.base,I.loc,I.cell,I.free,I.freeC,I.pin,I.hok,I.len⟩
structure vx (K:PySem.W.Frag) (C:Addr):Prop where
 ga:PySem.W.findIn K (.ref C) "__getattribute__" = some (some (.builtin "BaseException.__getattribute__"))
 hk:PySem.W.findIn K (.ref C) "__getattr__" = some none
 dct:PySem.W.hasDictIn K C=true
 fnd:PySem.W.findIn K (.ref C) "__class__" = some (some (.builtin "object.__class__"))
 gt:PySem.W.specialIn K (.builtin "object.__class__") "__get__" = some (some (.builtin "getset_descriptor.__get__"))
 tk:PySem.W.takesIn K (.builtin "object.__class__")=some true
 mro:PySem.W.mroIn K C (.type "object")=some true
 sub:PySem.W.subIn K (.ref C) (.type "BaseException")=some true
theorem find_none {K:PySem.W.Frag} {C:Addr} {name:Str} {a g:Value} (hc:(PySem.W.clsIn K C).isSome=true) (ha:PySem.W.findIn K (.ref C) name=some (some a)) (hg:PySem.W.specialIn K a "__get__" = some (some g)) (ht:PySem.W.takesIn K a=some true) :
  PySem.W.findObj K C none name=some (.bind g a):=by
 obtain⟨cd,hc⟩:=Option.isSome_iff_exists.mp hc
 unfold PySem.W.findObj
 rw [hc,Option.bind_some,ha,Option.bind_some]
 simp [hg,ht]
section
variable {prog:Program} {w:World} {A:Around} {E:Value→Shared→Prop} {K:PySem.W.Frag} {x C:Addr} {ox:Obj} {h:Heap} {g:Array GenState} {d:Drawn} {t:Nat} {os:OsState}
theorem Bu (O:vx K C):PySem.W.findObj K C none "__class__" = some (.bind (.builtin "getset_descriptor.__get__") (.builtin "object.__class__")) :=
 find_none (by obtain⟨cd,hc,_⟩:=PySem.W.any_some O.dct;rw [hc];rfl) O.fnd O.gt O.tk
theorem zH {tk:Tok} {Q:Fin→Shared→Prop} (O:vx K C) (X:K.In h) (I:PySem.W.InstAt h x ox C none) (hq:Q (.done (.ret (.ref C))) ⟨h,g,d,t,os⟩) :
  wpAny (model prog w) A (Builtin.«object.__getattribute__» ⟨[.ref x,.str "__class__" tk],[]⟩) Q E ⟨h,g,d,t,os⟩:=by
 have L0:=I.type (M:=model prog w)
 have L1:=PySem.W.looks_find (M:=model prog w) X I (Bu O)
 unfold Builtin.«object.__getattribute__»
 refine wpAny_bind (wpAny_pure (wpAny_bind (wpAny_pure (wpAny_bind (L0.at (wpAny_bind (L1.at ?_)))))))
 show wpAny _ _ (Builtin.ObjectAttr.bindTo _ _ _ _) _ _ _
 unfold Builtin.ObjectAttr.bindTo
 refine wpAny_bind (wpAny_holding (wpAny_call (PySem.W.class_get (s:=⟨h,g,d,t,os⟩) (ox:=ox) (od:=none) X I O.mro ?_)))
 exact wpAny_pure hq
theorem y3 {nameV:Value} {Q:Unit→Shared→Prop} (O:vx K C) (X:K.In h) (I:PySem.W.InstAt h x ox C none) (hq:Q () ⟨h,g,d,t,os⟩) :
  wpAny (model prog w) A (checkBuiltinCall "BaseException.__getattribute__" ⟨[.ref x,nameV],[]⟩) Q E ⟨h,g,d,t,os⟩:=by
 have hk:builtinKind "BaseException.__getattribute__" = some .slot:=by decide +kernel
 have hsplit:splitId "BaseException.__getattribute__" = some ("BaseException","__getattribute__"):=by decide +kernel
 have ha:=F.args_bexc_ga (.ref x) nameV
 have L0:=I.type (M:=model prog w)
 have L2:PySem.W.Looks (model prog w) h (isInstance (.ref x) (.type "BaseException")) true:=L0.andThen (PySem.W.looks_subIn X O.sub)
 simp only [checkBuiltinCall,hk,hsplit]
 refine wpAny_bind (L2.at ?_)
 repeat (first | assumption | wp_step)
theorem zj {Q:Option Value→Shared→Prop} (O:vx K C) (X:K.In h) (I:PySem.W.InstAt h x ox C none) (hq:Q (some (.ref C)) ⟨h,g,d,t + 1,os⟩):wpAny (model prog w) A (getAttr? (.ref x) "__class__") Q E ⟨h,g,d,t,os⟩:=by
 have L0:=I.type (M:=model prog w)
 have L1:=PySem.W.looks_findIn (M:=model prog w) X O.ga
 have L2:=PySem.W.looks_findIn (M:=model prog w) X O.hk
 have FB:=PySem.F.attrBase_ValueError
 unfold getAttr? getAttrBy? getAttrBy
 refine wpAny_bind (wpAny_mkText (wpAny_bind (wpAny_attempt (wpAny_holding (wpAny_bind (L0.at (wpAny_bind (L1.at ?_))))))))
 have hx1:(onTheHeap (Value.ref C) && Value.builtin "BaseException.__getattribute__" == Value.builtin "object.__getattribute__")=false:=by
  rw [show (Value.builtin "BaseException.__getattribute__" == Value.builtin "object.__getattribute__")=false by decide +kernel];rfl
 show wpAny _ _ (if (onTheHeap (Value.ref C) && Value.builtin "BaseException.__getattribute__" == Value.builtin "object.__getattribute__")=true then _ else _) _ _ _
 rw [hx1,if_neg (by decide)]
 unfold getAttrByItsOwn
 refine wpAny_bind (L2.at (wpAny_bind (wpAny_attempt (wpAny_holding ?_))))
 unfold callGetattribute boundAndCalled
 rw [if_neg (by decide),FB.ga.bind]
 refine wpAny_bind (wpAny_pure ?_)
 refine wpAny_call (codeAny_call_builtin FB.ga.plain F.entry_bexc_ga (y3 O X I (zH O X I ?_)))
 exact PySem.W.handed_on rfl (wpAny_pure hq)
end
theorem sJ {K:PySem.W.Frag} {C:Addr} (h:PySem.W.hasDictIn K C=true):∃c d cd sl,K.lookup C=some ⟨c,d,.cls cd,sl⟩:=by
 obtain⟨_,q,_⟩:=PySem.W.any_some h
 unfold PySem.W.clsIn at q
 split at q
 ·exact⟨_,_,_,_,‹_›⟩
 ·cases q
theorem oO {K:PySem.W.Frag} {x C:Addr} (O:vx K C):PySem.W.KitX K (.ref x) (.ref C) (fun h=>∃ox,PySem.W.InstAt h x ox C none) where
 ty:=fun _ _ _ ⟨_,I⟩=>I.type
 it:=fun _ _ kin _ A Q E s keep q=>let ⟨_,_,_,_,e⟩:=sJ O.dct;wpAny_bind (wpAny_loadPart (keep _ _ (kin _ _ e)) (wpAny_pure q))
 ne:=fun h tp dd its n sl kin e=>by
  obtain⟨_,_,_,_,e1⟩:=sJ O.dct
  cases z:(Value.ref C == Value.ref tp) with
  | false=>rfl
  | true =>
   cases eq_of_beq z
   cases (kin _ _ e1).symm.trans e
 ca:=fun {prog w A E Q s} X p h=>by
  obtain⟨ox,I⟩:=p
  obtain⟨hh,g,d,t,os⟩:=s
  exact zj O X I h
theorem tH {X:Cx} {c:Str} {p:Pos} {C:Addr} (ac:PySem.W.nsIn X.K mainGlobals c=some (some (.ref C))) (hg:Gl X c:=by rfl) (hdb:(c == ("__debug__" : Str))=false:=by decide):QE X (.Name c p) (cC (.cls c)):=by
 refine⟨fun B σ F H env Q rp hq pins s I=>?_⟩
 refine hV I hg (PySem.W.mg_of I.ok.mod.kin I.ok.mod.glob ac) ?_ hdb
 exact⟨.ref C,H,I,rfl,F,.cls c,rp,ar.refl _,by simp only [Den];exact⟨C,rfl,ac⟩,hq⟩
inductive u5 (K:PySem.W.Frag):List D→List Value→Prop where
 | nil:u5 K [] []
 | cons {c:Str} {C:Addr} {ds:List D} {vs:List Value} (h:PySem.W.nsIn K mainGlobals c=some (some (.ref C))) (r:u5 K ds vs):u5 K (.cls c :: ds) (.ref C :: vs)
inductive Bq (K:PySem.W.Frag) (C:Addr):D→Bool→Prop where
 | ty {n:String} {b:Bool} (e:PySem.W.kitOne K (.ref C) (.type n)=some b):Bq K C (.ty n) b
 | cls {d:Str} {C':Addr} {b:Bool} (h:PySem.W.nsIn K mainGlobals d=some (some (.ref C'))) (e:PySem.W.kitOne K (.ref C) (.ref C')=some b):Bq K C (.cls d) b
 | tup {ds:List D} {vs:List Value} {b:Bool} (h:u5 K ds vs) (e:PySem.W.kitAny K (.ref C) vs=some b):Bq K C (.tup ds) b
theorem u5.vals {K:PySem.W.Frag} {F:Hp}:∀{ds:List D} {vs:List Value} {xs:List V} {us:List Value},u5 K ds vs→ao K F ds xs→Vals xs us→us=vs
 | _,_,xs,us,.nil,h,r=>by
  simp only [ao] at h;subst h
  cases r;rfl
 | _,_,xs,us,.cons hc rr,h,r=>by
  simp only [ao] at h
  obtain⟨v,rs,rfl,hd,hr⟩:=h
  simp only [Den] at hd
  obtain⟨C',rfl,e⟩:=hd
  rw [hc] at e
  cases e
  cases r with
  | cons q1 q2 =>
   have e1:=(show _=Value.ref _ from q1)
   rw [e1,u5.vals rr hr q2]
def rB (c:Str) (y:D) (b:Bool) (ds:List D) (Q:D→Prop):Prop:=ds=[.exc c,y]∧Q (.bl b)
def G0 (K:PySem.W.Frag) (C:Addr) (b:Bool):List V→Hp→VK→Prop:=fun xs H Q=>∃a y,xs=[.ref a,y]∧H a=some (.ext (excAt a C)) ∧
 ((∃n,y=.ty n∧PySem.W.kitOne K (.ref C) (.type n)=some b)∨(∃C',y=.ref C'∧PySem.W.kitOne K (.ref C) (.ref C')=some b)∨∃t zs,y=.ref t∧iy K H t zs∧∀us,Vals zs us→PySem.W.kitAny K (.ref C) us=some b)∧Q (.bl b) H
section
variable {X:Cx} {C:Addr} {b:Bool} {c:Str} {y:D} {a e2:Expr} {ts:eI} {p pos:Pos}
theorem Cd (O:vx X.K C):dq X (.builtin "isinstance") (G0 X.K C b):=by
 intro pins s σ H xs us Q I r h
 obtain⟨x,y,rfl,hx,hy,q⟩:=h
 obtain⟨u,w,rfl,rx,ry⟩:=vals2 r
 cases (show u=Value.ref x from rx)
 have fin:∀tk,EP X pins σ Q (.bool b) { s with toks:=tk }:=fun tk=>⟨.bl b,H,I.tok tk,rfl,q⟩
 have at_:∃ox,PySem.W.InstAt s.heap x ox C none:=by
  obtain⟨⟨o,vs,h1,h2,h3,h4⟩,_⟩:=(show bF X.prog X.w H s.heap x (.ext (excAt x C)) from I.hok x _ hx)
  refine⟨o,h1,h2,?_,?_⟩
  ·unfold PySem.W.notCls;rw [h4]
  ·rw [h3];exact True.intro
 rcases hy with ⟨n,rfl,e⟩ | ⟨C',rfl,e⟩ | ⟨t,zs,rfl,hq,e⟩
 ·cases (show w=Value.type n from ry)
  exact PySem.W.kia_one (oO O) I.qR at_ e (fun z=>nomatch z) fin
 ·cases (show w=Value.ref C' from ry)
  exact PySem.W.kia_one (oO O) I.qR at_ e (fun z=>nomatch z) fin
 ·cases (show w=Value.ref t from ry)
  obtain⟨its,vz,⟨o,h1,h2,n,h3⟩,_⟩:=I.tuple hq
  obtain⟨oc,od,odt,osl⟩:=o
  cases h2
  cases h3
  exact PySem.W.kia_tup (oO O) I.qR at_ h1 (e _ vz) (fun z=>nomatch z) fin
theorem EE (ac:PySem.W.nsIn X.K mainGlobals c=some (some (.ref C))) (hk:Bq X.K C y b):Call3 X (G0 X.K C b) (rB c y b):=by
 intro B σ F H env Q ds vs Z rp h hz hf
 obtain⟨rfl,q⟩:=hf
 simp only [ao] at h
 obtain⟨v,r,rfl,hd,v',r',rfl,hd',rfl⟩:=h
 simp only [Den] at hd
 obtain⟨a,C',rfl,e,hF⟩:=hd
 rw [ac] at e
 cases e
 refine⟨a,v',rfl,rp.fh _ _ hF,?_,hz (.bl b) H F (.bl b) rp (ar.refl _) dg q⟩
 cases hk with
 | ty e=>simp only [Den] at hd';subst hd';exact .inl ⟨_,rfl,e⟩
 | cls h e =>
  simp only [Den] at hd'
  obtain⟨C'',rfl,e'⟩:=hd'
  rw [h] at e'
  cases e'
  exact .inr (.inl ⟨_,rfl,e⟩)
 | tup h e =>
  simp only [Den] at hd'
  obtain⟨t,zs,rfl,hq,hl⟩:=hd'
  exact .inr (.inr ⟨t,zs,rfl,ar.b8 rp.fh hq,fun us hu=>by rw [u5.vals h hl hu];exact e⟩)
theorem uk (c:Str) (y:D) (b:Bool) (hm:X.mg "isinstance" = none) (ac:PySem.W.nsIn X.K mainGlobals c=some (some (.ref C))) (O:vx X.K C) (hk:Bq X.K C y b) (ha:QA X [a,e2] ts) (hg:Gl X "isinstance":=by rfl)
  (he:starEach [a,e2] X.env=(false,eval a X.env) :: starEach [e2] X.env:=by exact aR rfl) (hpl:(backTo pos (starEach [e2] X.env)).any (·.1)=false:=by rfl):QE X (.Call (.Name "isinstance" p) [a,e2] [] pos) (az (rB c y b) ts) :=
 gU (Cd O) (EE ac hk) hg hm rm ha (he:=he) (hpl:=hpl)
end
end L2.L3
namespace L2.L3
open PySem PySem.Spec PyProof.Rows
section
variable {X:Cx} {a b e:Expr} {ta tb:TD} {ts:eI} {pos:Pos}
theorem y0 {cx:Str} {C:Addr} {np cpos:Pos} (ac:PySem.W.nsIn X.K mainGlobals cx=some (some (.ref C))) (hq:DZ X.K C=true) (ha:QA X.nF [e] ts) (hc:X.calm=true:=by rfl) (hg:Gl X cx:=by rfl) (hdb:(cx == ("__debug__" : Str))=false:=by decide)
  (he:starEach [e] X.env=(false,eval e X.env) :: starEach [] X.env:=by exact aR rfl) (hplain:(backTo cpos (starEach ([]:List Expr) X.env)).any (·.1)=false:=by rfl) :
  QZ X (.Raise (some (.Call (.Name cx np) [e] [] cpos)) none pos) (nZ cx ts) :=
 ⟨fun B σ F H env D rp h pins s I=>(BS (X:=X) (pos:=pos) (np:=np) (cpos:=cpos) (PySem.W.mg_of I.ok.mod.kin I.ok.mod.glob ac) hq hc ha hg hdb he hplain).run B σ F H env D rp h pins s I⟩
end
theorem DD:bootBuiltins "ValueError" = some (.type "ValueError"):=by decide +kernel
end L2.L3
namespace L2.L3
open PySem PySem.Spec PyProof.Rows
section
variable {X:Cx} {e:Expr} {ts:eI} {p pos:Pos}
def kT (ds:List D) (Q:List D→Prop):Prop:=match ds with
 | [.lst xs]=>Q xs
 | [.tup xs]=>Q xs
 | _=>False
theorem qo {xs:List D} {Q:List D→Prop}:kT [.lst xs] Q=Q xs:=rfl
theorem qq {xs:List D} {Q:List D→Prop}:kT [.tup xs] Q=Q xs:=rfl
def nC (ts:eI):eI:=fun env Q=>ts env fun ds=>kT ds Q
theorem yU (hm:X.mg "list" = none) (ha:QA X [e] ts) (hg:Gl X "list":=by rfl) (he:starEach [e] X.env=(false,eval e X.env) :: starEach [] X.env:=by exact aR rfl) (hpl:(backTo pos (starEach ([]:List Expr) X.env)).any (·.1)=false:=by rfl) :
  QF X (.Call (.Name "list" p) [e] [] pos) (nC ts):=by
 refine⟨fun B σ F H env Q rp h=>bD (mj rA hg hm n8 js (by decide) (by decide) he hpl) ?_⟩
 refine cg (ha B σ F H env _ rp h) fun vs H1 ⟨F1,ds,r1,s1,d1,q1⟩=>?_
 replace q1:kT ds Q:=q1
 unfold kT at q1
 split at q1
 ·simp only [ao,Den] at d1
  obtain⟨v,r,rfl,⟨p,ys,rfl,q,r⟩,rfl⟩:=d1
  exact⟨p,ys,rfl,.inl (r1.fh.seq q),fun w hw=>⟨F1,H1,w,ys,_,rfl,hw,rfl,r1,s1,r,q1⟩⟩
 ·simp only [ao,Den] at d1
  obtain⟨v,r,rfl,⟨p,ys,rfl,q,r⟩,rfl⟩:=d1
  exact⟨p,ys,rfl,.inr (ar.b8 r1.fh q),fun w hw=>⟨F1,H1,w,ys,_,rfl,hw,rfl,r1,s1,r,q1⟩⟩
 ·exact q1.elim
end
section
variable {X:Cx} {es:List Expr} {pos:Pos}
end
end L2.L3
namespace L2.L3
open PySem PySem.Spec PyProof.Rows
section
variable {X:Cx} {a b c e:Expr} {ta tb tc:TD} {ts:eI} {pos:Pos}
def jY (f f':D→D→(D→Prop)→Prop) (ta tb tc:TD):TD:=fun env Q=>ta env fun x=>tb env fun y=>f x y fun z=>∃k,z=.bl k∧(if k=true then tc env fun w=>f' y w Q else Q (.bl false))
theorem Fe {r r':R2} {f f':D→D→(D→Prop)→Prop} (hf:p8 X r f) (hf':p8 X r' f') (ha:QE X a ta) (hb:QE X b tb) (hc:QE X c tc) {B:Base} {σ:St} {F H:Hp} {env:En} {Q:D→Prop} {Z:VK} (rp:Rep X.K B F H σ env) (hz:Kont X B σ env F Q Z) (h:jY f f' ta tb tc env Q) :
  zQ r r' (wE X a) (wE X b) (wE X c) σ H Z:=by
 refine aE (ha B σ F H env _ rp h) fun x H1 ⟨F1,d,r1,s1,d1,q1⟩=>?_
 refine aE (hb B σ F1 H1 env _ r1 q1) fun y H2 ⟨F2,d',r2,s2,d2,q2⟩=>?_
 refine hf B σ F2 H2 env _ d d' x y _ r2 (Den.mono s2 _ _ d1) d2 (fun v H3 F3 d3 r3 s3 hd3 q3=>?_) q2
 obtain⟨k,rfl,q3⟩:=q3
 refine⟨k,eh hd3,?_⟩
 cases k with
 | true =>
  rw [if_pos rfl] at q3 ⊢
  refine aE (hc B σ F3 H3 env _ r3 q3) fun w H4 ⟨F4,d4,r4,s4,d4',q4⟩=>?_
  exact hf' B σ F4 H4 env Q d' d4 y w Z r4 (Den.mono (s3.trans s4) _ _ d2) d4' (fun v H5 F5 d5 r5 s5 hd q=>hz v H5 F5 d5 r5 ((((s1.trans s2).trans s3).trans s4).trans s5) hd q) q4
 | false =>
  rw [if_neg (by decide)] at q3 ⊢
  exact hz _ H3 F3 _ r3 ((s1.trans s2).trans s3) dg q3
theorem Dg {op op':CmpOp} {r r':R2} {f f':D→D→(D→Prop)→Prop} (ho:gT X (compareOp op) r) (hf:p8 X r f) (ho':gT X (compareOp op') r') (hf':p8 X r' f') (ha:QE X a ta) (hb:QE X b tb) (hc:QE X c tc)
  (hm:lastMarks [op,op'] [b,c]=false:=by with_unfolding_all rfl):QE X (.Compare a [op,op'] [b,c] pos) (jY f f' ta tb tc) :=
 ⟨fun B σ F H env Q rp h=>bD (zR ho ho' bh bh bh hm) (Fe hf hf' ha hb hc rp HF h)⟩
theorem Al (ha:QE X a ta) (hb:QE X b tb) (hc:QE X c tc) (hm:lastMarks [.Lt,.Lt] [b,c]=false:=by with_unfolding_all rfl):QE X (.Compare a [.Lt,.Lt] [b,c] pos) (jY wD wD ta tb tc):=Dg zD kc zD kc ha hb hc hm
def sj (n:Int) (x:Str):Str:=if n < 1 then Str.empty else if (n == 1 || x.length == 0)=true then x else ⟨(List.replicate n.toNat x.cps).foldl (· ++ ·) #[]⟩
def HB:R2:=fun x y H Q=>∃z n,x=.str z∧y=.int n∧(-(2 ^ 62)≤n∧n < 2 ^ 62)∧z.length * n.toNat≤1000000∧(sj n z).length≤sizeLine∧Q (.str (sj n z)) H
theorem Fi:gT X (binaryOp .Mult) HB:=by
 intro pins s σ H x y v u Q I rx ry h
 obtain⟨z,n,rfl,rfl,⟨hn1,hn2⟩,hz,hl,q⟩:=h
 obtain⟨t,rfl⟩:=rx
 obtain⟨t',rfl⟩:=ry
 refine P.mul_str ?_ (fun h1 _=>?_) (fun _ _=>?_) ?_
 ·have h1:¬ n < -(2 ^ 63:Int):=by omega
  have h2:¬ n≥(2 ^ 63:Int):=by omega
  rw [decide_eq_false h1,decide_eq_false h2];rfl
 ·have hp:0 < n:=by omega
  have:(z.length:Int) * n≤2 ^ 63 - 1:=by
   have e:((z.length * n.toNat:Nat):Int)=(z.length:Int) * n:=by push_cast;rw [Int.toNat_of_nonneg (by omega)]
   omega
  exact Int.not_lt.mpr (Int.le_ediv_of_mul_le hp this)
 ·simp only [Builtin.Str.tooLong,sizeLine_eq,decide_eq_false_iff_not];omega
 ·unfold sj at hl q
  by_cases c1:n < 1
  ·rw [if_pos c1] at hl q ⊢
   exact⟨by decide,⟨.str _,H,I.tok _,⟨_,rfl⟩,q⟩⟩
  ·rw [if_neg c1] at hl q ⊢
   by_cases c2:(n == 1 || z.length == 0)=true
   ·rw [if_pos c2] at hl q ⊢
    exact⟨.str _,H,I,⟨_,rfl⟩,q⟩
   ·rw [if_neg c2] at hl q ⊢
    exact⟨hl,⟨.str _,H,I.tok _,⟨_,rfl⟩,q⟩⟩
def lh (x y:D) (Q:D→Prop):Prop:=match x,y with
 | .str z,.int n=>(-(2 ^ 62)≤n∧n < 2 ^ 62)∧z.length * n.toNat≤1000000∧(sj n z).length≤sizeLine∧Q (.str (sj n z))
 | _,_=>False
theorem EC:p8 X HB lh:=by
 intro B σ F H env Q d d' x y Z rp h1 h2 hz hf
 unfold lh at hf
 split at hf
 ·rename_i z n
  simp only [Den] at h1 h2
  subst h1 h2
  obtain⟨g1,g2,g3,q⟩:=hf
  exact⟨z,n,rfl,rfl,g1,g2,g3,hz _ H F _ rp (ar.refl _) gb q⟩
 ·exact hf.elim
theorem uz (ha:QE X a ta) (hb:QE X b tb):QE X (.BinOp a .Mult b pos) (aC lh ta tb):=xq Fi EC ha hb
theorem J2 {x:Str} {n:Int} {t:Tok} {p:Pos} (ac:PySem.W.nsIn X.K mainGlobals x=some (some (.int n t))) (hg:Gl X x:=by rfl) (hdb:(x == ("__debug__" : Str))=false:=by decide):QE X (.Name x p) (cC (.int n)):=by
 refine⟨fun B σ F H env Q rp hq pins s I=>?_⟩
 refine hV I hg (PySem.W.mg_of I.ok.mod.kin I.ok.mod.glob ac) ?_ hdb
 exact⟨.int n,H,I,⟨t,rfl⟩,F,.int n,rp,ar.refl _,bf,hq⟩
def IP:V→Option Int→Option Int→Hp→VK→Prop:=fun x lo hi H Q=>∃z,x=.str z∧z.length≤sizeLine∧Q (.str (Txt.slice z lo hi)) H
theorem Gw:C3 X IP:=by
 intro pins s σ H x v vl vu lo hi sl Q I rx hs pl pu h
 obtain⟨z,rfl,hz,q⟩:=h
 obtain⟨t,rfl⟩:=rx
 refine⟨"str",_,F.slot_str_getitem.lookup,typeIs_str _ _ _,?_⟩
 have fin:∀t' k,EP X pins σ Q (.str (Txt.slice z lo hi) t') { s with toks:=k }:=fun t' k=>⟨.str _,H,I.tok k,⟨t',rfl⟩,q⟩
 have le:(Txt.slice z lo hi).length≤sizeLine:=Nat.le_trans (Txt.slice_le z _ _) hz
 obtain⟨o,h1,h2,h3⟩:=hs
 cases pl with
 | none =>
  cases pu with
  | none=>exact wpAny_getItem_str_slice (l:=none) (u:=none) (st:=none) ⟨o,h1,h2,h3⟩ rfl (post_val_or_str ⟨le,fin⟩)
  | int j uj=>exact wpAny_getItem_str_slice (l:=none) (u:=some (j,uj)) (st:=none) ⟨o,h1,h2,h3⟩ rfl (post_val_or_str ⟨le,fin⟩)
 | int i ui =>
  cases pu with
  | none=>exact wpAny_getItem_str_slice (l:=some (i,ui)) (u:=none) (st:=none) ⟨o,h1,h2,h3⟩ rfl (post_val_or_str ⟨le,fin⟩)
  | int j uj=>exact wpAny_getItem_str_slice (l:=some (i,ui)) (u:=some (j,uj)) (st:=none) ⟨o,h1,h2,h3⟩ rfl (post_val_or_str ⟨le,fin⟩)
def Jw (x:D) (lo hi:Option Int) (Q:D→Prop):Prop:=match x with
 | .str z=>z.length≤sizeLine∧Q (.str (Txt.slice z lo hi))
 | _=>False
def Cg (ta:TD) (tl th:FP):TD:=fun env Q=>ta env fun x=>tl env fun lo=>th env fun hi=>Jw x lo hi Q
theorem Aq {lo hi:Option Expr} {tl th:FP} {p2:Pos} (ha:QE X a ta) (hl:QO X lo tl) (hh:QO X hi th):QE X (.Subscript a (.Slice lo hi none p2) pos) (Cg ta tl th):=by
 refine⟨fun B σ F H env Q rp h=>?_⟩
 obtain⟨tl',pl,ql⟩:=hl
 obtain⟨th',ph,qh⟩:=hh
 refine bD (vT Gw bh pl ph) ?_
 refine aE (ha B σ F H env _ rp h) fun x H1 ⟨F1,d,r1,s1,d1,q1⟩=>?_
 refine ql B σ F1 H1 env _ _ r1 (fun lo' H2 F2 r2 s2 q2=>?_) q1
 refine qh B σ F2 H2 env _ _ r2 (fun hi' H3 F3 r3 s3 q3=>?_) q2
 have d3:=Den.mono (s2.trans s3) _ _ d1
 unfold Jw at q3
 split at q3
 ·simp only [Den] at d3
  subst d3
  exact⟨_,rfl,q3.1,F3,_,r3,(s1.trans s2).trans s3,gb,q3.2⟩
 ·exact q3.elim
def rJoin (K:PySem.W.Frag):V→List V→Hp→VK→Prop:=fun x xs H Q=>∃z p ys,x=.str z∧xs=[.ref p]∧fz K H p (ys.map V.str)∧z.length≤16∧(ys.map (·.length)).sum + ys.length≤1048576∧Q (.str (Txt.join z ys)) H
theorem uE:∀{ys:List Str} {us:List Value},Vals (ys.map V.str) us→StrsAre us ys
 | [],us,h=>by cases h;exact .nil
 | y :: ys,us,h=>by
  cases h with
  | cons h1 h2 =>
   obtain⟨t,rfl⟩:=h1
   exact .cons y t (uE h2)
theorem Cw:JS X "str.join" (rJoin X.K):=by
 intro pins s σ H x xs v us Q I rx rs h
 obtain⟨z,p,ys,rfl,rfl,hq,hz,hw,q⟩:=h
 obtain⟨t,rfl⟩:=rx
 obtain⟨u,rfl,ru⟩:=vals1 rs
 cases ru
 obtain⟨its,vz,pl,_⟩:=I.list hq
 exact join_listW pl.isList (uE vz) hz hw fun t' k=>⟨.str _,H,I.tok k,⟨t',rfl⟩,q⟩
def joinR (z:Str) (ds:List D) (Q:D→Prop):Prop:=∃ys:List Str,ds=[.lst (ys.map D.str)]∧z.length≤16∧(ys.map (·.length)).sum + ys.length≤1048576∧Q (.str (Txt.join z ys))
def uY (ta:TD) (ts:eI):TD:=fun env Q=>ta env fun x=>∃z,x=.str z∧ts env fun ds=>joinR z ds Q
theorem qU {K:PySem.W.Frag} {F:Hp}:∀{ys:List Str} {vs:List V},ao K F (ys.map D.str) vs→vs=ys.map V.str
 | [],vs,h=>by simpa only [List.map_nil,ao] using h
 | y :: ys,vs,h=>by
  simp only [List.map_cons,ao,Den] at h
  obtain⟨v,r,rfl,rfl,h⟩:=h
  rw [qU h];rfl
theorem AK {apos cpos:Pos} (ha:QE X a ta) (hb:QA X [b] ts) (hbase:attributeBase a "join" X.env (eval a X.env)=eval a X.env:=by rfl)
  (hfew:((backTo cpos (starEach [b] X.env)).all (fun x=>!x.1) && (backToKw cpos (keywordEach [] X.env)).all (fun x=>x.1.isSome)
   && decide ([b].length + ([]:List Keyword).length + (if ([]:List Keyword).isEmpty then 0 else 1) < 30))=true:=by rfl)
  (hline:(apos.endLine == cpos.line)=true:=by rfl) (hs:starEach [b] X.env=(false,eval b X.env) :: starEach [] X.env:=by exact aR rfl) (hplain:(backTo cpos (starEach ([]:List Expr) X.env)).any (·.1)=false:=by rfl) :
  QE X (.Call (.Attribute a "join" apos) [b] [] cpos) (uY ta ts):=by
 refine⟨fun B σ F H env Q rp h=>bD (uU PySem.F.plainAttrs_str PySem.F.slot_str_join PySem.F.type_str_join Cw bh js hbase hfew hline hs hplain) ?_⟩
 refine aE (ha B σ F H env _ rp h) fun x H1 ⟨F1,d,r1,s1,d1,z,e,q1⟩=>?_
 subst e
 simp only [Den] at d1
 subst d1
 refine⟨rfl,?_⟩
 refine cg (hb B σ F1 H1 env _ r1 q1) fun vs H2 ⟨F2,ds,r2,s2,d2,ys,e2,h1,h2,q2⟩=>?_
 ·subst e2
  simp only [ao,Den] at d2
  obtain⟨v,r,rfl,⟨p,ws,rfl,hq,hl⟩,rfl⟩:=d2
  have:=qU hl
  subst this
  exact⟨z,p,ys,rfl,rfl,r2.fh.seq hq,h1,h2,F2,_,r2,s1.trans s2,gb,q2⟩
end
end L2.L3
namespace L2.L3
open PySem PySem.Spec PyProof.Rows
section
variable {X:Cx} {p pos:Pos}
def eO (i:Nat):TD:=fun env Q=>∃xs,env[i]?=some (some (.own xs))∧Q (.int xs.length)
theorem fT {x:Str} {px:Pos} (i:Nat) (hm:X.mg "len" = none) (hg:Gl X "len":=by rfl) (hN:X.N[i]?=some x:=by rfl) (hv:xS X.env.scope x:=by first | exact Or.inl rfl | exact Or.inr (Or.inl rfl) | exact Or.inr (Or.inr rfl)) (hd:(x == ("__debug__" : Str))=false:=by decide)
  (hcd:(x == ("__classdict__" : Str))=false:=by decide) (he:starEach [.Name x px] X.env=(false,eval (.Name x px) X.env) :: starEach [] X.env:=by exact aR rfl) (hpl:(backTo pos (starEach ([]:List Expr) X.env)).any (·.1)=false:=by rfl) :
  QE X (.Call (.Name "len" p) [.Name x px] [] pos) (eO i):=by
 refine⟨fun B σ F H env Q rp h=>bD (uS kW hg hm qC (dQ (eF hN hv hd hcd) gH he) (by decide) (by decide) he hpl) ?_⟩
 obtain⟨xs,hx,q⟩:=h
 obtain⟨p,vs,h1,h2,h3,h4,h5⟩:=rp.ov i xs hx
 refine⟨.ref p,h1,p,vs,rfl,.inl (fz.of h2),F,.int xs.length,rp,ar.refl _,?_,q⟩
 rw [h5.length];exact bf
end
end L2.L3
namespace L2.L3
open PySem PySem.Spec PyProof.Rows
section
variable {X:Cx} {N':List Str} {ix:List Nat} {scope:Scope} {elt a:Expr} {ifs:List Expr} {x:Str} {px py pos spos p pos2:Pos} {tt:TB} {te ta:TD} {ts:eI}
theorem rE {y:Str} (i:Nat) (hNd:X.N.Nodup) (hc:X.calm=true) (O:cn X N' 1 ix scope) (hN:N'.Nodup) (h0:N'[0]?=some x) (hx:(relabel scope X.env).names.lookup x=some .local) (hgl:Gl X "range") (hm:X.mg "range" = none) (ha:QA X [a] ts)
  (ht:∀C s H fp pins,uX (bH X N' scope C s H fp pins) ifs tt) (he:∀C s H fp pins,QE (bH X N' scope C s H fp pins) elt te) (hy:X.N[i]?=some y:=by rfl) (hl:Loc X.env.scope y:=by first | exact Or.inl rfl | exact Or.inr rfl)
  (hsw:swapsWith (.ListComp elt [⟨.Name x px,.Call (.Name "range" p) [a] [] pos2,ifs,0⟩] scope pos) (some (.Name y py)) spos.line X.env=pure true:=by rfl) (hf:X.fn y=true∨X.env.scope.names.lookup y=some .local:=by first | exact .inl rfl | exact .inr rfl)
  (hst:starEach [a] X.env=[(false,eval a X.env)]:=by rfl) (hs:∀x,foldedSetIterable (.Call (.Name "range" p) [a] [] pos2) X.env x=pure x:=by intro _;rfl) :
  QS X (.Assign [.Name y py] (.ListComp elt [⟨.Name x px,.Call (.Name "range" p) [a] [] pos2,ifs,0⟩] scope pos) spos) (aX i (fu (ie jK ix ts tt te))):=by
 refine⟨fun B σ F H env D rp h pins s I=>?_⟩
 refine o4 hc (jz hgl hm js hst) O hNd hy hl hsw hf hs pins s σ H _ I ?_
 refine cg (ha B σ F H env _ rp h) fun vs H1 ⟨F1,ds,r1,s1,d1,q1⟩=>?_
 dsimp only at q1;unfold jK at q1
 split at q1
 ·simp only [ao,Den] at d1
  obtain⟨v,r,rfl,rfl,rfl⟩:=d1
  refine⟨_,rfl,q1.1.1,q1.1.2,?_⟩
  intro a' C s fp pins ha'
  obtain⟨W,w0,step⟩:=jv (X:=X) (px:=px) hN h0 hx ht he s1 r1 iQ q1.2 a' C s fp pins ha'
  refine⟨W,w0,fun i' m σ' H' w=>?_⟩
  rcases step i' m σ' H' w with ⟨st,z⟩ | z
  ·refine .inl ⟨st,?_⟩
   obtain⟨F',d,r',s',hd,q'⟩:=RF.rv (Q:=fun x=>D.nx (env.set i (some (.d x)))) z
   refine⟨F',_,r'.set hd ?_,q'⟩
   rw [I.len];exact (List.getElem?_eq_some_iff.mp hy).1
  ·exact .inr z
 ·exact q1.elim
end
end L2.L3
namespace L2.L3
open PySem PySem.Spec PyProof.Rows
section
variable {X:Cx} {b:Expr} {tb:TD} {x:Str} {tab:List (Str×Str)} {a:Addr} {es:Array DictEntry} {n:Nat} {p pos:Pos}
end
end L2.L3
namespace L2.L3
open PySem PySem.Spec PyProof.Rows
section
variable {X:Cx} {e:Expr} {ts:eI} {p pos:Pos}
end
end L2.L3
namespace L2.L3
open PySem
section
variable {Q:D→Prop} {i j:Int} {xs ys:List D} {z z':Str} {C:Int→Int→Prop} {g:Int→Int→D} {k:Bool}
theorem x4:v7 C g (.int i) (.int j) Q=(C i j∧Q (g i j)):=rfl
theorem nK:bM (.int i) (.int j) Q=Q (.int (i + j)):=rfl
theorem sL:bM (.lst xs) (.lst ys) Q=(xs.length + ys.length≤sizeLine∧Q (.lst (xs ++ ys))):=rfl
theorem sg:bM (.tup xs) (.tup ys) Q=(xs.length + ys.length≤sizeLine∧Q (.tup (xs ++ ys))):=rfl
theorem g8:bM (.str z) (.str z') Q=(z.length + z'.length≤sizeLine∧Q (.str (z ++ z'))):=rfl
theorem wZ:iI (.int i) Q=Q (.int (-i)):=rfl
theorem t5:gI (.int i) (.int j) Q=Q (.bl (decide (i=j))):=by
 unfold gI jS;simp only [dep,ba,Nat.zero_le,and_self,true_and];rw [Bool.beq_eq_decide_eq]
theorem rS:pT (.int i) (.int j) Q=Q (.bl (!decide (i=j))):=by
 unfold pT jS;simp only [dep,ba,Nat.zero_le,and_self,true_and];rw [Bool.beq_eq_decide_eq]
theorem rC:gI (.str z) (.str z') Q=Q (.bl (z == z')):=by
 unfold gI jS;simp only [dep,ba,Nat.zero_le,and_self,true_and]
theorem xF {k':Bool}:gI (.bl k) (.bl k') Q=Q (.bl (k == k')):=by
 unfold gI jS;simp only [dep,ba,Nat.zero_le,and_self,true_and]
theorem wM:my [.int i] Q=Q (.int i.natAbs):=by
 show Q _=Q _
 congr 2
 split <;> omega
theorem xD:iN [.lst xs] Q=Q (.int xs.length):=rfl
theorem xj:iN [.tup xs] Q=Q (.int xs.length):=rfl
theorem rX:iN [.str z] Q=(z.length≤sizeLine∧Q (.int z.length)):=rfl
theorem sE:An [.int i,.int j] Q=Q (.int (max i j)):=by
 show Q _=Q _
 congr 2
 split <;> omega
theorem rN:B3 [.int i,.int j] Q=Q (.int (min i j)):=by
 show Q _=Q _
 congr 2
 split <;> omega
theorem wu:pG [.int i] Q=Q (.int i):=rfl
theorem wq:pG [.bl k] Q=Q (.int (if k then 1 else 0)):=rfl
theorem nY:gz [.lst xs] Q=Q (.tup xs):=rfl
theorem oU:gz [.tup xs] Q=Q (.tup xs):=rfl
theorem oW:cL (.lst xs)=some xs:=rfl
theorem pj:cL (.tup xs)=some xs:=rfl
theorem Am {lo hi:Option Int}:IG (.lst xs) lo hi Q=Q (.lst (cutD xs lo hi)):=rfl
theorem xm {R:Int→Nat→Prop}:jK [.int j] R=((-(2 ^ 62)≤j∧j < 2 ^ 62)∧R 0 j.toNat):=rfl
theorem xK {R:Int→Nat→Prop}:CC [.int i,.int j] R=((-(2 ^ 62)≤i∧i < 2 ^ 62∧-(2 ^ 62)≤j∧j < 2 ^ 62)∧R i (j - i).toNat):=rfl
def Pl (x:D):Prop:=G3 x≠.oth
def isInt:D→Bool | .int _=>true | .bl _=>true | _=>false
def Jm:D→Bool | .bl _=>true | _=>false
theorem DM {x:D} (h:Pl x) (q:Q (.bl (isInt x))):GA "int" x Q:=by cases x <;> first | exact⟨_,rfl,q⟩ | exact absurd rfl h
theorem Gf {x:D} (h:Pl x) (q:Q (.bl (Jm x))):GA "bool" x Q:=by cases x <;> first | exact⟨_,rfl,q⟩ | exact absurd rfl h
end
def AW (xs:List D) (R:D→List D→Prop):Prop:=match xs with | x :: r=>R x r | _=>False
theorem oa {x:D} {r:List D} {R:D→List D→Prop}:AW (x :: r) R=R x r:=rfl
theorem pb (g:pS) (gs:tR) (xs:List D) (env:En) (Q:En→Prop):aZ g gs xs env Q=AW xs fun x r=>g x env fun env'=>gs r env' Q:=by
 unfold aZ AW
 apply propext
 constructor
 ·rintro⟨x,y,rfl,h⟩;exact h
 ·intro h;split at h
  ·exact⟨_,_,rfl,h⟩
  ·exact h.elim
theorem cf {g:pS} {tb:bC} {Z:Ends3} {xs:List D} (I:Nat→En→Prop)
  (step:∀(i:Nat) (x:D) (env:En) (N:En→Prop),xs[i]?=some x→I i env→(∀e,I (i + 1) e→N e)→g x env fun e=>tb { Z with nx:=N,ct:=N,bk:=Z.nx } e)
  (done:∀env,I xs.length env→Z.nx env) {env:En} (h0:I 0 env):turns g tb Z xs env:=by
 have go:∀(n k:Nat) (env:En),k + n=xs.length→I k env→turns g tb Z (xs.drop k) env:=by
  intro n
  induction n with
  | zero =>
   intro k env hk h
   rw [List.drop_eq_nil_of_le (by omega)]
   exact done env (by rw [← hk];exact h)
  | succ n ih =>
   intro k env hk h
   have hx:xs[k]?=some (xs[k]'(by omega)):=by simp
   rw [drop_cons hx]
   exact step k _ env _ hx h fun e he=>ih (k + 1) e (by omega) he
 simpa using go xs.length 0 env (by omega) h0
theorem gS {te:TD} {hW:En} {Q:List D→Prop} (f:D→D):∀(xs acc:List D),(∀x∈xs,∀N:D→Prop,N (f x)→te (hW.set 0 (some (.d x))) N)→acc.length + xs.length≤sizeLine→Q (acc ++ xs.map f)→comps fg te hW Q xs acc
 | [],acc,_,_,q=>by simpa [comps] using q
 | x :: xs,acc,h,hl,q=>by
  simp only [comps,fg,if_true]
  refine h x List.mem_cons_self _ ⟨by simp at hl;omega,gS f xs _ (fun y hy=>h y (List.mem_cons_of_mem _ hy)) (by simp at hl ⊢;omega) (by simpa using q)⟩
theorem mC {te:TD} {hW:En} {Q:List D→Prop} (R:D→D→Prop):∀(xs acc:List D),(∀x∈xs,∀N:D→Prop,(∀y,R x y→N y)→te (hW.set 0 (some (.d x))) N)→acc.length + xs.length≤sizeLine→(∀ys,ys.length=xs.length→(∀(i:Nat) (x y:D),xs[i]?=some x→ys[i]?=some y→R x y)→Q (acc ++ ys))→comps fg te hW Q xs acc
 | [],acc,_,_,q=>by simpa [comps] using q [] rfl (by simp)
 | x :: xs,acc,h,hl,q=>by
  simp only [comps,fg,if_true]
  refine h x List.mem_cons_self _ fun y hy=>⟨by simp at hl;omega,mC R xs _ (fun y hy=>h y (List.mem_cons_of_mem _ hy)) (by simp at hl ⊢;omega) fun ys hl2 hr=>?_⟩
  rw [List.append_assoc]
  refine q (y :: ys) (by simpa using hl2) fun i a b ha hb=>?_
  cases i with
  | zero=>simp at ha hb;subst ha hb;exact hy
  | succ i=>exact hr i a b (by simpa using ha) (by simpa using hb)
theorem tN {α:Type} {xs:List α} {i:Int} (h0:0≤i) (h1:i < xs.length):jN xs i=xs[i.toNat]?:=by
 unfold L2.jN r9
 rw [if_pos h0,if_pos h1];rfl
theorem wX {Q:D→Prop} {xs:List D} {i:Int} (h0:0≤i) (h1:i < xs.length) (q:∀v,v∈xs→Q v):cz (.lst xs) (.int i) Q:=by
 have hl:i.toNat < xs.length:=by omega
 exact⟨xs[i.toNat],by rw [tN h0 h1];simp,q _ (List.getElem_mem hl)⟩
theorem gW {a b:Int} (h:0 < b):0≤a.fmod b∧a.fmod b < b:=⟨Int.fmod_nonneg_of_pos a h,Int.fmod_lt_of_pos a h⟩
def cD (n:Nat) (a:Int):Prop:=a.natAbs < 2 ^ n
theorem bits_le {n m:Nat} {a:Int} (h:cD n a) (hm:n≤m):cD m a:=Nat.lt_of_lt_of_le h (Nat.pow_le_pow_right (by decide) hm)
theorem o8 {n:Nat} {a:Int} (h:cD n a):Builtin.Int.intBits a≤n:=by
 unfold Builtin.Int.intBits
 by_cases e:a=0
 ·subst e;simp
 ·rw [if_neg (by simpa using e)]
  have:a.natAbs≠0:=by omega
  exact (Nat.log2_lt this).mpr h
theorem gv {n m:Nat} {a b:Int} (ha:cD n a) (hb:cD m b) (h:n + m≤1000000):IntMulOk a b:=by
 have h1:=o8 ha
 have h2:=o8 hb
 unfold IntMulOk Builtin.Int.intTooBig
 have:¬ ((Builtin.Int.intBits a:Int) + (Builtin.Int.intBits b:Int) > (bitsLine:Int)):=by
  have:(1000000:Int)≤(bitsLine:Int):=by decide
  omega
 simp only [Bool.and_eq_true,decide_eq_true_eq]
 rintro⟨_,h3⟩
 exact this h3
theorem bits_mul {n m:Nat} {a b:Int} (ha:cD n a) (hb:cD m b):cD (n + m) (a * b):=by
 unfold cD at *
 rw [Int.natAbs_mul,Nat.pow_add]
 exact Nat.mul_lt_mul'' ha hb
theorem bits_add {n m:Nat} {a b:Int} (ha:cD n a) (hb:cD m b):cD (max n m + 1) (a + b):=by
 unfold cD at *
 have h1:(2:Nat) ^ n≤2 ^ max n m:=Nat.pow_le_pow_right (by decide) (Nat.le_max_left _ _)
 have h2:(2:Nat) ^ m≤2 ^ max n m:=Nat.pow_le_pow_right (by decide) (Nat.le_max_right _ _)
 rw [Nat.pow_succ]
 omega
theorem bits_neg {n:Nat} {a:Int} (ha:cD n a):cD n (-a):=by unfold cD at *;rwa [Int.natAbs_neg]
theorem we {n:Nat} {a b:Int} (hb:cD n b) (h0:b≠0) (hn:n≤9000):yz a b:=by
 refine⟨h0,?_⟩
 have:b.natAbs≠0:=by omega
 exact Nat.lt_of_lt_of_le ((Nat.log2_lt this).mpr hb) hn
theorem cj {a b:Int} (h1:-(2 ^ 64) < a) (h2:a < 2 ^ 64):IntMulOk a b:=.of_left (intBits_le_64 h1 h2)
theorem cV {a b:Int} (h1:-(2 ^ 64) < b) (h2:b < 2 ^ 64):IntMulOk a b:=.of_right (intBits_le_64 h1 h2)
theorem tF {c:Int} (j:Int) (h:j≠0∧j.natAbs < 2 ^ 256):yz c j:=we (n:=256) h.2 h.1 (by decide)
theorem qe (i j:Int) (h:0≤j∧j≤1000000∧i.natAbs < 2 ^ 64):EK i j:=h
theorem kh {c:Int} (j:Int) (h:j≠0):zP c j:=h
theorem dF (n:Nat) (a:Int) (h:a.natAbs < 2 ^ n):cD n a:=h
end L2.L3
local macro_rules | `(tactic| simp_all_arith only [$ls,*]) => `(tactic| simp only [$ls,*, L2.L3.aF, L2.L3.fX, L2.L3.bo, L2.L3.bq, L2.L3.n6, L2.L3.aX, L2.L3.lO, L2.L3.lZ, L2.L3.jP, L2.L3.c7, L2.L3.ir, L2.L3.fG, L2.L3.xf, L2.L3.ag, L2.L3.cC, L2.L3.aC, L2.L3.qT, L2.L3.aM, L2.L3.xo, L2.L3.pA, L2.L3.AR, L2.L3.oF, L2.L3.A9, L2.L3.rg, L2.L3.Hy, L2.L3.az, L2.L3.af, L2.L3.av, L2.L3.bT, L2.L3.gA, L2.L3.uA, L2.L3.fu, L2.L3.vG, L2.L3.Hg, L2.L3.kS, L2.L3.gZ, L2.L3.de, L2.L3.aP, L2.L3.iG, L2.L3.pb, L2.L3.oa, L2.L3.qA, L2.L3.iH, L2.L3.fg, L2.L3.aJ, List.map_cons, List.map_nil, List.length_cons, List.length_nil, List.cons_append, List.nil_append, List.append_nil, List.getElem?_cons_zero, List.getElem?_cons_succ, List.getElem?_nil, List.set_cons_zero, List.set_cons_succ, Option.some.injEq, L2.L3.Lo.d.injEq, L2.L3.Lo.own.injEq, L2.L3.D.bl.injEq, L2.L3.D.int.injEq, exists_eq_left', exists_eq_left, Nat.reduceAdd, Nat.reduceSub, Nat.sub_self, Nat.add_one_sub_one, List.replicate_succ, List.replicate_zero, L2.L3.D.tup.injEq, List.cons.injEq, and_assoc, L2.L3.kN, L2.L3.ie, L2.L3.x4, L2.L3.nK, L2.L3.sL, L2.L3.sg, L2.L3.g8, L2.L3.wZ, L2.L3.t5, L2.L3.rS, L2.L3.rC, L2.L3.xF, L2.L3.wM, L2.L3.xD, L2.L3.xj, L2.L3.rX, L2.L3.sE, L2.L3.rN, L2.L3.wu, L2.L3.wq, L2.L3.nY, L2.L3.oU, L2.L3.oW, L2.L3.pj, L2.L3.Am, L2.L3.xm, L2.L3.xK, decide_eq_true_eq, true_and, and_true, if_true, if_false, Bool.false_eq_true, Bool.not_eq_true', decide_eq_false_iff_not, PySem.sizeLine_eq, Int.reduceToNat, Int.reducePow, Int.reduceMul, Int.reduceAdd, Int.reduceNeg, Int.reduceSub, Int.reduceLT, Int.reduceLE, Int.reduceEq, Nat.reduceEqDiff, decide_true, decide_false, Nat.reduceLeDiff, Nat.reduceLT, Bool.true_eq_false, Bool.not_true, Bool.not_false, Bool.not_not])
local macro_rules | `(tactic| simp_arith! only [$ls,*] $[$loc]?) => `(tactic| simp only [$ls,*, L2.L3.aF, L2.L3.fX, L2.L3.bo, L2.L3.bq, L2.L3.n6, L2.L3.aX, L2.L3.lO, L2.L3.lZ, L2.L3.jP, L2.L3.c7, L2.L3.ir, L2.L3.fG, L2.L3.xf, L2.L3.ag, L2.L3.cC, L2.L3.aC, L2.L3.qT, L2.L3.aM, L2.L3.xo, L2.L3.pA, L2.L3.AR, L2.L3.oF, L2.L3.A9, L2.L3.rg, L2.L3.Hy, L2.L3.az, L2.L3.af, L2.L3.av, L2.L3.bT, L2.L3.gA, L2.L3.uA, L2.L3.fu, L2.L3.vG, L2.L3.Hg, L2.L3.kS, L2.L3.gZ, L2.L3.de, L2.L3.aP, L2.L3.iG, L2.L3.pb, L2.L3.oa, L2.L3.qA, L2.L3.iH, L2.L3.fg, L2.L3.aJ, List.map_cons, List.map_nil, List.length_cons, List.length_nil, List.cons_append, List.nil_append, List.append_nil, List.getElem?_cons_zero, List.getElem?_cons_succ, List.getElem?_nil, List.set_cons_zero, List.set_cons_succ, Option.some.injEq, L2.L3.Lo.d.injEq, L2.L3.Lo.own.injEq, L2.L3.D.bl.injEq, L2.L3.D.int.injEq, exists_eq_left', exists_eq_left, Nat.reduceAdd, Nat.reduceSub, Nat.sub_self, Nat.add_one_sub_one, List.replicate_succ, List.replicate_zero, L2.L3.D.tup.injEq, List.cons.injEq, and_assoc, L2.L3.kN, L2.L3.ie, L2.L3.x4, L2.L3.nK, L2.L3.sL, L2.L3.sg, L2.L3.g8, L2.L3.wZ, L2.L3.t5, L2.L3.rS, L2.L3.rC, L2.L3.xF, L2.L3.wM, L2.L3.xD, L2.L3.xj, L2.L3.rX, L2.L3.sE, L2.L3.rN, L2.L3.wu, L2.L3.wq, L2.L3.nY, L2.L3.oU, L2.L3.oW, L2.L3.pj, L2.L3.Am, L2.L3.xm, L2.L3.xK, decide_eq_true_eq, true_and, and_true, if_true, if_false, Bool.false_eq_true, Bool.not_eq_true', decide_eq_false_iff_not, PySem.sizeLine_eq, Int.reduceToNat, Int.reducePow, Int.reduceMul, Int.reduceAdd, Int.reduceNeg, Int.reduceSub, Int.reduceLT, Int.reduceLE, Int.reduceEq, Nat.reduceEqDiff, decide_true, decide_false, Nat.reduceLeDiff, Nat.reduceLT, Bool.true_eq_false, Bool.not_true, Bool.not_false, Bool.not_not, L2.L3.mf, L2.L3.nZ, L2.L3.Iv, L2.L3.Cj, L2.L3.uB, L2.L3.CW, L2.L3.rB, L2.L3.nC, L2.L3.qo, L2.L3.qq, L2.L3.D.lst.injEq, L2.L3.jY, L2.L3.eO] $[$loc]?)
namespace L2.L3
open PySem
def F1 (P:D→(D→Prop)→Prop):Fw:=fun ds Q=>∃x,ds=[x]∧P x Q
def F2 (P:D→D→(D→Prop)→Prop):Fw:=fun ds Q=>∃x y,ds=[x,y]∧P x y Q
def F3 (P:D→D→D→(D→Prop)→Prop):Fw:=fun ds Q=>∃x y z,ds=[x,y,z]∧P x y z Q
theorem jc {P}:∀ds Q,F1 P ds Q→ds.length=1:=by rintro ds Q ⟨x,rfl,_⟩;rfl
theorem je {P}:∀ds Q,F2 P ds Q→ds.length=2:=by rintro ds Q ⟨x,y,rfl,_⟩;rfl
theorem xY {P}:∀ds Q,F3 P ds Q→ds.length=3:=by rintro ds Q ⟨x,y,z,rfl,_⟩;rfl
theorem gQ {P} {x:D} {Q}:F1 P [x] Q=P x Q:=by
 unfold F1;apply propext;constructor
 ·rintro⟨x',e,h⟩;cases e;exact h
 ·intro h;exact⟨_,rfl,h⟩
theorem cU {P} {x y:D} {Q}:F2 P [x,y] Q=P x y Q:=by
 unfold F2;apply propext;constructor
 ·rintro⟨x',y',e,h⟩;cases e;exact h
 ·intro h;exact⟨_,_,rfl,h⟩
theorem oK {P} {x y z:D} {Q}:F3 P [x,y,z] Q=P x y z Q:=by
 unfold F3;apply propext;constructor
 ·rintro⟨x',y',z',e,h⟩;cases e;exact h
 ·intro h;exact⟨_,_,_,rfl,h⟩
def Fj:D→Bool | .int _=>true | _=>false
def Bw (x:D) (Q:D→Prop):Prop:=Pl x∧Q (.bl (Fj x))
def xt:Fw:=F1 Bw
def pQ:bC:=(bo (oF (uA "int" (ag 0)) (rg (uA "bool" (ag 0)))))
theorem vL:∀ds (Q:D→Prop),xt ds Q→pQ { nx:=fun _=>Q .non,rt:=Q } (aJ ["thing"] ds):=by
 rintro ds Q ⟨x,rfl,hx,h⟩
 simp_all_arith only [pQ]
 refine DM hx ⟨_,rfl,?_⟩
 cases x <;> simp only [isInt,if_true,Bool.false_eq_true,if_false] <;> first | exact h | exact Gf hx ⟨_,rfl,h⟩
end L2.L3
namespace L2.L3
open PySem
def x6 (ns:List Int) (k:Int):Int:=if k < ns.length then ns.getD k.toNat 0 else 0
def yK (x y:D) (Q:D→Prop):Prop:=∃(ns:List Int) (k:Int),x=.lst (ns.map D.int)∧y=.int k∧0≤k∧Q (.int (x6 ns k))
def wo:Fw:=F2 yK
def oy:bC:=(aF (fX (aM (aC wD (ag 1) (az iN (af (ag 0) av)))) (bo (aC cz (ag 0) (ag 1))) bq) (bo (cC (.int 0))))
theorem vK:∀ds (Q:D→Prop),wo ds Q→oy { nx:=fun _=>Q .non,rt:=Q } (aJ ["_law_script","_law_k"] ds):=by
 rintro ds Q ⟨x,y,rfl,ns,k,rfl,rfl,hk,h⟩
 simp_all_arith only [oy,List.length_map]
 unfold x6 at h
 by_cases hl:k < ns.length
 ·rw [if_pos hl] at h ⊢
  have hn:k.toNat < ns.length:=by omega
  refine⟨.int (ns.getD k.toNat 0),?_,h⟩
  rw [tN hk (by simpa using hl)]
  simp [hn]
 ·rw [if_neg hl] at h ⊢;exact h
def b9:Fw:=F1 Bw
def mW:bC:=(bo (oF (uA "int" (ag 0)) (rg (uA "bool" (ag 0)))))
theorem qd:∀ds Q,b9 ds Q→ds.length=1:=jc
theorem rP:∀ds (Q:D→Prop),b9 ds Q→mW { nx:=fun _=>Q .non,rt:=Q } (aJ ["_law_thing_here"] ds):=by
 exact vL
end L2.L3
namespace L2.L3
open PySem PySem.Spec PyProof.Rows
end L2.L3
namespace L2
open PySem PySem.Spec PyProof.Rows
theorem Inv.Dq {X:Cx} {pins:List (Addr×Obj)} {σ:St} {H:Hp} {s:Shared} {h':Heap} {t':Nat} {ch:List Addr} (I:Inv X pins σ H s) (k:∀b o,b∉ch→s.heap.get? b=some o→h'.get? b=some o) (hf:∀b∈ch,lS X pins H b) :
  Inv X pins σ H { s with heap:=h',toks:=t' }:=by
 have far:∀b u,H b=some u→b∉ch:=fun b u e z=>by rw [(hf b z).1] at e;cases e
 refine I.step (g':=s.gens) (d':=s.drawn) (ch:=ch) (fun b hb=>⟨(hf b hb).2.2.2.1,(hf b hb).2.1,(hf b hb).2.2.2.2.1,(hf b hb).2.2.2.2.2⟩) (fun b o _ _ hc e _=>k b o hc e) (fun b o _ _ hc e _=>⟨o.slots,k b o hc e⟩)
  (fun _ _ _ _ n=>n) (fun b o hc e=>⟨o,k b o hc e⟩) (fun _ _ e=>e) (fun _ _ _ e=>e) (fun b ps e=>⟨#[],by rw [e];simp⟩) (fun m hm=>?_) (fun b u e=>?_) I.bare
 ·obtain⟨o,es,ep,ho,r⟩:=hm
  exact⟨o,es,ep,k _ o (fun z=>(hf _ z).2.1 rfl) ho,r⟩
 ·refine (I.hok b u e).oo (fun c v hc q=>k c v ?_ q) (fun _ q=>q) fun _ _ q=>q
  rcases hc with z | z
  ·rw [z];exact far b u e
  ·exact far c _ z
section
variable {prog:Program} {w:World} {A:Around} {E:Value→Shared→Prop} {s:Shared}
theorem Ge {j l:Addr} {k:Nat} {its:Array Value} {y:Value} {Q:Value→Shared→Prop} (hj:s.heap.IsTupleIter j l k) (hl:s.heap.IsTuple l its) (hy:its[k]?=some y)
  (q:∀h1,h1.IsTupleIter j l (k + 1)→Heap.SameBut j s.heap h1→Q y { s with heap:=h1 }):wpAny (model prog w) A (Builtin.SmallTypes.nextOf (.ref j)) Q E s:=by
 obtain⟨oj,e1,c1,d1⟩:=id hj
 obtain⟨ot,e2,_,_,d2⟩:=hl
 unfold Builtin.SmallTypes.nextOf
 refine wpAny_bind (wpAny_callSpecial?_slot (name:=Str.ofString "__next__") hj.typeIs F.slot_tuple_iterator_next (wpAny_call_entry F.slot_tuple_iterator_next hj.typeIs F.entry_tuple_iterator_next ?_ (F.args_tuple_iterator_next_1 _)))
 show wpAny _ _ (field (.ref j) 0 >>= _) _ _ s
 refine wpAny_bind (wpAny_field e1 d1 (x:=.ref l) rfl ?_)
 show wpAny _ _ (if (Value.ref l == Value.none)=true then _ else _) _ _ s
 rw [if_neg (show ¬ ((Value.ref l == Value.none)=true) from Bool.false_ne_true)]
 show wpAny _ _ (field (.ref j) 1 >>= _) _ _ s
 refine wpAny_bind (wpAny_field e1 d1 (x:=.int k 0) rfl ?_)
 show wpAny _ _ (seqItems? (.ref l) >>= _) _ _ s
 refine wpAny_bind (wpAny_seqItems e2 d2 ?_)
 simp only [Int.toNat_natCast,hy]
 refine wpAny_bind (wpAny_setField e1 d1 (by simp) (wpAny_pure ⟨y,rfl,wpAny_pure (q _ ?_ (Heap.SameBut.update ..))⟩))
 exact⟨_,Heap.get?_update_self _ e1 (Obj.isFreed_of_fields (Obj.data_mapFields d1 _)),(Obj.cls_mapFields ..).trans c1,by rw [Obj.data_mapFields d1];simp [rawInt]⟩
theorem wI {j l:Addr} {k:Nat} {its:Array Value} {Q:Value→Shared→Prop} (hh:A.handled=none) (hj:s.heap.IsTupleIter j l k) (hl:s.heap.IsTuple l its) (hy:its[k]?=none)
  (q:∀h1 e,Heap.ExtBut j s.heap h1→(∃o,h1.get? e=some o∧o.cls=.type "StopIteration")→E (.ref e) { s with heap:=h1 }):wpAny (model prog w) A (Builtin.SmallTypes.nextOf (.ref j)) Q E s:=by
 obtain⟨oj,e1,c1,d1⟩:=id hj
 obtain⟨ot,e2,_,_,d2⟩:=hl
 unfold Builtin.SmallTypes.nextOf
 refine wpAny_bind (wpAny_callSpecial?_slot (name:=Str.ofString "__next__") hj.typeIs F.slot_tuple_iterator_next (wpAny_call_entry F.slot_tuple_iterator_next hj.typeIs F.entry_tuple_iterator_next ?_ (F.args_tuple_iterator_next_1 _)))
 show wpAny _ _ (field (.ref j) 0 >>= _) _ _ s
 refine wpAny_bind (wpAny_field e1 d1 (x:=.ref l) rfl ?_)
 show wpAny _ _ (if (Value.ref l == Value.none)=true then _ else _) _ _ s
 rw [if_neg (show ¬ ((Value.ref l == Value.none)=true) from Bool.false_ne_true)]
 show wpAny _ _ (field (.ref j) 1 >>= _) _ _ s
 refine wpAny_bind (wpAny_field e1 d1 (x:=.int k 0) rfl ?_)
 show wpAny _ _ (seqItems? (.ref l) >>= _) _ _ s
 refine wpAny_bind (wpAny_seqItems e2 d2 ?_)
 simp only [Int.toNat_natCast,hy]
 refine wpAny_bind (wpAny_rule (wpAny_bind (wpAny_setField e1 d1 (by simp) (show wpAny _ _ (newExc (.type "StopIteration") [] >>= _) _ _ _ from wpAny_bind ?_))))
 simp only [newExc,newTuple]
 refine wpAny_bind (wpAny_newObj_type (wpAny_bind (m:=firstArgMember _ _) (wpAny_of_eq (a:=Value.none) (by first | rfl | (simp only [firstArgMember];rfl)) (wpAny_newObj_type ?_ (by size_fits)))) (by size_fits))
 simp only [raiseNew]
 refine wpAny_bind (wpAny_handled ?_)
 first | rw [show A.in1.handled=none from hh] | rw [hh]
 exact wpAny_bind (wpAny_pure (wpAny_throw (q _ _ (((Heap.SameBut.update ..).extBut.push _).push _) ⟨_,Heap.get?_push_size _ rfl,rfl⟩)))
theorem De {e j:Addr} {k:Nat} {y z:Value} {T:Heap→Prop} {Q:Value→Shared→Prop} (he:IsEnum s.heap e j k z) (ne:e≠j)
  (nx:∀R:Value→Shared→Prop,(∀h1,T h1→Heap.SameBut j s.heap h1→R y { s with heap:=h1 })→wpAny (model prog w) A (Builtin.SmallTypes.nextOf (.ref j)) R E s)
  (mv:∀h1 h2:Heap,T h1→(∀o,h1.get? j=some o→h2.get? j=some o)→T h2) (hj:∀h1,T h1→∃o,h1.get? j=some o)
  (q:∀h1,IsEnumOut h1 e j ((k:Int) + 1) y s.heap.objs.size→T h1→h1.get? s.heap.objs.size=some { cls:=.type "tuple",data:=.seq #[.int k s.toks,y] }→(∀b o,b≠e→b≠j→s.heap.get? b=some o→h1.get? b=some o) →
   Q (.ref s.heap.objs.size) { s with heap:=h1,toks:=s.toks + 1 }) :
  wpAny (model prog w) A (Builtin.«enumerate.__next__» ⟨[.ref e],[]⟩) (fun fin s'=>∃v,fin=.done (.ret v)∧Q v s') E s:=by
 obtain⟨hp,g,d,tk,os⟩:=s
 show wpAny _ _ (field (.ref e) 2 >>= _) _ _ _
 refine wpAny_bind (wpAny_field he rfl (x:=.ref j) rfl (wpAny_bind (nx _ fun g1 t1 b1=>?_)))
 replace b1:Heap.SameBut j hp g1:=b1
 have i1:IsEnum g1 e j k z:=(b1.2 e ne).trans he
 show wpAny _ _ (field (.ref e) 3 >>= _) _ _ ⟨g1,g,d,tk,os⟩
 refine wpAny_bind (wpAny_field i1 rfl (x:=rawInt k) rfl ?_)
 show wpAny _ _ (field (.ref e) 4 >>= _) _ _ ⟨g1,g,d,tk,os⟩
 refine wpAny_bind (wpAny_field i1 rfl (x:=.none) rfl ?_)
 show wpAny _ _ (mkInt k >>= _) _ _ ⟨g1,g,d,tk,os⟩
 refine wpAny_bind (wpAny_mkInt ?_)
 show wpAny _ _ (setField (.ref e) 3 (rawInt ((k:Int) + 1)) >>= _) _ _ ⟨g1,g,d,tk + 1,os⟩
 refine wpAny_bind (wpAny_setField_rec i1 (by simp) fun g2 i2 b2=>?_)
 replace b2:Heap.SameBut e g1 g2:=b2
 replace i2:IsEnum g2 e j ((k:Int) + 1) z:=i2
 show wpAny _ _ (setField (.ref e) 4 .none >>= _) _ _ ⟨g2,g,d,tk + 1,os⟩
 refine wpAny_bind (wpAny_setField_rec i2 (by simp) fun g3 i3 b3=>?_)
 replace b3:Heap.SameBut e g2 g3:=b3
 replace i3:IsEnum g3 e j ((k:Int) + 1) z:=i3
 show wpAny _ _ (newTuple [.int k tk,y] >>= _) _ _ ⟨g3,g,d,tk + 1,os⟩
 refine wpAny_bind (wpAny_newTuple ?_)
 have i4:IsEnum (g3.push { cls:=.type "tuple",data:=.seq #[.int k tk,y] }) e j ((k:Int) + 1) z:=Heap.get?_push_of_some _ i3
 generalize eg:g3.push { cls:=.type "tuple",data:=.seq #[.int k tk,y] }=g4 at i4
 have sz:g3.objs.size=hp.objs.size:=by rw [b3.1,b2.1,b1.1]
 have lt:e < hp.objs.size:=Heap.lt_size he
 have t4:g4.get? hp.objs.size=some { cls:=.type "tuple",data:=.seq #[.int k tk,y] }:=by rw [← eg,← sz];exact Heap.get?_push_size _ rfl
 have k4:∀b o,b≠e→b≠j→hp.get? b=some o→g4.get? b=some o:=fun b o n1 n2 hb=>by
  rw [← eg];exact Heap.get?_push_of_some _ (b3.extBut b o n1 (b2.extBut b o n1 (b1.extBut b o n2 hb)))
 have T4:T g4:=mv g1 g4 t1 fun o ho=>by rw [← eg];exact Heap.get?_push_of_some _ (b3.extBut j o (Ne.symm ne) (b2.extBut j o (Ne.symm ne) ho))
 show wpAny _ _ (Builtin.SmallTypes.ownedTupleIsFree (.ref e) >>= _) _ _ ⟨g4,g,d,tk + 1,os⟩
 rw [sz]
 clear eg i3 b3 i2 b2 i1 b1 t1 sz g3 g2 g1
 refine wpAny_bind ?_
 unfold Builtin.SmallTypes.ownedTupleIsFree
 refine wpAny_bind (wpAny_field i4 rfl (x:=.none) rfl (wpAny_pure ?_))
 simp only [if_true]
 refine wpAny_bind (wpAny_rule (wpAny_bind (wpAny_field i4 rfl (x:=z) rfl (wpAny_bind (wpAny_setField_rec i4 (by simp) fun g5 i5 b5=>?_)))))
 replace b5:Heap.SameBut e g4 g5:=b5
 replace i5:IsEnum g5 e j ((k:Int) + 1) y:=i5
 show wpAny _ _ (Builtin.SmallTypes.ownedTupleHandOut (.ref e) (.ref hp.objs.size) >>= _) _ _ ⟨g5,g,d,tk + 1,os⟩
 refine wpAny_bind ?_
 unfold Builtin.SmallTypes.ownedTupleHandOut
 refine wpAny_bind (wpAny_setField_rec i5 (by simp) fun g6 i6 b6=>?_)
 replace b6:Heap.SameBut e g5 g6:=b6
 replace i6:IsEnumOut g6 e j ((k:Int) + 1) y hp.objs.size:=i6
 refine wpAny_setField_rec i6 (by simp) fun g7 i7 b7=>?_
 replace b7:Heap.SameBut e g6 g7:=b7
 replace i7:IsEnumOut g7 e j ((k:Int) + 1) y hp.objs.size:=i7
 have far:∀b o,b≠e→g4.get? b=some o→g7.get? b=some o:=fun b o n hb=>b7.extBut _ _ n (b6.extBut _ _ n (b5.extBut _ _ n hb))
 refine wpAny_bind (wpAny_letGo (wpAny_pure ⟨_,rfl,q g7 i7 (mv g4 g7 T4 fun o ho=>far j o (Ne.symm ne) ho) (far _ _ (Nat.ne_of_gt lt) t4) fun b o n1 n2 hb=>far b o n1 (k4 b o n1 n2 hb)⟩))
theorem x8 {e j:Addr} {k:Nat} {y z:Value} {T:Heap→Prop} {Q:Option Value→Shared→Prop} (he:IsEnum s.heap e j k z) (ne:e≠j)
  (nx:∀(A':Around) (E':Value→Shared→Prop) (R:Value→Shared→Prop),(∀h1,T h1→Heap.SameBut j s.heap h1→R y { s with heap:=h1 })→wpAny (model prog w) A' (Builtin.SmallTypes.nextOf (.ref j)) R E' s)
  (mv:∀h1 h2:Heap,T h1→(∀o,h1.get? j=some o→h2.get? j=some o)→T h2) (hj:∀h1,T h1→∃o,h1.get? j=some o)
  (q:∀h1,IsEnumOut h1 e j ((k:Int) + 1) y s.heap.objs.size→T h1→h1.get? s.heap.objs.size=some { cls:=.type "tuple",data:=.seq #[.int k s.toks,y] }→(∀b o,b≠e→b≠j→s.heap.get? b=some o→h1.get? b=some o) →
   Q (some (.ref s.heap.objs.size)) { s with heap:=h1,toks:=s.toks + 1 }):wpAny (model prog w) A (pyNext (.ref e)) Q E s:=by
 have ty:s.TypeIs (.ref e) "enumerate":=⟨_,he,rfl⟩
 unfold pyNext
 exact wpAny_bind (wpAny_attempt (wpAny_callSpecial?_slot (name:=Str.ofString "__next__") ty F.slot_enumerate_next (wpAny_call_entry F.slot_enumerate_next ty F.entry_enumerate_next
  (De he ne (fun R hR=>nx _ _ R hR) mv hj fun h1 a b c d=>wpAny_pure (q h1 a b c d)) (F.args_enumerate_next_1 _))))
theorem BX {e j:Addr} {k:Nat} {z:Value} {Q:Option Value→Shared→Prop} (he:IsEnum s.heap e j k z)
  (nx:∀(A':Around) (E':Value→Shared→Prop),A'.handled=A.handled→(∀h1 x,Heap.ExtBut j s.heap h1→(∃o,h1.get? x=some o∧o.cls=.type "StopIteration")→E' (.ref x) { s with heap:=h1 })→wpAny (model prog w) A' (Builtin.SmallTypes.nextOf (.ref j)) (fun _ _=>False) E' s)
  (q:∀h1,Heap.ExtBut j s.heap h1→Q none { s with heap:=h1 }):wpAny (model prog w) A (pyNext (.ref e)) Q E s:=by
 have ty:s.TypeIs (.ref e) "enumerate":=⟨_,he,rfl⟩
 unfold pyNext
 refine wpAny_bind (wpAny_attempt (wpAny_callSpecial?_slot (name:=Str.ofString "__next__") ty F.slot_enumerate_next (wpAny_call_entry F.slot_enumerate_next ty F.entry_enumerate_next ?_ (F.args_enumerate_next_1 _))))
 show wpAny _ _ (field (.ref e) 2 >>= _) _ _ _
 refine wpAny_bind (wpAny_field he rfl (x:=.ref j) rfl (wpAny_bind (wpAny_mono (nx _ _ rfl fun h1 x b1 c1=>?_) (fun _ _ f=>f.elim) fun _ _ u=>u)))
 obtain⟨o,ho,hc⟩:=c1
 exact wpAny_bind (wpAny_isInstance (T:="StopIteration") (b:=true) ⟨o,ho,hc⟩ isSubtype_stop (wpAny_pure (q _ b1)))
end
end L2
namespace L2.L3
open PySem PySem.Spec PyProof.Rows
def HA (S:Hp→List V→Prop):It :=
 ⟨fun i H=>∃xs x,S H xs∧xs[i]?=some x,fun i H y H'=>∃p x,(∀xs,S H xs→xs[i]?=some x)∧H p=none∧y=.ref p∧H'=upd H p (.tup [.int i,x]),fun i H=>∃xs,S H xs∧xs.length≤i⟩
theorem zY {X:Cx} {pins:List (Addr×Obj)} {σ:St} {H:Hp} {s:Shared} {e j:Addr} {i:Nat} {x:V} {u:Value} {h2:Heap} (I:Inv X pins σ H s) (hf:∀b∈[e,j],lS X pins H b) (ru:RelV x u)
  (lt:e < s.heap.objs.size) (lj:j < s.heap.objs.size) (t1:h2.get? s.heap.objs.size=some { cls:=.type "tuple",data:=.seq #[.int i s.toks,u] }) (fr:∀b o,b≠e→b≠j→s.heap.get? b=some o→h2.get? b=some o) :
  Inv X pins σ (upd H s.heap.objs.size (.tup [.int i,x])) { s with heap:=h2,toks:=s.toks + 1 }∧H s.heap.objs.size=none:=by
 have hn:H s.heap.objs.size=none:=I.hok.fresh (Nat.le_refl _)
 refine⟨?_,hn⟩
 have I1:Inv X pins σ (upd H s.heap.objs.size (.tup [.int i,x])) { s with heap:=s.heap.push { cls:=.type "tuple",data:=.seq #[.int i s.toks,u] },toks:=s.toks } :=
  I.laid (t':=s.toks) (fun b o e=>Heap.get?_push_of_some _ e) (Nat.le_refl _) (show bF X.prog X.w _ _ _ (.tup [.int i,x]) from ⟨by simp [PySem.sizeLine_eq],[.int i s.toks,u],.cons ⟨_,rfl⟩ (.cons ru .nil),rY.new _ _⟩)
 refine Inv.Dq (s:={ s with heap:=s.heap.push { cls:=.type "tuple",data:=.seq #[.int i s.toks,u] },toks:=s.toks }) (h':=h2) (t':=s.toks + 1) (ch:=[e,j]) I1 (fun b o hb hg=>?_) fun b hb=>?_
 ·have nb1:b≠e:=fun z=>hb (by simp [z])
  have nb2:b≠j:=fun z=>hb (by simp [z])
  rcases Heap.get?_push_cases hg with ⟨rfl,rfl⟩ | hg
  ·exact t1
  ·exact fr b o nb1 nb2 hg
 ·obtain⟨f0,f⟩:=hf b hb
  refine⟨?_,f⟩
  rw [aB];exact f0
  rcases List.mem_cons.mp hb with rfl | hb
  ·exact Nat.ne_of_lt lt
  ·rw [List.mem_singleton.mp hb];exact Nat.ne_of_lt lj
theorem A3 {P:Program} {w:World} {K:PySem.W.Frag} {elts:List Expr} {x1:Nat} {tp:Pos} (a e j:Addr) (ne:e≠j):Turn P w K (.Tuple elts x1 tp) (HA fun H xs=>fz K H a xs) [e,j] e (fun i h=>(∃z,IsEnum h e j i z)∧h.IsListIter j a i) where
 mem:=by simp
 obj:=fun i h st b hb=>by
  obtain⟨⟨z,e1⟩,o,e2,c,d⟩:=st
  rcases List.mem_cons.mp hb with rfl | hb
  ·exact⟨_,e1,fun v q=>by
    have q':Data.fields _=Data.cell v:=q
    cases q'⟩
  ·rw [List.mem_singleton.mp hb];exact⟨o,e2,fun v q=>by rw [d] at q;cases q⟩
 keep:=fun i h h' st k=>⟨⟨st.1.choose,k e (by simp) _ st.1.choose_spec⟩,st.2.at fun o q=>k j (by simp) o q⟩
 item:=by
  intro X hP hw hK hc i pins s σ H E I hf st hg
  subst hP hw hK
  obtain⟨⟨z,he⟩,hj⟩:=st
  obtain⟨xs,x,hq,hx⟩:=hg
  obtain⟨its,rv,p,hz⟩:=I.list hq
  obtain⟨u,hu,ru⟩:=rv.get hx
  have lt:e < s.heap.objs.size:=Heap.lt_size he
  have lj:j < s.heap.objs.size:=by obtain⟨_,q,_⟩:=hj;exact Heap.lt_size q
  refine x8 (T:=fun h=>h.IsListIter j a (i + 1)) he ne (fun A' E' R hR=>wpAny_nextOf_list_item hj p.isList (x:=u) (by simpa using hu) hR) (fun h1 h2 t k=>t.at fun o q=>k o q) (fun h1 t=>let ⟨o,q,_⟩:=t;⟨o,q⟩) fun h1 o1 t1 n1 fr=>?_
  refine⟨_,rfl,wpAny_letOwnedTupleGo_enum o1 fun h2 e2 b2=>?_⟩
  have n2:h2.get? s.heap.objs.size=some { cls:=.type "tuple",data:=.seq #[.int i s.toks,u] }:=(b2.2 _ (Nat.ne_of_gt lt)).trans n1
  obtain⟨I2,hn⟩:=zY (h2:=h2) I hf ru lt lj n2 fun b o q1 q2 q3=>(b2.2 b q1).trans (fr b o q1 q2 q3)
  refine⟨.ref s.heap.objs.size,_,I2,rfl,⟨_,x,fun ys hy=>by rw [I.oG hy hq];exact hx,hn,rfl,rfl⟩,⟨⟨u,by simpa using e2⟩,t1.at fun o q=>(b2.2 j (Ne.symm ne)).trans q⟩,fun b hb=>?_⟩
  rw [aB];exact (hf b hb).1
  rcases List.mem_cons.mp hb with rfl | hb
  ·exact Nat.ne_of_lt lt
  ·rw [List.mem_singleton.mp hb];exact Nat.ne_of_lt lj
 done:=by
  intro X hP hw hK hc i pins s σ H E I hf st hg
  subst hP hw hK
  obtain⟨⟨z,he⟩,hj⟩:=st
  obtain⟨xs,hq,hx⟩:=hg
  obtain⟨its,rv,p,hz⟩:=I.list hq
  have hl:=rv.length
  refine BX he (fun A' E' hA hE=>wpAny_nextOf_list_end (hA.trans (I.ok.hd hc)) hj p.isList (by simp;omega) hE) fun h1 b1=>⟨rfl,?_⟩
  obtain⟨f0,f1,f2,f3,f4,f5⟩:=hf j (by simp)
  exact I.turned (t':=s.toks) (fun b o hb e=>b1 b o hb e) f0 f1 f3 f4 f5
 self:=fun _ _ _ _ _ st h=>wpAny_pyIter_enum st.1.choose_spec h
theorem AO {P:Program} {w:World} {K:PySem.W.Frag} {elts:List Expr} {x1:Nat} {tp:Pos} (a e j:Addr) (ne:e≠j):Turn P w K (.Tuple elts x1 tp) (HA fun H xs=>iy K H a xs) [e,j] e (fun i h=>(∃z,IsEnum h e j i z)∧h.IsTupleIter j a i) where
 mem:=by simp
 obj:=fun i h st b hb=>by
  obtain⟨⟨z,e1⟩,o,e2,c,d⟩:=st
  rcases List.mem_cons.mp hb with rfl | hb
  ·exact⟨_,e1,fun v q=>by
    have q':Data.fields _=Data.cell v:=q
    cases q'⟩
  ·rw [List.mem_singleton.mp hb];exact⟨o,e2,fun v q=>by rw [d] at q;cases q⟩
 keep:=fun i h h' st k=>⟨⟨st.1.choose,k e (by simp) _ st.1.choose_spec⟩,st.2.at fun o q=>k j (by simp) o q⟩
 item:=by
  intro X hP hw hK hc i pins s σ H E I hf st hg
  subst hP hw hK
  obtain⟨⟨z,he⟩,hj⟩:=st
  obtain⟨xs,x,hq,hx⟩:=hg
  obtain⟨its,rv,p,hz⟩:=I.tuple hq
  obtain⟨u,hu,ru⟩:=rv.get hx
  have lt:e < s.heap.objs.size:=Heap.lt_size he
  have lj:j < s.heap.objs.size:=by obtain⟨_,q,_⟩:=hj;exact Heap.lt_size q
  refine x8 (T:=fun h=>h.IsTupleIter j a (i + 1)) he ne (fun A' E' R hR=>Ge hj (show s.heap.IsTuple a its.toArray from p) (y:=u) (by simpa using hu) hR) (fun h1 h2 t k=>t.at fun o q=>k o q) (fun h1 t=>let ⟨o,q,_⟩:=t;⟨o,q⟩) fun h1 o1 t1 n1 fr=>?_
  refine⟨_,rfl,wpAny_letOwnedTupleGo_enum o1 fun h2 e2 b2=>?_⟩
  have n2:h2.get? s.heap.objs.size=some { cls:=.type "tuple",data:=.seq #[.int i s.toks,u] }:=(b2.2 _ (Nat.ne_of_gt lt)).trans n1
  obtain⟨I2,hn⟩:=zY (h2:=h2) I hf ru lt lj n2 fun b o q1 q2 q3=>(b2.2 b q1).trans (fr b o q1 q2 q3)
  refine⟨.ref s.heap.objs.size,_,I2,rfl,⟨_,x,fun ys hy=>by rw [I.md hy hq];exact hx,hn,rfl,rfl⟩,⟨⟨u,by simpa using e2⟩,t1.at fun o q=>(b2.2 j (Ne.symm ne)).trans q⟩,fun b hb=>?_⟩
  rw [aB];exact (hf b hb).1
  rcases List.mem_cons.mp hb with rfl | hb
  ·exact Nat.ne_of_lt lt
  ·rw [List.mem_singleton.mp hb];exact Nat.ne_of_lt lj
 done:=by
  intro X hP hw hK hc i pins s σ H E I hf st hg
  subst hP hw hK
  obtain⟨⟨z,he⟩,hj⟩:=st
  obtain⟨xs,hq,hx⟩:=hg
  obtain⟨its,rv,p,hz⟩:=I.tuple hq
  have hl:=rv.length
  refine BX he (fun A' E' hA hE=>wI (hA.trans (I.ok.hd hc)) hj (show s.heap.IsTuple a its.toArray from p) (by simp;omega) hE) fun h1 b1=>⟨rfl,?_⟩
  obtain⟨f0,f1,f2,f3,f4,f5⟩:=hf j (by simp)
  exact I.turned (t':=s.toks) (fun b o hb e=>b1 b o hb e) f0 f1 f3 f4 f5
 self:=fun _ _ _ _ _ st h=>wpAny_pyIter_enum st.1.choose_spec h
section
variable {prog:Program} {w:World} {A:Around} {E:Value→Shared→Prop} {s:Shared}
open AutoSeq1 (wpAny_loadPart') in
theorem FT (l:Addr) (its:Array Value) (o:Obj) (c:o.cls=.type "tuple") (n:Nat) (dd:o.data=.seq its n) :
  Meets (Builtin.«enumerate.__new__» ⟨[.type "enumerate",.ref l],[]⟩) (fun _ R s=>s.heap.get? l=some o ∧
   R (.ok (.ret (.ref (s.heap.push { cls:=.type "tuple_iterator",data:=.fields #[.ref l,.int 0 0] }).objs.size)))
    { s with heap:=(s.heap.push { cls:=.type "tuple_iterator",data:=.fields #[.ref l,.int 0 0] }).push { cls:=.type "enumerate",data:=.fields #[.none,.bool false,.ref s.heap.objs.size,rawInt 0,.none,.none] } }) :=
 .of_wp fun prog w A R s hh=>by
  obtain⟨oc,od,odt,osl⟩:=o
  replace c:oc=.type "tuple":=c
  replace dd:odt=.seq its n:=dd
  subst c dd
  obtain⟨hp,gg,dr,tk,os⟩:=s;obtain⟨hl,q⟩:=hh
  have hsub:=sub_enumerate
  have hT:Heap.IsTuple (Shared.heap ⟨hp,gg,dr,tk,os⟩) l its:=⟨_,hl,rfl,n,rfl⟩
  wp_walk using wpAny_loadPart' hl
  refine wpAny_stack_any fun st=>wpAny_pure ?_
  split
  ·rename_i cc _ _ _ _ _
   cases (cc == Value.type "enumerate") <;> (wp_walk using wpAny_loadPart' hl,wpAny_pyIter_tuple hT;exact⟨_,rfl,q⟩)
  ·wp_walk using wpAny_loadPart' hl,wpAny_pyIter_tuple hT
   exact⟨_,rfl,q⟩
theorem Au {l:Addr} {its:Array Value} {Q:Value→Shared→Prop} (hl:s.heap.IsTuple l its)
  (q:∀h1,IsEnum h1 (s.heap.objs.size + 1) s.heap.objs.size 0 .none→h1.IsTupleIter s.heap.objs.size l 0→(∀b o,s.heap.get? b=some o→h1.get? b=some o)→Q (.ref (s.heap.objs.size + 1)) { s with heap:=h1 }):wpAny (model prog w) A (call (.type "enumerate") [.ref l]) Q E s:=by
 obtain⟨o,e1,c1,n,d1⟩:=hl
 refine callType_new F.called_enumerate (by decide) (F.typeCall_enumerate_1 _) (F.newCall_enumerate_1 _) (fun ob=>F.args_object_init_2 ob _) F.entry_enumerate_new (FT l its o c1 n d1) ⟨e1,?_⟩
 have z:(s.heap.push { cls:=.type "tuple_iterator",data:=.fields #[.ref l,.int 0 0] }).objs.size=s.heap.objs.size + 1:=Heap.size_push ..
 show _∧_
 rw [z]
 have i1:IsEnum ((s.heap.push { cls:=.type "tuple_iterator",data:=.fields #[.ref l,.int 0 0] }).push { cls:=.type "enumerate",data:=.fields #[.none,.bool false,.ref s.heap.objs.size,rawInt 0,.none,.none] }) (s.heap.objs.size + 1) s.heap.objs.size 0 .none:=by
  have y:=Heap.get?_push_size (s.heap.push { cls:=.type "tuple_iterator",data:=.fields #[.ref l,.int 0 0] }) (o:={ cls:=.type "enumerate",data:=.fields #[.none,.bool false,.ref s.heap.objs.size,rawInt 0,.none,.none] }) rfl
  rw [z] at y;exact y
 exact⟨⟨_,i1,rfl⟩,q _ i1 ⟨_,Heap.get?_push_of_some _ (Heap.get?_push_size _ rfl),rfl,rfl⟩ fun b o x=>Heap.get?_push_of_some _ (Heap.get?_push_of_some _ x)⟩
end
section
variable {X:Cx}
def JQ (K:PySem.W.Frag) (ta:TA):TI:=fun σ H R=>ta σ H fun vs H1=>∃a,vs=[.ref a]∧(((∃xs,fz K H1 a xs)∧R (HA fun H xs=>fz K H a xs) H1)∨((∃xs,iy K H1 a xs)∧R (HA fun H xs=>iy K H a xs) H1))
theorem HS {elts:List Expr} {x1:Nat} {tp:Pos} {a:Expr} {ta:TA} {p pos:Pos} (hg:Gl X "enumerate") (hm:X.mg "enumerate" = none) (ha:PA X [a] ta) (hs:starEach [a] X.env=[(false,eval a X.env)]:=by rfl) :
  PI X (.Tuple elts x1 tp) (.Call (.Name "enumerate" p) [a] [] pos) (JQ X.K ta):=by
 intro pins s σ H R I h
 refine Call_ (jZ I hg hm boot_enumerate (PyProof.Rows.callWith_type1 (bP (ha pos pins s σ H _ I h) fun us s1 ⟨vs,H1,I1,r1,q1⟩=>?_) hs rfl))
 obtain⟨l,e,q⟩:=q1
 subst e
 cases r1 with
 | cons r rr =>
  cases rr
  cases r
  have fin:∀b∈[s1.heap.objs.size + 1,s1.heap.objs.size],lS X pins H1 b:=fun b hb=>by
   have hb':s1.heap.objs.size≤b:=by
    rcases List.mem_cons.mp hb with rfl | hb
    ·omega
    ·rw [List.mem_singleton.mp hb];exact Nat.le_refl _
   exact I1.zh hb' (I1.hok.fresh hb')
  rcases q with ⟨⟨xs,hq⟩,q⟩ | ⟨⟨xs,hq⟩,q⟩
  ·obtain⟨its,rv,pl,hz⟩:=I1.list hq
   refine call_enumerate_list pl.isList fun h1 i1 j1 _ k1=>?_
   refine wpAny_pyIter_enum i1 ⟨_,[s1.heap.objs.size + 1,s1.heap.objs.size],_,_,H1,rfl,I1.kept (t':=s1.toks) k1,A3 l (s1.heap.objs.size + 1) s1.heap.objs.size (Nat.succ_ne_self _),⟨⟨_,i1⟩,j1⟩,fin,q⟩
  ·obtain⟨its,rv,pl,hz⟩:=I1.tuple hq
   refine Au (show s1.heap.IsTuple l its.toArray from pl) fun h1 i1 j1 k1=>?_
   refine wpAny_pyIter_enum i1 ⟨_,[s1.heap.objs.size + 1,s1.heap.objs.size],_,_,H1,rfl,I1.kept (t':=s1.toks) k1,AO l (s1.heap.objs.size + 1) s1.heap.objs.size (Nat.succ_ne_self _),⟨⟨_,i1⟩,j1⟩,fin,q⟩
end
end L2.L3
namespace L2.L3
open PySem PySem.Spec PyProof.Rows
structure xg (K:PySem.W.Frag) (J:It) (F1:Hp) (xs:List D):Prop where
 go:∀(i:Nat) (G H':Hp),ar F1 G→ar G H'→i < xs.length→J.go i H'
 yld:∀(i:Nat) (G H':Hp) (y:V) (H'':Hp) (x:D) (B:Base) (σ:St) (env:En),ar F1 G→Rep K B G H' σ env→xs[i]?=some x→J.yld i H' y H''→∃G',Rep K B G' H'' σ env∧ar G G'∧Den K G' x y
 stop:∀(G H':Hp),ar F1 G→ar G H'→J.stop xs.length H'
def mO (xs:List D):List D:=xs.mapIdx fun i x=>.tup [.int (i:Int),x]
theorem uJ {xs:List D} {i:Nat} {y:D} (h:(mO xs)[i]?=some y):∃x,xs[i]?=some x∧y=.tup [.int (i:Int),x]:=by
 unfold mO at h
 rw [List.getElem?_mapIdx] at h
 cases e:xs[i]? with
 | none=>rw [e] at h;cases h
 | some x=>rw [e] at h;cases h;exact⟨x,rfl,rfl⟩
theorem mz {xs:List D}:(mO xs).length=xs.length:=by simp [mO]
theorem vM {K:PySem.W.Frag} {F1:Hp} {vs:List V} {xs:List D} {S:Hp→List V→Prop} (hS:∀G H',ar F1 G→ar G H'→S H' vs) (r:ao K F1 xs vs):xg K (HA S) F1 (mO xs) where
 go:=fun i G H' s1 s2 hi=>by
  rw [mz] at hi
  have:i < vs.length:=by rw [← r.length];exact hi
  exact⟨vs,vs[i],hS G H' s1 s2,by simp [this]⟩
 yld:=fun i G H' y H'' x B σ env s1 rp hx hy=>by
  obtain⟨x',hx',rfl⟩:=uJ hx
  obtain⟨v,h1,h2⟩:=r.get hx'
  obtain⟨p,u,q1,q3,rfl,rfl⟩:=hy
  have q2:=q1 vs (hS G H' s1 rp.fh)
  rw [h1] at q2;cases q2
  obtain⟨r2,s2⟩:=rp.laid (o:=.tup [.int i,v]) q3
  exact⟨_,r2,s2,gh (iy.of aI) (aW bf (aW (Den.mono (s1.trans s2) _ _ h2) a7))⟩
 stop:=fun G H' s1 s2=>⟨vs,hS G H' s1 s2,by rw [mz,r.length];exact Nat.le_refl _⟩
section
variable {X:Cx} {N':List Str} {ix:List Nat} {scope:Scope} {elt iter a b:Expr} {ifs:List Expr} {x y:Str} {px py tp pos:Pos} {c:Nat} {tt:TB} {te ti:TD} {ts:eI}
def Cm (d:D):Option (List D):=match d with | .lst xs=>some xs | .tup xs=>some xs | _=>none
theorem FH {B:Base} {σ:St} {F H:Hp} {env:En} {P:List D→Prop} {R:It→Hp→Prop} (hi:QA X [a] ts) (rp:Rep X.K B F H σ env) (h:ts env fun ds=>∃d xs,ds=[d]∧Cm d=some xs∧P (mO xs))
  (hR:∀(J:It) (F1 H1:Hp) (xs:List D),Rep X.K B F1 H1 σ env→ar F F1→xg X.K J F1 xs→P xs→R J H1) :
  JQ X.K (wA X [a]) σ H R:=by
 refine cg (hi B σ F H env _ rp h) fun vs H1 ⟨F1,ds,r1,s1,d1,d,xs,hx,hd,q1⟩=>?_
 subst hx
 simp only [ao] at d1
 obtain⟨v,r,rfl,dv,rfl⟩:=d1
 cases d with
 | lst ys =>
  simp only [Cm] at hd;cases hd
  simp only [Den] at dv
  obtain⟨l,vs,rfl,q,r⟩:=dv
  exact⟨l,rfl,.inl ⟨⟨vs,r1.fh.seq q⟩,hR _ F1 H1 _ r1 s1 (vM (fun G H' z1 z2=>z2.seq (z1.seq q)) r) q1⟩⟩
 | tup ys =>
  simp only [Cm] at hd;cases hd
  simp only [Den] at dv
  obtain⟨l,vs,rfl,q,r⟩:=dv
  exact⟨l,rfl,.inr ⟨⟨vs,ar.b8 r1.fh q⟩,hR _ F1 H1 _ r1 s1 (vM (fun G H' z1 z2=>ar.b8 z2 (ar.b8 z1 q)) r) q1⟩⟩
 | _=>simp only [Cm] at hd;cases hd
def uR (ts:eI) (g:pS) (tb:bC):bC:=fun D env=>ts env fun ds=>∃d xs,ds=[d]∧Cm d=some xs∧turns g tb D (mO xs) env
theorem zr {tg:Expr} {body:List Stmt} {g:pS} {t:bC} (hg:QG X tg g) (hb:mI X body t) {B:Base} {σ:St} {F1 H1:Hp} {env:En} {D:Ends3} {J:It} {xs:List L3.D} (r1:Rep X.K B F1 H1 σ env) (S:xg X.K J F1 xs) (q1:turns g t D xs env) :
  ∃W:Nat→Nat→St→Hp→Prop,(∃m,W 0 m σ H1)∧∀i m σ H,W i m σ H→(J.stop i H∧(RS X B D).nx σ H)∨(J.go i H∧∃N:St→Hp→Prop,(∀σ' H',N σ' H'→∃m',m' < m∧W (i + 1) m' σ' H') ∧
    ∀x H',J.yld i H x H'→wG X tg x σ H' fun σ2 H2=>wSs X body { RS X B D with nx:=N,ct:=N,bk:=(RS X B D).nx } σ2 H2):=by
 have sm:=RS.same (X:=X) (B:=B) (D:=D) r1.f0
 refine⟨fun i m σ H=>m=xs.length - i∧i≤xs.length∧∃F env,Rep X.K ⟨F1,B.H,B.N,B.nb⟩ F H σ env∧turns g t D (xs.drop i) env,⟨xs.length,by simp,Nat.zero_le _,F1,env,r1.now,by simpa using q1⟩,?_⟩
 rintro i m σ2 H2 ⟨rfl,hi2,F2,env2,r2,q2⟩
 by_cases hlt:i < xs.length
 ·have hxi:xs[i]?=some xs[i]:=by simp [hlt]
  rw [drop_cons hxi] at q2
  refine .inr ⟨S.go i F2 H2 r2.f0 r2.fh hlt,fun σ' H'=>∃F env,Rep X.K ⟨F1,B.H,B.N,B.nb⟩ F H' σ' env∧turns g t D (xs.drop (i + 1)) env,fun σ' H' ⟨F',env',r',q'⟩=>⟨xs.length - (i + 1),by omega,rfl,by omega,F',env',r',q'⟩,fun z H' hz=>?_⟩
  obtain⟨G,rG,sG,dz⟩:=S.yld i F2 H2 z H' xs[i] _ σ2 env2 r2.f0 r2 hxi hz
  refine ik (hg _ σ2 G _ env2 _ _ _ rG dz q2) fun σ3 H3 ⟨F3,env3,r3,s3,q3⟩=>?_
  exact fR (hb _ σ3 F3 H3 env3 _ r3 q3) (fun _ _ q=>q) (fun v H q=>sm.2.1 v H q) (fun v H q=>sm.1 v H q) (fun _ _ q=>q)
 ·have e:i=xs.length:=by omega
  subst e
  rw [List.drop_eq_nil_of_le (Nat.le_refl _)] at q2
  exact .inl ⟨S.stop F2 H2 r2.f0 r2.fh,sm.1 _ _ ⟨F2,env2,r2,q2⟩⟩
theorem CZ {elts:List Expr} {x1:Nat} {body:List Stmt} {g:pS} {t:bC} {p pos2:Pos} (hp:PassesOwn (model X.prog X.w) X.A X.env X.xe) (hc:X.calm=true) (hgl:Gl X "enumerate") (hm:X.mg "enumerate" = none) (ha:QA X [a] ts) (hg:QG X (.Tuple elts x1 tp) g) (hb:mI X body t)
  (hst:starEach [a] X.env=[(false,eval a X.env)]:=by rfl) (hs:∀x,foldedSetIterable (.Call (.Name "enumerate" p) [a] [] pos2) X.env x=pure x:=by intro _;rfl):QS X (.For (.Tuple elts x1 tp) (.Call (.Name "enumerate" p) [a] [] pos2) body [] pos) (uR ts g t):=by
 refine⟨fun B σ F H env D rp h=>dA (pw hp hc (HS hgl hm js hst) wR d9 hs) ?_⟩
 exact FH (P:=fun xs=>turns g t D xs env) ha rp h fun J F1 H1 xs r1 s1 S q=>zr hg hb r1 S q
end
end L2.L3
namespace L2.L3
open PySem PySem.Spec PyProof.Rows
mutual
theorem x3:∀(a b c:D),ba a b=true→ba a c=ba b c:=by
 intro a b c h
 cases a <;> cases b <;> first | (simp only [ba,Bool.false_eq_true] at h;done) | skip
 all_goals cases c <;> first | rfl | (simp only [ba,beq_iff_eq] at h ⊢;subst h;rfl) | skip
 all_goals first
  | (simp only [ba] at h ⊢;exact vm _ _ _ h)
  | (simp only [ba,beq_iff_eq] at h ⊢;rw [Bool.eq_iff_iff];simp only [beq_iff_eq];split at h <;> split <;> simp_all <;> omega)
  | (simp only [ba,beq_iff_eq] at h ⊢;rw [Bool.eq_iff_iff];simp only [beq_iff_eq];split at h <;> simp_all)
  | (simp only [ba,beq_iff_eq] at h ⊢;subst h;rw [Bool.eq_iff_iff];simp only [beq_iff_eq];split <;> simp_all)
  | (simp only [ba,beq_iff_eq] at h ⊢;subst h;split <;> simp_all)
theorem vm:∀(a b c:List D),fB a b=true→fB a c=fB b c:=by
 intro a b c h
 cases a with
 | nil=>cases b with
  | nil=>rfl
  | cons y r=>simp only [fB,Bool.false_eq_true] at h
 | cons x r=>cases b with
  | nil=>simp only [fB,Bool.false_eq_true] at h
  | cons y t =>
   simp only [fB,Bool.and_eq_true] at h
   cases c with
   | nil=>rfl
   | cons z u=>simp only [fB];rw [x3 x y z h.1,vm r t u h.2]
end
section
variable {X:Cx} {pins:List (Addr×Obj)} {σ:St} {H F:Hp} {s:Shared}
open Classical in
noncomputable def iF (us:List Value) (ds:List D) (d:D) (u:Value):Bool:=decide (∃(i:Nat) (x:D),us[i]?=some u∧ds[i]?=some x∧ba x d=true)
open Classical in
theorem nM (I:Inv X pins σ H s) (fh:ar F H) {ds:List D} {vs:List V} {us:List Value} {d:D} (hd:cy ds < 1000) (dl:ao X.K F ds vs) (rv:Vals vs us) {j:Nat} {x:D} {u:Value} (hx:ds[j]?=some x) (hu:us[j]?=some u):iF us ds d u=ba x d:=by
 unfold iF
 have dle:∀(k:Nat) (y:D),ds[k]?=some y→dep y < 1000:=fun k y hy=>by
  clear dl rv hx hu
  induction ds generalizing k with
  | nil=>simp at hy
  | cons z r ih =>
   simp only [cy] at hd
   cases k with
   | zero=>simp at hy;subst hy;omega
   | succ k=>exact ih (by omega) k (by simpa using hy)
 cases hb:ba x d with
 | true=>exact decide_eq_true ⟨j,x,hu,hx,hb⟩
 | false =>
  refine decide_eq_false fun⟨i,y,h1,h2,h3⟩=>?_
  obtain⟨v1,e1,d1⟩:=dl.get hx
  obtain⟨v2,e2,d2⟩:=dl.get h2
  obtain⟨w1,g1,r1⟩:=rv.get e1
  obtain⟨w2,g2,r2⟩:=rv.get e2
  rw [hu] at g1;cases g1
  rw [h1] at g2;cases g2
  have:=r1.inj r2
  subst this
  have k:=nL I fh y x _ (dle _ _ h2) (dle _ _ hx) d2 d1
  rw [x3 y x d k,hb] at h3
  cases h3
theorem ky (I:Inv X pins σ H s) (fh:ar F H) {ds:List D} {vs:List V} {us:List Value} {d:D} (hd:cy ds < 1000) (dl:ao X.K F ds vs) (rv:Vals vs us):us.map (iF us ds d)=ds.map fun x=>ba x d:=by
 have l1:=dl.length
 have l2:=rv.length
 apply List.ext_getElem?
 intro i
 rw [List.getElem?_map,List.getElem?_map]
 by_cases hi:i < ds.length
 ·have h1:ds[i]?=some ds[i]:=by simp [hi]
  have h2:us[i]?=some (us[i]'(by omega)):=List.getElem?_eq_getElem _
  rw [h1,h2]
  simp only [Option.map_some]
  rw [nM I fh hd dl rv h1 h2]
 ·rw [List.getElem?_eq_none (by omega),List.getElem?_eq_none (by omega)];rfl
end
section
variable {X:Cx} {a b:Expr} {ta tb:TD} {pos:Pos}
def Hu (X:Cx) (neg:Bool):R2:=fun x y H Q=>∃(F:Hp) (d:D) (ds:List D) (vs:List V) (p:Addr),ar F H∧Den X.K F d x∧y=.ref p∧(fz X.K F p vs∨iy X.K F p vs)∧ao X.K F ds vs∧X.A.units + 64 < cLine∧cy ds≤60∧dep d≤60∧Q (.bl (if neg then !ds.any (fun e=>ba e d) else ds.any fun e=>ba e d)) H
theorem any_map' {α:Type} (f:α→Bool) (l:List α):l.any f=(l.map f).any id:=by rw [List.any_map];rfl
theorem oq {X:Cx} {pins:List (Addr×Obj)} {σ:St} {H F:Hp} {s:Shared} (I:Inv X pins σ H s) (fh:ar F H) {ds:List D} {vs:List V} {us:List Value} {d:D} {x:V} {v:Value} (hu:X.A.units + 64 < cLine) (hds:cy ds≤60) (hd:dep d≤60) (dl:ao X.K F ds vs) (rv:Vals vs us) (dx:Den X.K F d x) (rx:RelV x v) :
  ∀u∈us,SeqAt.EqAt X.A.in1 s u v (iF us ds d u):=by
 intro u hu'
 obtain⟨j,hj,e⟩:=List.getElem_of_mem hu'
 have h2:us[j]?=some u:=by rw [← e];simp [hj]
 have l1:=dl.length
 have l2:=rv.length
 have h1:ds[j]?=some (ds[j]'(by omega)):=List.getElem?_eq_getElem _
 rw [nM I fh (by omega) dl rv h1 h2]
 obtain⟨w,g1,g2⟩:=dl.get h1
 obtain⟨u',g3,g4⟩:=rv.get g1
 rw [h2] at g3;cases g3
 have dle:dep (ds[j]'(by omega))≤60:=by
  have go:∀(l:List D) (n:Nat),cy l≤n→∀y∈l,dep y≤n:=by
   intro l
   induction l with
   | nil=>intro n _ y hy;cases hy
   | cons z r ih =>
    intro n hn y hy
    simp only [cy] at hn
    rcases List.mem_cons.mp hy with rfl | hy
    ·omega
    ·exact ih n (by omega) y hy
  exact go ds 60 hds _ (List.getElem_mem _)
 exact oD I fh _ d X.A.in1 _ x u v (by rw [units_in1];omega) (by omega) (by omega) g2 dx g4 rx
theorem CK:gT X (compareOp .NotIn) (Hu X true):=by
 intro pins s σ H x y v u Q I rx ry h
 obtain⟨F,d,ds,vs,p,fh,dx,rfl,hq,dl,hu,h1,h2,q⟩:=h
 cases ry
 rcases hq with hq | hq
 ·obtain⟨its,r,pl,hz⟩:=I.list (fh.seq hq)
  refine SeqAt.notIn_listAt (iF its ds d) pl.isList (fun w hw=>oq I fh hu h1 h2 dl r dx rx w (by simpa using hw)) ⟨.bl _,H,I,rfl,?_⟩
  rw [show its.toArray.any (iF its ds d)=its.any (iF its ds d) by simp,any_map',ky I fh (by omega) dl r,← any_map']
  exact q
 ·obtain⟨its,r,pl,hz⟩:=I.tuple (ar.b8 fh hq)
  refine SeqAt.notIn_tupleAt (iF its ds d) pl (fun w hw=>oq I fh hu h1 h2 dl r dx rx w (by simpa using hw)) ⟨.bl _,H,I,rfl,?_⟩
  rw [show its.toArray.any (iF its ds d)=its.any (iF its ds d) by simp,any_map',ky I fh (by omega) dl r,← any_map']
  exact q
def GF (neg:Bool) (x y:D) (Q:D→Prop):Prop:=∃ds,Cm y=some ds∧cy ds≤60∧dep x≤60∧Q (.bl (if neg then !ds.any (fun e=>ba e x) else ds.any fun e=>ba e x))
theorem EJ (hu:X.A.units + 64 < cLine) (neg:Bool):p8 X (Hu X neg) (GF neg):=by
 intro B σ F H env Q d d' x y Z rp h1 h2 hz hf
 obtain⟨ds,e,l1,l2,q⟩:=hf
 cases d' with
 | lst xs =>
  simp only [Cm] at e;cases e
  simp only [Den] at h2
  obtain⟨p,vs,rfl,hq,dl⟩:=h2
  exact⟨F,d,_,vs,p,rp.fh,h1,rfl,.inl hq,dl,hu,l1,l2,hz _ H F _ rp (ar.refl _) dg q⟩
 | tup xs =>
  simp only [Cm] at e;cases e
  simp only [Den] at h2
  obtain⟨p,vs,rfl,hq,dl⟩:=h2
  exact⟨F,d,_,vs,p,rp.fh,h1,rfl,.inr hq,dl,hu,l1,l2,hz _ H F _ rp (ar.refl _) dg q⟩
 | _=>simp only [Cm] at e;cases e
theorem E5 (hu:X.A.units + 64 < cLine) (ha:QE X a ta) (hb:QE X b tb) (hm:behindInMarks .NotIn b=false:=by rfl):QT X (.Compare a [.NotIn] [b] pos) (aM (aC (GF true) ta tb)):=gE CK (EJ hu true) ha hb hm
def lI (neg:Bool) (x:D):D:=.bl (match x with | .non=>!neg | _=>neg)
theorem mQ {K:PySem.W.Frag} {F:Hp} {d:D} {v:V} (h:Den K F d v):decide (v=.non)=(match d with | .non=>true | _=>false):=by
 cases d <;> simp only [Den] at h <;> first | (subst h;rfl) | (obtain⟨_,_,rfl,_⟩:=h;rfl) | (obtain⟨_,rfl,_⟩:=h;rfl)
def dN (neg:Bool) (x y:D) (Q:D→Prop):Prop:=y=.non∧Q (lI neg x)
theorem FA:p8 X (fun x y H Q=>y=.non∧Q (.bl (decide (x=.non))) H) (dN false):=by
 intro B σ F H env Q d d' x y Z rp h1 h2 hz hf
 obtain⟨rfl,q⟩:=hf
 simp only [Den] at h2
 refine⟨h2,hz _ H F _ rp (ar.refl _) ?_ q⟩
 rw [mQ h1]
 unfold lI
 cases d <;> exact dg
theorem CB:p8 X (fun x y H Q=>y=.non∧Q (.bl (!decide (x=.non))) H) (dN true):=by
 intro B σ F H env Q d d' x y Z rp h1 h2 hz hf
 obtain⟨rfl,q⟩:=hf
 simp only [Den] at h2
 refine⟨h2,hz _ H F _ rp (ar.refl _) ?_ q⟩
 rw [mQ h1]
 unfold lI
 cases d <;> exact dg
theorem DX (ha:QE X a ta) (hb:QE X b tb):QT X (.Compare a [.Is] [b] pos) (aM (aC (dN false) ta tb)):=gE E1 FA ha hb (fv _)
theorem E3 (ha:QE X a ta) (hb:QE X b tb):QT X (.Compare a [.IsNot] [b] pos) (aM (aC (dN true) ta tb)):=gE CY CB ha hb (fv _)
end
end L2.L3
namespace L2
open PySem PySem.Spec PyProof.Rows
section
variable {X:Cx}
theorem Vals.insertAt {xs:List V} {us:List Value} {x:V} {u:Value} (h:Vals xs us) (r:RelV x u) (k:Nat):Vals (xs.take k ++ x :: xs.drop k) (us.take k ++ u :: us.drop k):=by
 induction h generalizing k with
 | nil=>simp;exact .cons r .nil
 | @cons y w ys ws q t ih =>
  cases k with
  | zero=>exact .cons r (.cons q t)
  | succ k=>exact .cons q (ih k)
def C8:V→List V→Hp→VK→Prop:=fun x vs H Q=>∃l xs i y,x=.ref l∧vs=[.int i,y]∧H l=some (.lst xs)∧0≤i∧i≤xs.length∧xs.length < sizeLine∧Q .non (upd H l (.lst (xs.take i.toNat ++ y :: xs.drop i.toNat)))
theorem yY:IQ X "list.insert" C8:=by
 intro pins s σ H x vs v us Q I rx rv h
 obtain⟨l,xs,i,y,rfl,rfl,hH,h0,h1,h2,q⟩:=h
 cases rx
 obtain⟨u,w,rfl,ru,rw'⟩:=rv.two
 obtain⟨t,rfl⟩:=ru
 obtain⟨z,its,n,r,hl,e⟩:=I.FW hH
 have hs:xs.length≤2 ^ 62:=by rw [sizeLine_eq] at h2;omega
 have hfit:¬ (!Builtin.List.listFitsIndex i)=true:=by
  rw [fitsIndex_both (by omega) (by omega)]
  exact Bool.false_ne_true
 refine call_meets F.slot_list_insert ⟨_,e,rfl⟩ F.entry_list_insert (F.args_list_insert_3 _ _ _) (AutoSeq1.list_insert_list_int_val_1 l its.toArray n i t w hfit (by rw [List.size_toArray];omega)) ⟨e,?_⟩
 refine⟨.non,_,I.Gk (its':=its.take i.toNat ++ w :: its.drop i.toNat) hH e ?_ (r.insertAt rw' i.toNat) ?_,rfl,q⟩
 ·apply Array.toList_inj.mp
  have c1:¬ i < 0:=by omega
  have c2:min i.toNat its.toArray.size=i.toNat:=by rw [List.size_toArray];omega
  simp only [c1,if_false,c2]
  simp
  exact List.take_of_length_le (by simp)
 ·simp;omega
end
end L2
namespace L2.L3
open PySem PySem.Spec PyProof.Rows
section
variable {X:Cx} {e f:Expr} {te tf:TD} {ts:eI} {pos:Pos}
def t9 (i:Nat) (te tf:TD):bC:=fun D env=>∃xs,env[i]?=some (some (.own xs))∧te env fun y=>tf env fun x=>∃k:Int,y=.int k∧0≤k∧k≤xs.length∧xs.length < sizeLine∧D.nx (env.set i (some (.own (xs.take k.toNat ++ x :: xs.drop k.toNat))))
theorem zo {x:Str} {px apos cpos:Pos} (i:Nat) (he:QE X e te) (hf:QE X f tf) (hN:X.N[i]?=some x:=by rfl) (hv:xS X.env.scope x:=by first | exact Or.inl rfl | exact Or.inr (Or.inl rfl) | exact Or.inr (Or.inr rfl)) (hd:(x == ("__debug__" : Str))=false:=by decide) (hcd:(x == ("__classdict__" : Str))=false:=by decide)
  (hbase:attributeBase (.Name x px) "insert" X.env (eval (.Name x px) X.env)=eval (.Name x px) X.env:=by rfl)
  (hfew:((backTo cpos (starEach [e,f] X.env)).all (fun x=>!x.1) && (backToKw cpos (keywordEach [] X.env)).all (fun x=>x.1.isSome)
   && decide (([e,f]:List Expr).length + ([]:List Keyword).length + (if ([]:List Keyword).isEmpty then 0 else 1) < 30))=true:=by rfl)
  (hline:(apos.endLine == cpos.line)=true:=by rfl) (hst:starEach [e,f] X.env=(false,eval e X.env) :: starEach [f] X.env:=by exact aR rfl) (hst2:starEach [f] X.env=(false,eval f X.env) :: starEach [] X.env:=by exact aR rfl) (hplain:(backTo cpos (starEach ([f]:List Expr) X.env)).any (·.1)=false:=by rfl)
  (hs:swapsWith (.Call (.Attribute (.Name x px) "insert" apos) [e,f] [] cpos) none pos.line X.env=pure false:=by rfl) :
  QS X (.Expr (.Call (.Attribute (.Name x px) "insert" apos) [e,f] [] cpos) pos) (t9 i te tf):=by
 refine⟨?_⟩
 intro B σ F H env D rp h
 refine dA (sA (uU PySem.F.plainAttrs_list PySem.F.slot_list_insert PySem.F.type_list_insert yY (eF hN hv hd hcd) (dQ bh (dQ bh gH hst2) hst) hbase hfew hline hst hplain) hs) ?_
 obtain⟨xs,hx,h⟩:=h
 obtain⟨p,vs,h1,h2,h3,h4,h5⟩:=rp.ov i xs hx
 refine⟨.ref p,h1,.inl ⟨rfl,vs,fz.of h2⟩,?_⟩
 refine aE (he B σ F H env _ rp h) fun y H1 ⟨F1,d,r1,s1,d1,q1⟩=>?_
 refine aE (hf B σ F1 H1 env _ r1 q1) fun z H2 ⟨F2,d',r2,s2,d2,k,e1,k0,k1,k2,q2⟩=>?_
 subst e1
 simp only [Den] at d1
 subst d1
 obtain⟨p',vs',g1,g2,g3,g4,g5⟩:=r2.ov i xs hx
 rw [h1] at g1;cases g1
 have hl:=g5.length
 exact⟨p,vs',k,z,rfl,rfl,g2,k0,by omega,by omega,F2,_,r2.change hx h1 ((g5.take _).append (aW d2 (g5.drop _))),q2⟩
def tX (i:Nat):TB:=fun env Q=>∃xs,env[i]?=some (some (.own xs))∧cy xs≤50∧Q (!xs.isEmpty)
theorem yo {x:Str} {px pl:Pos} (i:Nat) (hu:X.A.units + 64 < cLine) (hN:X.N[i]?=some x:=by rfl) (hv:xS X.env.scope x:=by first | exact Or.inl rfl | exact Or.inr (Or.inl rfl) | exact Or.inr (Or.inr rfl)) (hd:(x == ("__debug__" : Str))=false:=by decide)
  (hcd:(x == ("__classdict__" : Str))=false:=by decide):QT X (.Compare (.Name x px) [.NotEq] [.List [] pl] pos) (tX i):=by
 refine⟨fun B σ F H env Q rp h=>ud (tU wY (eF hN hv hd hcd) (wj gH) (fv _)) ?_⟩
 obtain⟨xs,hx,hdep,q⟩:=h
 obtain⟨p,vs,h1,h2,h3,h4,h5⟩:=rp.ov i xs hx
 refine⟨.ref p,h1,by simp [PySem.sizeLine_eq],fun w hw=>?_⟩
 have ne:p≠w:=fun z=>by subst z;rw [h2] at hw;cases hw
 have s1:ar F (upd F p (.lst vs)):=ck h3
 refine⟨upd (upd F p (.lst vs)) w (.lst []),.lst xs,.lst [],?_,?_,?_,by simp only [dep];omega,by simp only [dep];omega,by decide,!xs.isEmpty,?_,F,rp.loose hw,ar.refl _,q⟩
 ·refine lW fun b o hb=>?_
  by_cases z:b=p
  ·subst z;rw [aI] at hb;cases hb;exact h2
  ·rw [aB z] at hb;exact rp.fh _ _ hb
 ·have s2:ar (upd F p (.lst vs)) (upd (upd F p (.lst vs)) w (.lst [])):=ck (by rw [aB (Ne.symm ne)];exact rp.qB hw)
  exact h9 (fz.of (by rw [aB ne];exact aI)) (ao.mono (s1.trans s2) _ _ h5)
 ·exact h9 (fz.of aI) a7
 ·cases xs <;> rfl
def nB (j i:Nat) (te:TD):bC:=fun Z env=>∃xs,env[i]?=some (some (.own xs))∧te env fun y=>∃(k:Nat) (x:D),y=.int k∧xs[k]?=some x∧k < 2 ^ 62∧Z.nx ((env.set i (some (.own (xs.eraseIdx k)))).set j (some (.d x)))
theorem ao.eraseIdx {K:PySem.W.Frag} {F:Hp}:∀{ds:List D} {vs:List V} (k:Nat),ao K F ds vs→ao K F (ds.eraseIdx k) (vs.eraseIdx k)
 | [],vs,k,h=>by simp only [ao] at h;subst h;simpa using a7
 | d :: ds,vs,0,h=>by
  simp only [ao] at h
  obtain⟨v,r,rfl,a,b⟩:=h
  exact b
 | d :: ds,vs,k + 1,h=>by
  simp only [ao] at h
  obtain⟨v,r,rfl,a,b⟩:=h
  exact aW a (ao.eraseIdx k b)
theorem qH {x y:Str} {px py apos cpos:Pos} (j i:Nat) (nd:X.N.Nodup) (he:QE X e te) (hN:X.N[i]?=some x:=by rfl) (hv:xS X.env.scope x:=by first | exact Or.inl rfl | exact Or.inr (Or.inl rfl) | exact Or.inr (Or.inr rfl)) (hd:(x == ("__debug__" : Str))=false:=by decide) (hcd:(x == ("__classdict__" : Str))=false:=by decide)
  (hj:X.N[j]?=some y:=by rfl) (hy:Loc X.env.scope y:=by first | exact Or.inl rfl | exact Or.inr rfl)
  (hbase:attributeBase (.Name x px) "pop" X.env (eval (.Name x px) X.env)=eval (.Name x px) X.env:=by rfl)
  (hfew:((backTo cpos (starEach [e] X.env)).all (fun x=>!x.1) && (backToKw cpos (keywordEach [] X.env)).all (fun x=>x.1.isSome)
   && decide (([e]:List Expr).length + ([]:List Keyword).length + (if ([]:List Keyword).isEmpty then 0 else 1) < 30))=true:=by rfl)
  (hline:(apos.endLine == cpos.line)=true:=by rfl) (hst:starEach [e] X.env=(false,eval e X.env) :: starEach [] X.env:=by exact aR rfl) (hplain:(backTo cpos (starEach ([]:List Expr) X.env)).any (·.1)=false:=by rfl)
  (hs:swapsWith (.Call (.Attribute (.Name x px) "pop" apos) [e] [] cpos) (some (.Name y py)) pos.line X.env=pure false:=by rfl) (hf:X.fn y=true∨X.env.scope.names.lookup y=some .local:=by first | exact .inl rfl | exact .inr rfl) :
  QS X (.Assign [.Name y py] (.Call (.Attribute (.Name x px) "pop" apos) [e] [] cpos) pos) (nB j i te):=by
 refine⟨fun B σ F H env D rp h pins s I=>?_⟩
 refine tY (i:=j) nd hj hy (uU PySem.F.plainAttrs_list PySem.F.slot_list_pop PySem.F.type_list_pop vW (eF hN hv hd hcd) (dQ bh gH hst) hbase hfew hline hst hplain) hs hf pins s σ H _ I ?_
 obtain⟨xs,hx,h⟩:=h
 obtain⟨p,vs,h1,h2,h3,h4,h5⟩:=rp.ov i xs hx
 refine⟨.ref p,h1,.inl ⟨rfl,vs,fz.of h2⟩,?_⟩
 refine aE (he B σ F H env _ rp h) fun w H1 ⟨F1,d,r1,s1,d1,k,x',e1,hk,hk2,q1⟩=>?_
 subst e1
 simp only [Den] at d1
 subst d1
 obtain⟨p',vs',g1,g2,g3,g4,g5⟩:=r1.ov i xs hx
 rw [h1] at g1;cases g1
 obtain⟨u,hu,du⟩:=g5.get hk
 have hl:=g5.length
 have hkl:=(List.getElem?_eq_some_iff.mp hk).1
 have hix:seqIndex? (k:Int) vs'.length=some k:=(nN (n:=vs'.length) (i:=(k:Int)) (j:=k) (by unfold r9;rw [if_pos (by omega),if_pos (by omega)];simp)).1
 refine⟨p,vs',k,k,u,rfl,rfl,g2,by omega,by omega,hix,hu,F1,_,(r1.change hx h1 (g5.eraseIdx k)).set du ?_,q1⟩
 rw [I.len];exact (List.getElem?_eq_some_iff.mp hj).1
theorem zw {a:Expr} {ta:TA} {p:Pos} (hg:Gl X "range") (hm:X.mg "range" = none) (ha:PA X [a] ta) (hs:starEach [a] X.env=[(false,eval a X.env)]:=by rfl) :
  PE X (.Call (.Name "range" p) [a] [] pos) (fun σ H Q=>ta σ H fun vs H1=>∃n:Int,vs=[.int n]∧∀r,H1 r=none→Q (.ref r) (upd H1 r (.rng 0 n))):=by
 intro pins s σ H Q I h
 refine Call_ (jZ I hg hm boot_range (PyProof.Rows.callWith_type1 (bP (ha pos pins s σ H _ I h) fun us s1 ⟨vs,H1,I1,r1,q1⟩=>?_) hs rfl))
 obtain⟨n,rfl,q⟩:=q1
 obtain⟨u,rfl,ru⟩:=r1.one
 obtain⟨t,rfl⟩:=ru
 refine call_range_1 ⟨.ref s1.heap.objs.size,_,I1.laid (fun b o e=>Heap.get?_push_of_some _ e) (Nat.le_refl _) (show bF X.prog X.w _ _ _ (.rng 0 n) from ⟨_,_,_,Heap.get?_push_size _ rfl⟩),rfl,q _ (I1.hok.fresh (Nat.le_refl _))⟩
theorem ju {n:Nat} {acc:Array Value} (h:ItemsOf (fun i v=>∃t,v=.int ((0:Int) + i * 1) t) acc n):Vals ((List.range n).map fun (i:Nat)=>V.int (i:Int)) acc.toList:=by
 have hl:acc.toList.length=n:=by simpa using h.1
 have go:∀(l:List Value) (k:Nat),(∀(j:Nat) (v:Value),l[j]?=some v→∃t,v=.int ((k + j:Nat):Int) t)→Vals ((List.range' k l.length).map fun (i:Nat)=>V.int (i:Int)) l:=by
  intro l
  induction l with
  | nil=>intro k _;exact .nil
  | cons v r ih =>
   intro k hk
   obtain⟨t,e⟩:=hk 0 v rfl
   refine .cons ⟨t,by simpa using e⟩ (ih (k + 1) fun j w hw=>?_)
   obtain⟨t',e'⟩:=hk (j + 1) w (by simpa using hw)
   exact⟨t',by rw [e'];congr 1;omega⟩
 have:=go acc.toList 0 fun j v hv=>by
  obtain⟨t,e⟩:=h.2 j v (by simpa using hv)
  exact⟨t,by rw [e];congr 1;omega⟩
 rw [hl,← List.range_eq_range'] at this
 exact this
theorem wO (hc:X.calm=true):dq X (.type "list") (fun xs H Q=>∃r n,xs=[.ref r]∧H r=some (.rng 0 n)∧(-(2 ^ 62)≤n∧n≤16777216)∧∀l,H l=none→Q (.ref l) (upd H l (.lst ((List.range n.toNat).map fun (i:Nat)=>V.int (i:Int))))):=by
 intro pins s σ H xs us Q I r h
 obtain⟨a,n,rfl,hr,⟨n1,n2⟩,q⟩:=h
 obtain⟨u,rfl,rx⟩:=vals1 r
 cases rx
 obtain⟨t,u,v,e⟩:=(show bF X.prog X.w H s.heap a (.rng 0 n) from I.hok a _ hr)
 have hsz:Builtin.Range.rangeSize 0 n 1=(n.toNat:Int):=by rw [rangeSize_one];split <;> omega
 refine call_list_range (I.ok.hd hc) e (small_one (by decide) (by decide) n1 (by omega)) hsz (by omega) fun h' tk acc c kp e' it=>?_
 refine⟨.ref s.heap.objs.size,_,I.laid (t':=tk) kp (Nat.le_refl _) (show bF X.prog X.w _ h' _ (.lst ((List.range n.toNat).map fun (i:Nat)=>V.int (i:Int))) from ⟨by simp [PySem.sizeLine_eq];omega,acc.toList,c,ju it,by simpa using e'⟩),rfl,q _ (I.hok.fresh (Nat.le_refl _))⟩
def xE (ts:eI):eI:=fun env Q=>ts env fun ds=>∃n:Int,ds=[.int n]∧(-(2 ^ 62)≤n∧n≤16777216)∧Q (a9 0 n.toNat)
theorem xu {K:PySem.W.Frag} {F:Hp} (n:Nat):ao K F (a9 0 n) ((List.range n).map fun (i:Nat)=>V.int (i:Int)):=by
 have e:a9 0 n=((List.range n).map fun (i:Nat)=>(i:Int)).map D.int:=by unfold a9;rw [List.map_map];congr 1;funext i;simp
 have e2:((List.range n).map fun (i:Nat)=>V.int (i:Int))=((List.range n).map fun (i:Nat)=>(i:Int)).map V.int:=by rw [List.map_map];rfl
 rw [e,e2];exact qM _
theorem B8 {a:Expr} {p p2 pos2:Pos} (hm:X.mg "list" = none) (hm2:X.mg "range" = none) (ha:QA X [a] ts) (hc:X.calm=true:=by rfl) (hg:Gl X "list":=by rfl) (hg2:Gl X "range":=by rfl) (hs:starEach [a] X.env=[(false,eval a X.env)]:=by rfl)
  (he:starEach [.Call (.Name "range" p2) [a] [] pos2] X.env=(false,eval (.Call (.Name "range" p2) [a] [] pos2) X.env) :: starEach [] X.env:=by exact aR rfl) (hpl:(backTo pos (starEach ([]:List Expr) X.env)).any (·.1)=false:=by rfl) :
  QF X (.Call (.Name "list" p) [.Call (.Name "range" p2) [a] [] pos2] [] pos) (xE ts):=by
 refine⟨fun B σ F H env Q rp h=>bD (mj (wO hc) hg hm n8 (dQ (zw hg2 hm2 js hs) gH he) (by decide) (by decide) he hpl) ?_⟩
 refine cg (ha B σ F H env _ rp h) fun vs H1 ⟨F1,ds,r1,s1,d1,n,e1,hn,q1⟩=>?_
 subst e1
 simp only [ao,Den] at d1
 obtain⟨v,r,rfl,rfl,rfl⟩:=d1
 refine⟨n,rfl,fun r hr=>?_⟩
 obtain⟨r2,s2⟩:=r1.laid (o:=.rng 0 n) hr
 exact⟨r,n,rfl,aI,hn,fun w hw=>⟨_,_,w,_,_,rfl,hw,rfl,r2,s1.trans s2,xu _,q1⟩⟩
end
section
variable {X:Cx} {N':List Str} {ix:List Nat} {scope:Scope} {elt a:Expr} {ifs:List Expr} {x:Str} {px py pos spos p pos2:Pos} {tt:TB} {te:TD} {ts:eI}
theorem nr {y:Str} (i:Nat) (hNd:X.N.Nodup) (hc:X.calm=true) (O:cn X N' 1 ix scope) (hN:N'.Nodup) (h0:N'[0]?=some x) (hx:(relabel scope X.env).names.lookup x=some .local) (hgl:Gl X "range") (hm:X.mg "range" = none) (ha:QA X [a] ts)
  (ht:∀C s H fp pins,uX (bH X N' scope C s H fp pins) ifs tt) (he:∀C s H fp pins,QE (bH X N' scope C s H fp pins) elt te) (hy:X.N[i]?=some y:=by rfl) (hl:Loc X.env.scope y:=by first | exact Or.inl rfl | exact Or.inr rfl)
  (hsw:swapsWith (.ListComp elt [⟨.Name x px,.Call (.Name "range" p) [a] [] pos2,ifs,0⟩] scope pos) (some (.Name y py)) spos.line X.env=pure true:=by rfl) (hf:X.fn y=true∨X.env.scope.names.lookup y=some .local:=by first | exact .inl rfl | exact .inr rfl)
  (hst:starEach [a] X.env=[(false,eval a X.env)]:=by rfl) (hs:∀x,foldedSetIterable (.Call (.Name "range" p) [a] [] pos2) X.env x=pure x:=by intro _;rfl) :
  QS X (.Assign [.Name y py] (.ListComp elt [⟨.Name x px,.Call (.Name "range" p) [a] [] pos2,ifs,0⟩] scope pos) spos) (c7 i (ie jK ix ts tt te)):=by
 refine⟨fun B σ F H env D rp h pins s I=>?_⟩
 refine o4 hc (jz hgl hm js hst) O hNd hy hl hsw hf hs pins s σ H _ I ?_
 refine cg (ha B σ F H env _ rp h) fun vs H1 ⟨F1,ds,r1,s1,d1,q1⟩=>?_
 dsimp only at q1;unfold jK at q1
 split at q1
 ·simp only [ao,Den] at d1
  obtain⟨v,r,rfl,rfl,rfl⟩:=d1
  refine⟨_,rfl,q1.1.1,q1.1.2,?_⟩
  intro a' C s fp pins ha'
  obtain⟨W,w0,step⟩:=jv (X:=X) (px:=px) hN h0 hx ht he s1 r1 iQ q1.2 a' C s fp pins ha'
  refine⟨W,w0,fun i' m σ' H' w=>?_⟩
  rcases step i' m σ' H' w with ⟨st,z⟩ | z
  ·refine .inl ⟨st,?_⟩
   obtain⟨F',H2,p,vs,ds,e1,hp,e2,r',s',hd,q'⟩:=z
   cases e1
   subst e2
   refine⟨F',_,r'.By hp hd ?_,q'⟩
   rw [I.len];exact (List.getElem?_eq_some_iff.mp hy).1
  ·exact .inr z
 ·exact q1.elim
end
end L2.L3
namespace L2.L3
open PySem PySem.Spec PyProof.Rows
section
variable {X:Cx} {o e:Expr} {to te:TD} {apos cpos:Pos}
theorem rb {X:Cx} {pins:List (Addr×Obj)} {σ:St} {H F:Hp} {s:Shared} (I:Inv X pins σ H s) (fh:ar F H) {ds:List D} {vs:List V} {us:List Value} {d:D} {x:V} {v:Value} (A:Around) (hu:A.units + 62 < cLine) (hds:cy ds≤60) (hd:dep d≤60) (dl:ao X.K F ds vs) (rv:Vals vs us) (dx:Den X.K F d x) (rx:RelV x v) :
  ∀u∈us,SeqAt.EqAt A s u v (iF us ds d u):=by
 intro u hu'
 obtain⟨j,hj,e⟩:=List.getElem_of_mem hu'
 have h2:us[j]?=some u:=by rw [← e];simp [hj]
 have l1:=dl.length
 have l2:=rv.length
 have h1:ds[j]?=some (ds[j]'(by omega)):=List.getElem?_eq_getElem _
 rw [nM I fh (by omega) dl rv h1 h2]
 obtain⟨w,g1,g2⟩:=dl.get h1
 obtain⟨u',g3,g4⟩:=rv.get g1
 rw [h2] at g3;cases g3
 have dle:dep (ds[j]'(by omega))≤60:=by
  have go:∀(l:List D) (n:Nat),cy l≤n→∀y∈l,dep y≤n:=by
   intro l
   induction l with
   | nil=>intro n _ y hy;cases hy
   | cons z r ih =>
    intro n hn y hy
    simp only [cy] at hn
    rcases List.mem_cons.mp hy with rfl | hy
    ·omega
    ·exact ih n (by omega) y hy
  exact go ds 60 hds _ (List.getElem_mem _)
 exact oD I fh _ d A _ x u v (by omega) (by omega) (by omega) g2 dx g4 rx
theorem mS {α:Type} (f:α→Bool) (l:List α):l.countP f=(l.map f).countP id:=by rw [List.countP_map];rfl
end
end L2.L3
namespace L2.L3
open PySem PySem.Spec PyProof.Rows
section
variable {X:Cx} {a b e:Expr} {ta te:TD} {pos p2:Pos}
end
end L2.L3
local macro_rules | `(tactic| simp_arith only [$ls,*] $[$loc]?) => `(tactic| simp only [$ls,*, L2.L3.aF, L2.L3.fX, L2.L3.bo, L2.L3.bq, L2.L3.n6, L2.L3.aX, L2.L3.lO, L2.L3.lZ, L2.L3.jP, L2.L3.c7, L2.L3.ir, L2.L3.fG, L2.L3.xf, L2.L3.ag, L2.L3.cC, L2.L3.aC, L2.L3.qT, L2.L3.aM, L2.L3.xo, L2.L3.pA, L2.L3.AR, L2.L3.oF, L2.L3.A9, L2.L3.rg, L2.L3.Hy, L2.L3.az, L2.L3.af, L2.L3.av, L2.L3.bT, L2.L3.gA, L2.L3.uA, L2.L3.fu, L2.L3.vG, L2.L3.Hg, L2.L3.kS, L2.L3.gZ, L2.L3.de, L2.L3.aP, L2.L3.iG, L2.L3.pb, L2.L3.oa, L2.L3.qA, L2.L3.iH, L2.L3.fg, L2.L3.aJ, List.map_cons, List.map_nil, List.length_cons, List.length_nil, List.cons_append, List.nil_append, List.append_nil, List.getElem?_cons_zero, List.getElem?_cons_succ, List.getElem?_nil, List.set_cons_zero, List.set_cons_succ, Option.some.injEq, L2.L3.Lo.d.injEq, L2.L3.Lo.own.injEq, L2.L3.D.bl.injEq, L2.L3.D.int.injEq, exists_eq_left', exists_eq_left, Nat.reduceAdd, Nat.reduceSub, Nat.sub_self, Nat.add_one_sub_one, List.replicate_succ, List.replicate_zero, L2.L3.D.tup.injEq, List.cons.injEq, and_assoc, L2.L3.kN, L2.L3.ie, L2.L3.x4, L2.L3.nK, L2.L3.sL, L2.L3.sg, L2.L3.g8, L2.L3.wZ, L2.L3.t5, L2.L3.rS, L2.L3.rC, L2.L3.xF, L2.L3.wM, L2.L3.xD, L2.L3.xj, L2.L3.rX, L2.L3.sE, L2.L3.rN, L2.L3.wu, L2.L3.wq, L2.L3.nY, L2.L3.oU, L2.L3.oW, L2.L3.pj, L2.L3.Am, L2.L3.xm, L2.L3.xK, decide_eq_true_eq, true_and, and_true, if_true, if_false, Bool.false_eq_true, Bool.not_eq_true', decide_eq_false_iff_not, PySem.sizeLine_eq, Int.reduceToNat, Int.reducePow, Int.reduceMul, Int.reduceAdd, Int.reduceNeg, Int.reduceSub, Int.reduceLT, Int.reduceLE, Int.reduceEq, Nat.reduceEqDiff, decide_true, decide_false, Nat.reduceLeDiff, Nat.reduceLT, Bool.true_eq_false, Bool.not_true, Bool.not_false, Bool.not_not, L2.L3.mf, L2.L3.nZ, L2.L3.Iv, L2.L3.Cj, L2.L3.uB, L2.L3.CW, L2.L3.rB, L2.L3.nC, L2.L3.qo, L2.L3.qq, L2.L3.D.lst.injEq, L2.L3.jY, L2.L3.eO, L2.L3.t9, L2.L3.nB, L2.L3.tX, L2.L3.xE, L2.L3.uR, L2.L3.Cm] $[$loc]?)
namespace L2.L3
open PySem PySem.Spec PyProof.Rows
def XY (X:Cx) (B:Base) (xc:Str→Prop):Value→Shared→Prop:=fun e s'=>wpAny (model X.prog X.w) X.A (noteFrame e X.env) (fun _ s2=>wpAny (model X.prog X.w) X.A (setFlight e none) (fun _ s3=>XZ X B xc e s3) (fun _ _=>False) s2) (fun _ _=>False) s'
theorem XZ.JY {X:Cx} {B:Base} {xc:Str→Prop} {e:Value} {s':Shared} (hst:X.stack=X.env :: X.outer) (hf:X.env.frame=some X.env.locals) (h:XZ X B xc e s'):XY X B xc e s':=by
 obtain⟨pins,a,c,C,σ',H',F',env',rfl,th,r,hm,hx⟩:=h
 exact th.note hst hf fun s'' t''=>⟨pins,a,c,C,σ',H',F',env',rfl,t'',r,hm,hx⟩
structure QY (X:Cx) (st:Stmt) (t:sW):Prop where
 of ::
 run:∀(B:Base) (σ:St) (F H:Hp) (env:En) (D:v5),Rep X.K B F H σ env→t D env→wS (X.cv (XY X B D.xc)) st (RS X B D.toEnds3) σ H
structure GJ (X:Cx) (st:List Stmt) (t:sW):Prop where
 of ::
 run:∀(B:Base) (σ:St) (F H:Hp) (env:En) (D:v5),Rep X.K B F H σ env→t D env→wSs (X.cv (XY X B D.xc)) st (RS X B D.toEnds3) σ H
section
variable {X:Cx} {c e:Expr} {es:List Expr} {st:Stmt} {sts xs ys body:List Stmt} {p q:sW} {tc:TB} {pos:Pos}
theorem qp (h:QZ X st p) (hst:X.stack=X.env :: X.outer:=by rfl) (hf:X.env.frame=some X.env.locals:=by rfl):QY X st p:=⟨fun B σ F H env D rp hq pins s I =>
 wpAny_mono (h.run B σ F H env D rp hq pins s (I.bj.cv _)) (fun _ _ q=>SP.xR q) fun _ _ z=>XZ.JY hst hf z⟩
theorem yd (h:QY X st p):GJ X [st] p:=⟨fun B σ F H env D rp hq=>lV (si Ag) (h.run B σ F H env D rp hq)⟩
theorem jm (h1:QY X st p) (h2:GJ X sts q):GJ X (st :: sts) (uB p q):=by
 refine⟨fun B σ F H env D rp h=>lV (uH Ag d9) ?_⟩
 exact yL (h1.run B σ F H env { D with nx:=q D } rp h) (fun σ' H' ⟨F',env',rp',q⟩=>h2.run B σ' F' H' env' D rp' q) (fun _ _ q=>q) (fun _ _ q=>q) (fun _ _ q=>q)
def wJ (c:TB) (tb:sW):sW:=fun D env=>∃(I:En→Prop) (μ:En→Nat),I env∧∀env,I env→c env fun k=>if k=true then tb { D with nx:=fun e'=>I e'∧μ e' < μ env,ct:=fun e'=>I e'∧μ e' < μ env,bk:=D.nx } env else D.nx env
theorem Bm (hc:QT X.nF c tc) (hb:GJ X body p):QY X (.While c body [] pos) (wJ tc p):=by
 refine⟨fun B σ F H env D rp h=>?_⟩
 obtain⟨I,μ,i0,turn⟩:=h
 refine dA (vR (X:=X.cv (XY X B D.xc)) PassesOwn.looking qi d9) ?_
 refine⟨fun m σ H=>∃F env,Rep X.K B F H σ env∧I env∧μ env=m,⟨_,F,env,rp,i0,rfl⟩,?_⟩
 rintro m σ1 H1 ⟨F1,env1,r1,i1,rfl⟩
 refine gk (AX (hc B σ1 F1 H1 env1 _ r1 (turn env1 i1))) fun k H2 ⟨F2,r2,s2,q2⟩=>?_
 cases k with
 | false=>exact⟨F2,env1,r2,q2⟩
 | true =>
  refine⟨fun σ' H'=>∃F' env',Rep X.K B F' H' σ' env'∧I env'∧μ env' < μ env1,fun σ' H' ⟨F',env',r',i',l⟩=>⟨_,l,F',env',r',i',rfl⟩,?_⟩
  exact hb.run B σ1 F2 H2 env1 _ r2 q2
end
section
variable {P:Program} {w:World} {K:PySem.W.Frag} {mg:Str→Option Value} {base:Heap}
theorem XY.leave {N:List Str} {qual:Str} {scope:Scope} {f:Addr} {cd:Value} {A:Around} {outer:List Env} {s0:Shared} {H0:Hp} {E:XK} {B:Base} {xc:Str→Prop} {e:Value} {s':Shared}
  (t:XY (fY (Dm P w) P w K mg base N qual scope f cd A outer s0 H0 E) B xc e s') (q:∀(c:Str) (C:Value) (σ':St) (H' F':Hp) (env':En),Rep K B F' H' σ' env'→mg c=some C→xc c→E C none H') :
  (fY (Dm P w) P w K mg base N qual scope f cd A outer s0 H0 E).xe e s':=by
 show wpAny (model P w) _ (leaving _ e) _ _ s'
 unfold leaving
 refine wpAny_bind (wpAny_mono t (fun _ s2 z=>wpAny_mono z (fun _ s3 y=>?_) fun _ _ y=>y.elim) fun _ _ y=>y.elim)
 obtain⟨pins,a,c,C,σ',H',F',env',rfl,t'',r,hm,hx⟩:=y
 have I:=t''.inv
 obtain⟨Hc,sc,Ic,os,bare,un,hok,fl⟩:=t''
 refine⟨a,C,none,H',rfl,I.os,I.bare,I.base,I.hok,fl.Ek fun b o e=>?_,q c C σ' H' F' env' r hm hx⟩
 exact Ic.base.there b o e (by show b∉([]:List Addr);simp)
theorem mX.xJ {x qual:Str} {st:Stmt} {fa:Addr} {fd:FuncData} {N ps:List Str} {k:Nat} {f:zz} (F:mX K x qual st fa fd) (S:aG N ps (ak st)) (hmg:mg x=some (.ref fa)) (hb:Binds K fd ps [])
  (hl:∀ds Q R,f ds Q R→ds.length=ps.length)
  (hbody:∀(cdv:Value) (A:Around) (outer:List Env) (s:Shared) (H:Hp) (E:XK),cY k (A.deeper (envOfC qual (ak st) s.heap.objs.size fa cdv)) →
   ∃t,GJ (fY (Dm P w) P w K mg base N qual (ak st) fa cdv A outer s H E) (a8 st) t∧∀ds (Q:D→Prop) (R:Str→Prop),f ds Q R→t { nx:=fun _=>Q .non,rt:=Q,xc:=R } (aJ N ds)) :
  fP P w K mg base (k + 1) x f:=by
 refine⟨fa,fd,ps,?_,hmg,F.kp,hb⟩
 obtain⟨oc,od,kV,doc,pm,an,cdv,ct,osl,rfl,lk,hcd⟩:=F.ex
 refine yM lk hcd S (fun vs H Q E h=>?_) fun A outer s H vs Q E hr h=>?_
 ·obtain⟨F0,ds,P,R,_,hd,hf,_⟩:=h
  rw [← hd.length];exact hl ds _ _ hf
 ·obtain⟨F0,ds,P',R,fh,hd,hf,kk,kx⟩:=h
  obtain⟨t,ht,hq⟩:=hbody cdv A outer s H E hr
  refine⟨_,d9,?_⟩
  have core:=ht.run _ (start N vs) F0 H (aJ N ds) _ (fS fh hd) (hq ds P' R hf)
  intro pins s1 I
  refine wpAny_mono (core pins s1 (I.cv _)) (fun fl s2 z=>?_) fun ex s2 z=>?_
  ·refine nH (SP.bj z) (fun σ' H' ⟨F',env',r,q⟩=>?_) (fun v H' ⟨F',d',r,dd,q⟩=>?_) (fun _ _ ⟨_,_,_,q⟩=>q) (fun _ _ ⟨_,_,_,q⟩=>q)
   ·exact kk .non .non F' H' r.f0 r.h0 r.fh (fun p h1 h2=>r.nf p ⟨h1,h2⟩) jx q
   ·exact kk d' v F' H' r.f0 r.h0 r.fh (fun p h1 h2=>r.nf p ⟨h1,h2⟩) dd q
  ·exact XY.leave z fun c C σ' H' F' env' r hm hx=>kx c C F' H' r.f0 r.h0 r.fh (fun p h1 h2=>r.nf p ⟨h1,h2⟩) hm hx
end
end L2.L3
namespace L2.L3
open PySem PySem.Spec PyProof.Rows
end L2.L3
namespace L2.L3
open PySem PySem.Spec PyProof.Rows
end L2.L3
namespace L2.L3
open PySem PySem.Spec PyProof.Rows
section
variable {P:Program} {w:World} {K:PySem.W.Frag} {mg:Str→Option Value} {base:Heap}
end
end L2.L3
namespace L2.L3
open PySem PySem.Spec PyProof.Rows
section
variable {X:Cx} {a b c e:Expr} {ta tb te:TD} {pos:Pos} {st:Stmt} {t:bC}
def uV (i:Nat) (te:TD):bC:=fun Z env=>∃xs,env[i]?=some (some (.own xs))∧te env fun y=>∃(k:Nat),y=.int k∧k < xs.length∧k < 2 ^ 62∧Z.nx (env.set i (some (.own (xs.eraseIdx k))))
theorem Dy {x:Str} {px apos cpos:Pos} (i:Nat) (he:QE X e te) (hN:X.N[i]?=some x:=by rfl) (hv:xS X.env.scope x:=by first | exact Or.inl rfl | exact Or.inr (Or.inl rfl) | exact Or.inr (Or.inr rfl)) (hd:(x == ("__debug__" : Str))=false:=by decide) (hcd:(x == ("__classdict__" : Str))=false:=by decide)
  (hbase:attributeBase (.Name x px) "pop" X.env (eval (.Name x px) X.env)=eval (.Name x px) X.env:=by rfl)
  (hfew:((backTo cpos (starEach [e] X.env)).all (fun x=>!x.1) && (backToKw cpos (keywordEach [] X.env)).all (fun x=>x.1.isSome)
   && decide (([e]:List Expr).length + ([]:List Keyword).length + (if ([]:List Keyword).isEmpty then 0 else 1) < 30))=true:=by rfl)
  (hline:(apos.endLine == cpos.line)=true:=by rfl) (hst:starEach [e] X.env=(false,eval e X.env) :: starEach [] X.env:=by exact aR rfl) (hplain:(backTo cpos (starEach ([]:List Expr) X.env)).any (·.1)=false:=by rfl)
  (hs:swapsWith (.Call (.Attribute (.Name x px) "pop" apos) [e] [] cpos) none pos.line X.env=pure false:=by rfl) :
  QS X (.Expr (.Call (.Attribute (.Name x px) "pop" apos) [e] [] cpos) pos) (uV i te):=by
 refine⟨fun B σ F H env D rp h=>dA (sA (uU PySem.F.plainAttrs_list PySem.F.slot_list_pop PySem.F.type_list_pop vW (eF hN hv hd hcd) (dQ bh gH hst) hbase hfew hline hst hplain) hs) ?_⟩
 obtain⟨xs,hx,h⟩:=h
 obtain⟨p,vs,h1,h2,h3,h4,h5⟩:=rp.ov i xs hx
 refine⟨.ref p,h1,.inl ⟨rfl,vs,fz.of h2⟩,?_⟩
 refine aE (he B σ F H env _ rp h) fun w H1 ⟨F1,d,r1,s1,d1,k,e1,hk,hk2,q1⟩=>?_
 subst e1
 simp only [Den] at d1
 subst d1
 obtain⟨p',vs',g1,g2,g3,g4,g5⟩:=r1.ov i xs hx
 rw [h1] at g1;cases g1
 have hl:=g5.length
 obtain⟨u,hu,du⟩:=g5.get (List.getElem?_eq_getElem hk)
 have hix:seqIndex? (k:Int) vs'.length=some k:=(nN (n:=vs'.length) (i:=(k:Int)) (j:=k) (by unfold r9;rw [if_pos (by omega),if_pos (by omega)];simp)).1
 exact⟨p,vs',k,k,u,rfl,rfl,g2,by omega,by omega,hix,hu,F1,_,r1.change hx h1 (g5.eraseIdx k),q1⟩
end
end L2.L3
namespace L2.L3
open PySem PySem.Spec PyProof.Rows
section
variable {prog:Program} {w:World} {A:Around} {E:Value→Shared→Prop} {s:Shared}
def jI (prog:Program) (w:World) (A:Around) (s:Shared) (v:Value):Prop:=∀(E:Value→Shared→Prop) (Q:Bool→Shared→Prop),Q true s→wpAny (model prog w) A (eqIsQuiet 8 v) Q E s
def gC (prog:Program) (w:World) (A:Around) (s:Shared) (v:Value) (h:Int) (n:Nat):Prop:=∀(E:Value→Shared→Prop) (Q:Int→Shared→Prop),Q h { s with toks:=s.toks + n }→wpAny (model prog w) A (PySem.pyHash v) Q E s
theorem jq {key:Value} {stored:List Value} {Q:Bool→Shared→Prop} (hkey:jI prog w A s key)
  (hst:∀v∈stored,jI prog w A s v) (h:Q false s):wpAny (model prog w) A (tableMayTell key stored) Q E s:=by
 unfold tableMayTell
 split
 ·exact wpAny_pure h
 ·refine wpAny_bind (hkey _ _ ?_)
  simp only [Bool.not_true,Bool.false_eq_true,if_false]
  refine wpAny_bind ?_
  refine wpAny_forIn_list _ (fun rest r s'=>s'=s∧r=(none,())∧∀v∈rest,jI prog w A s v) _ ?_ ?_ _ _ ⟨rfl,rfl,hst⟩
  ·rintro x rest r s' ⟨rfl,rfl,hr⟩
   refine wpAny_bind (hr x List.mem_cons_self _ _ ?_)
   simp only [Bool.not_true,Bool.false_eq_true,if_false]
   exact wpAny_pure ⟨rfl,rfl,fun v hv=>hr v (List.mem_cons_of_mem _ hv)⟩
  ·rintro r s' ⟨rfl,rfl,_⟩
   exact wpAny_pure h
structure j8 (prog:Program) (w:World) (A:Around) (s:Shared) (es:Array DictEntry) (key:Value) (h:Int) (m:Nat→Bool):Prop where
 eq:∀(j:Nat) (hj:j < es.size),SeqAt.EqAt A s es[j].key key (m j)
 mh:∀(j:Nat) (hj:j < es.size),m j=true→es[j].hash=h
 mu:∀(i j:Nat),i < es.size→j < es.size→m i=true→m j=true→i=j
 same:∀(j:Nat) (hj:j < es.size),es[j].key=key→es[j].hash=h
 qk:jI prog w A s key
 qs:∀(j:Nat) (hj:j < es.size),jI prog w A s es[j].key
 ns:(∃i t,key=.int i t)∨(∃a,key=.ref a)∨key=.none
theorem qW {d:Addr} {o:Obj} {es:Array DictEntry} {ep} {key:Value} {h:Int} {m:Nat→Bool} {Q:Option Nat→Shared→Prop} (f:j8 prog w A s es key h m)
  (ho:s.heap.get? d=some o) (hd:o.data=.dict es ep)
  (hnone:(∀j,j < es.size→m j=false)→Q none s) (hsome:∀j,j < es.size→m j=true→Q (some j) s) :
  wpAny (model prog w) A (dictFind d key h) Q E s:=by
 have hask:∀(j:Nat),j < es.size→m j=true→((es[j]?.map (·.hash)) == some h)=true:=by
  intro j hj hm
  rw [Array.getElem?_eq_getElem hj,Option.map_some,f.mh j hj hm]
  simp
 have hst:∀v∈(placesWithHash es.size (fun i=>es[i]?.map (·.hash)) h).filterMap (fun i=>es[i]?.map (·.key)),jI prog w A s v:=by
  intro v hv
  obtain⟨i,_,hi⟩:=List.mem_filterMap.mp hv
  cases hei:es[i]? with
  | none=>rw [hei] at hi;cases hi
  | some e =>
   rw [hei] at hi
   obtain rfl:e.key=v:=by simpa using hi
   obtain⟨hl,rfl⟩:=Array.getElem?_eq_some_iff.mp hei
   exact f.qs i hl
 have hany:¬ (es.any fun e=>e.key == key && e.hash != h)=true:=by
  rw [← Array.any_toList,List.any_eq_true]
  rintro⟨e,hin,hc⟩
  obtain⟨i,hi,rfl⟩:=Array.mem_iff_getElem.mp (Array.mem_toList_iff.mp hin)
  simp only [Bool.and_eq_true,beq_iff_eq,bne_iff_ne,ne_eq] at hc
  exact hc.2 (f.same i hi hc.1)
 have plain:wpAny (model prog w) A (dictWalkPlain d key h es (placesWithHash es.size (fun i=>es[i]?.map (·.hash)) h)) Q E s:=by
  refine wpAny_bind ?_
  refine wpAny_forIn_list _
   (fun rest b s'=>s'=s∧b=(none,())∧∃i,rest=(List.range' i (es.size - i)).filter (fun i=>(es[i]?.map (·.hash)) == some h)∧i≤es.size ∧
    ∀j,j < i→m j=false) _ ?_ ?_ _ _
   ⟨rfl,rfl,0,by rw [placesWithHash,List.range_eq_range',Nat.sub_zero],Nat.zero_le _,fun _ h=>absurd h (Nat.not_lt_zero _)⟩
  ·rintro x rest b s' ⟨rfl,rfl,i,hr,hi,hno⟩
   obtain⟨hix,hxn,hpx,hskip,hrest⟩:=filter_range'_cons _ _ _ _ _ hr.symm
   have hlt:x < es.size:=by omega
   have before:∀j,j < x→m j=false:=fun j hjx=>by
    rcases Nat.lt_or_ge j i with c | c
    ·exact hno j c
    ·cases hmj:m j with
     | false=>rfl
     | true=>have q:=hskip j c hjx;rw [hask j (by omega) hmj] at q;cases q
   have hnext:m x=false→∃i,rest=(List.range' i (es.size - i)).filter (fun i=>(es[i]?.map (·.hash)) == some h)∧i≤es.size∧∀j,j < i→m j=false:=fun hne =>
    ⟨x + 1,by rw [hrest];congr 2;omega,hlt,fun j hji=>by
     rcases Nat.lt_or_ge j x with c | c
     ·exact before j c
     ·have:j=x:=by omega
      subst this;exact hne⟩
   simp only [Array.getElem?_eq_getElem hlt]
   by_cases hh:(es[x].hash == h)=true
   ·rw [if_pos hh]
    refine wpAny_bind (wpAny_dictEpoch ho hd (wpAny_bind (f.eq x hlt prog w _ _ (wpAny_bind (wpAny_dictEpoch ho hd ?_)))))
    show wpAny _ _ (if (ep != ep)=true then _ else _) _ E _
    rw [if_neg (by simp)]
    cases hm:m x with
    | true=>exact wpAny_bind (wpAny_rule (wpAny_pure (wpAny_pure (hsome x hlt hm))))
    | false=>exact wpAny_bind (wpAny_rule (wpAny_pure ⟨rfl,rfl,hnext hm⟩))
   ·rw [if_neg hh]
    refine wpAny_pure ⟨rfl,rfl,hnext ?_⟩
    cases hm:m x with
    | false=>rfl
    | true=>exact absurd (beq_iff_eq.mpr (f.mh x hlt hm)) hh
  ·rintro b s' ⟨rfl,rfl,i,hr,hi,hno⟩
   refine wpAny_pure (hnone fun j hj=>?_)
   rcases Nat.lt_or_ge j i with c | c
   ·exact hno j c
   ·have:=List.filter_eq_nil_iff.mp hr.symm j (List.mem_range'_1.mpr ⟨c,by omega⟩)
    cases hmj:m j with
    | false=>rfl
    | true=>rw [hask j hj hmj] at this;exact absurd rfl this
 have ns:=f.ns
 unfold dictFind
 try with_reducible refine wpAny_holding ?_
 refine wpAny_bind (wpAny_dictEntries ho hd ?_)
 rcases ns with ⟨ki,kt,rfl⟩ | ⟨ka,rfl⟩ | rfl
 all_goals dsimp only
 all_goals
  refine wpAny_ite_split (fun _=>plain) (fun _=>?_)
 rotate_left
 ·rw [if_neg hany]
  by_cases hone:(((placesWithHash es.size (fun i=>es[i]?.map (·.hash)) h).filterMap (fun i=>es[i]?.map (·.key))) == [Value.ref ka])=true <;>
  (first | rw [if_pos hone] | rw [if_neg hone]) <;> (first | refine wpAny_bind (wpAny_pure ?_) | refine wpAny_bind (jq f.qk hst ?_)) <;> (
   rw [if_neg (by simp)]
   refine wpAny_bind ?_
   refine wpAny_forIn_list _
    (fun rest b s'=>s'=s∧∃i hit,b=(none,hit)∧rest=(List.range' i (es.size - i)).filter (fun i=>(es[i]?.map (·.hash)) == some h)∧i≤es.size ∧
     ((hit=none∧∀j,j < i→m j=false)∨∃j,hit=some j∧j < i∧m j=true)) _ ?_ ?_ _ _
    ⟨rfl,0,none,rfl,by rw [placesWithHash,List.range_eq_range',Nat.sub_zero],Nat.zero_le _,.inl ⟨rfl,fun _ h=>absurd h (Nat.not_lt_zero _)⟩⟩
   ·rintro x rest b s' ⟨rfl,i,hit,rfl,hr,hi,hH⟩
    obtain⟨hix,hxn,hpx,hskip,hrest⟩:=filter_range'_cons _ _ _ _ _ hr.symm
    have hlt:x < es.size:=by omega
    have hrest':rest=(List.range' (x + 1) (es.size - (x + 1))).filter (fun i=>(es[i]?.map (·.hash)) == some h):=by rw [hrest];congr 2;omega
    have hHx:(hit=none∧∀j,j < x→m j=false)∨∃j,hit=some j∧j < x∧m j=true:=by
     rcases hH with ⟨h0,hno⟩ | ⟨j,h1,hji,hj⟩
     ·refine .inl ⟨h0,fun j hjx=>?_⟩
      rcases Nat.lt_or_ge j i with c | c
      ·exact hno j c
      ·cases hmj:m j with
       | false=>rfl
       | true=>have q:=hskip j c hjx;rw [hask j (by omega) hmj] at q;cases q
     ·exact .inr ⟨j,h1,by omega,hj⟩
    have hstay:m x=false→((hit=none∧∀j,j < x + 1→m j=false)∨∃j,hit=some j∧j < x + 1∧m j=true):=by
     intro hne
     rcases hHx with ⟨h0,hno⟩ | ⟨j,h1,hjx,hj⟩
     ·refine .inl ⟨h0,fun j hjx=>?_⟩
      rcases Nat.lt_or_ge j x with c | c
      ·exact hno j c
      ·have:j=x:=by omega
       subst this;exact hne
     ·exact .inr ⟨j,h1,by omega,hj⟩
    rw [Array.getElem?_eq_getElem hlt]
    dsimp only
    by_cases hh:(es[x].hash == h)=true
    ·rw [if_pos hh]
     refine wpAny_bind (wpAny_dictEpoch ho hd (wpAny_bind (f.eq x hlt prog w _ _ (wpAny_bind (wpAny_dictEpoch ho hd ?_)))))
     show wpAny _ _ (if (ep != ep)=true then _ else _) _ E _
     rw [if_neg (by simp)]
     cases hm:m x with
     | true =>
      rcases hHx with ⟨rfl,_⟩ | ⟨j,_,hjx,hj⟩
      ·first | rw [if_pos rfl] | skip
       simp only [Option.isSome_none,Bool.false_eq_true,if_false]
       first | refine wpAny_bind (wpAny_pure ?_) | skip
       refine wpAny_bind (wpAny_rule ?_)
       split
       ·exact wpAny_pure (wpAny_pure (hsome x hlt hm))
       ·exact wpAny_pure ⟨rfl,x + 1,some x,rfl,hrest',hlt,.inr ⟨x,rfl,Nat.lt_succ_self x,hm⟩⟩
      ·exact absurd (f.mu j x (by omega) hlt hj hm) (by omega)
     | false =>
      simp only [Bool.false_eq_true,if_false]
      refine wpAny_bind (wpAny_rule ?_)
      first | rw [if_neg (by simp)] | skip
      first
       | exact wpAny_pure ⟨rfl,x + 1,hit,rfl,hrest',hlt,hstay hm⟩
       | exact wpAny_bind (wpAny_pure (wpAny_pure ⟨rfl,x + 1,hit,rfl,hrest',hlt,hstay hm⟩))
    ·rw [if_neg hh]
     refine wpAny_pure ⟨rfl,x + 1,hit,rfl,hrest',hlt,hstay ?_⟩
     cases hm:m x with
     | false=>rfl
     | true=>exact absurd (beq_iff_eq.mpr (f.mh x hlt hm)) hh
   ·rintro b s' ⟨rfl,i,hit,rfl,hr,hi,hH⟩
    rcases hH with ⟨rfl,hno⟩ | ⟨j,rfl,hji,hj⟩
    ·refine wpAny_pure (hnone fun j hj=>?_)
     rcases Nat.lt_or_ge j i with c | c
     ·exact hno j c
     ·have:=List.filter_eq_nil_iff.mp hr.symm j (List.mem_range'_1.mpr ⟨c,by omega⟩)
      cases hmj:m j with
      | false=>rfl
      | true=>rw [hask j hj hmj] at this;exact absurd rfl this
    ·exact wpAny_pure (hsome j (by omega) hj))
 ·by_cases hone:(((placesWithHash es.size (fun i=>es[i]?.map (·.hash)) h).filterMap (fun i=>es[i]?.map (·.key))) == [Value.none])=true <;>
  (first | rw [if_pos hone] | rw [if_neg hone]) <;> (first | refine wpAny_bind (wpAny_pure ?_) | refine wpAny_bind (jq f.qk hst ?_)) <;> (
   rw [if_neg (by simp)]
   refine wpAny_bind ?_
   refine wpAny_forIn_list _
    (fun rest b s'=>s'=s∧∃i hit,b=(none,hit)∧rest=(List.range' i (es.size - i)).filter (fun i=>(es[i]?.map (·.hash)) == some h)∧i≤es.size ∧
     ((hit=none∧∀j,j < i→m j=false)∨∃j,hit=some j∧j < i∧m j=true)) _ ?_ ?_ _ _
    ⟨rfl,0,none,rfl,by rw [placesWithHash,List.range_eq_range',Nat.sub_zero],Nat.zero_le _,.inl ⟨rfl,fun _ h=>absurd h (Nat.not_lt_zero _)⟩⟩
   ·rintro x rest b s' ⟨rfl,i,hit,rfl,hr,hi,hH⟩
    obtain⟨hix,hxn,hpx,hskip,hrest⟩:=filter_range'_cons _ _ _ _ _ hr.symm
    have hlt:x < es.size:=by omega
    have hrest':rest=(List.range' (x + 1) (es.size - (x + 1))).filter (fun i=>(es[i]?.map (·.hash)) == some h):=by rw [hrest];congr 2;omega
    have hHx:(hit=none∧∀j,j < x→m j=false)∨∃j,hit=some j∧j < x∧m j=true:=by
     rcases hH with ⟨h0,hno⟩ | ⟨j,h1,hji,hj⟩
     ·refine .inl ⟨h0,fun j hjx=>?_⟩
      rcases Nat.lt_or_ge j i with c | c
      ·exact hno j c
      ·cases hmj:m j with
       | false=>rfl
       | true=>have q:=hskip j c hjx;rw [hask j (by omega) hmj] at q;cases q
     ·exact .inr ⟨j,h1,by omega,hj⟩
    have hstay:m x=false→((hit=none∧∀j,j < x + 1→m j=false)∨∃j,hit=some j∧j < x + 1∧m j=true):=by
     intro hne
     rcases hHx with ⟨h0,hno⟩ | ⟨j,h1,hjx,hj⟩
     ·refine .inl ⟨h0,fun j hjx=>?_⟩
      rcases Nat.lt_or_ge j x with c | c
      ·exact hno j c
      ·have:j=x:=by omega
       subst this;exact hne
     ·exact .inr ⟨j,h1,by omega,hj⟩
    rw [Array.getElem?_eq_getElem hlt]
    dsimp only
    by_cases hh:(es[x].hash == h)=true
    ·rw [if_pos hh]
     refine wpAny_bind (wpAny_dictEpoch ho hd (wpAny_bind (f.eq x hlt prog w _ _ (wpAny_bind (wpAny_dictEpoch ho hd ?_)))))
     show wpAny _ _ (if (ep != ep)=true then _ else _) _ E _
     rw [if_neg (by simp)]
     cases hm:m x with
     | true =>
      rcases hHx with ⟨rfl,_⟩ | ⟨j,_,hjx,hj⟩
      ·first | rw [if_pos rfl] | skip
       simp only [Option.isSome_none,Bool.false_eq_true,if_false]
       first | refine wpAny_bind (wpAny_pure ?_) | skip
       refine wpAny_bind (wpAny_rule ?_)
       split
       ·exact wpAny_pure (wpAny_pure (hsome x hlt hm))
       ·exact wpAny_pure ⟨rfl,x + 1,some x,rfl,hrest',hlt,.inr ⟨x,rfl,Nat.lt_succ_self x,hm⟩⟩
      ·exact absurd (f.mu j x (by omega) hlt hj hm) (by omega)
     | false =>
      simp only [Bool.false_eq_true,if_false]
      refine wpAny_bind (wpAny_rule ?_)
      first | rw [if_neg (by simp)] | skip
      first
       | exact wpAny_pure ⟨rfl,x + 1,hit,rfl,hrest',hlt,hstay hm⟩
       | exact wpAny_bind (wpAny_pure (wpAny_pure ⟨rfl,x + 1,hit,rfl,hrest',hlt,hstay hm⟩))
    ·rw [if_neg hh]
     refine wpAny_pure ⟨rfl,x + 1,hit,rfl,hrest',hlt,hstay ?_⟩
     cases hm:m x with
     | false=>rfl
     | true=>exact absurd (beq_iff_eq.mpr (f.mh x hlt hm)) hh
   ·rintro b s' ⟨rfl,i,hit,rfl,hr,hi,hH⟩
    rcases hH with ⟨rfl,hno⟩ | ⟨j,rfl,hji,hj⟩
    ·refine wpAny_pure (hnone fun j hj=>?_)
     rcases Nat.lt_or_ge j i with c | c
     ·exact hno j c
     ·have:=List.filter_eq_nil_iff.mp hr.symm j (List.mem_range'_1.mpr ⟨c,by omega⟩)
      cases hmj:m j with
      | false=>rfl
      | true=>rw [hask j hj hmj] at this;exact absurd rfl this
    ·exact wpAny_pure (hsome j (by omega) hj))
 ·by_cases hone:(((placesWithHash es.size (fun i=>es[i]?.map (·.hash)) h).filterMap (fun i=>es[i]?.map (·.key))) == [Value.int ki kt])=true <;>
  (first | rw [if_pos hone] | rw [if_neg hone]) <;> (first | refine wpAny_bind (wpAny_pure ?_) | refine wpAny_bind (jq f.qk hst ?_)) <;> (
   rw [if_neg (by simp)]
   refine wpAny_bind ?_
   refine wpAny_forIn_list _
    (fun rest b s'=>s'=s∧∃i hit,b=(none,hit)∧rest=(List.range' i (es.size - i)).filter (fun i=>(es[i]?.map (·.hash)) == some h)∧i≤es.size ∧
     ((hit=none∧∀j,j < i→m j=false)∨∃j,hit=some j∧j < i∧m j=true)) _ ?_ ?_ _ _
    ⟨rfl,0,none,rfl,by rw [placesWithHash,List.range_eq_range',Nat.sub_zero],Nat.zero_le _,.inl ⟨rfl,fun _ h=>absurd h (Nat.not_lt_zero _)⟩⟩
   ·rintro x rest b s' ⟨rfl,i,hit,rfl,hr,hi,hH⟩
    obtain⟨hix,hxn,hpx,hskip,hrest⟩:=filter_range'_cons _ _ _ _ _ hr.symm
    have hlt:x < es.size:=by omega
    have hrest':rest=(List.range' (x + 1) (es.size - (x + 1))).filter (fun i=>(es[i]?.map (·.hash)) == some h):=by rw [hrest];congr 2;omega
    have hHx:(hit=none∧∀j,j < x→m j=false)∨∃j,hit=some j∧j < x∧m j=true:=by
     rcases hH with ⟨h0,hno⟩ | ⟨j,h1,hji,hj⟩
     ·refine .inl ⟨h0,fun j hjx=>?_⟩
      rcases Nat.lt_or_ge j i with c | c
      ·exact hno j c
      ·cases hmj:m j with
       | false=>rfl
       | true=>have q:=hskip j c hjx;rw [hask j (by omega) hmj] at q;cases q
     ·exact .inr ⟨j,h1,by omega,hj⟩
    have hstay:m x=false→((hit=none∧∀j,j < x + 1→m j=false)∨∃j,hit=some j∧j < x + 1∧m j=true):=by
     intro hne
     rcases hHx with ⟨h0,hno⟩ | ⟨j,h1,hjx,hj⟩
     ·refine .inl ⟨h0,fun j hjx=>?_⟩
      rcases Nat.lt_or_ge j x with c | c
      ·exact hno j c
      ·have:j=x:=by omega
       subst this;exact hne
     ·exact .inr ⟨j,h1,by omega,hj⟩
    rw [Array.getElem?_eq_getElem hlt]
    dsimp only
    by_cases hh:(es[x].hash == h)=true
    ·rw [if_pos hh]
     refine wpAny_bind (wpAny_dictEpoch ho hd (wpAny_bind (f.eq x hlt prog w _ _ (wpAny_bind (wpAny_dictEpoch ho hd ?_)))))
     show wpAny _ _ (if (ep != ep)=true then _ else _) _ E _
     rw [if_neg (by simp)]
     cases hm:m x with
     | true =>
      rcases hHx with ⟨rfl,_⟩ | ⟨j,_,hjx,hj⟩
      ·first | rw [if_pos rfl] | skip
       simp only [Option.isSome_none,Bool.false_eq_true,if_false]
       first | refine wpAny_bind (wpAny_pure ?_) | skip
       refine wpAny_bind (wpAny_rule ?_)
       split
       ·exact wpAny_pure (wpAny_pure (hsome x hlt hm))
       ·exact wpAny_pure ⟨rfl,x + 1,some x,rfl,hrest',hlt,.inr ⟨x,rfl,Nat.lt_succ_self x,hm⟩⟩
      ·exact absurd (f.mu j x (by omega) hlt hj hm) (by omega)
     | false =>
      simp only [Bool.false_eq_true,if_false]
      refine wpAny_bind (wpAny_rule ?_)
      first | rw [if_neg (by simp)] | skip
      first
       | exact wpAny_pure ⟨rfl,x + 1,hit,rfl,hrest',hlt,hstay hm⟩
       | exact wpAny_bind (wpAny_pure (wpAny_pure ⟨rfl,x + 1,hit,rfl,hrest',hlt,hstay hm⟩))
    ·rw [if_neg hh]
     refine wpAny_pure ⟨rfl,x + 1,hit,rfl,hrest',hlt,hstay ?_⟩
     cases hm:m x with
     | false=>rfl
     | true=>exact absurd (beq_iff_eq.mpr (f.mh x hlt hm)) hh
   ·rintro b s' ⟨rfl,i,hit,rfl,hr,hi,hH⟩
    rcases hH with ⟨rfl,hno⟩ | ⟨j,rfl,hji,hj⟩
    ·refine wpAny_pure (hnone fun j hj=>?_)
     rcases Nat.lt_or_ge j i with c | c
     ·exact hno j c
     ·have:=List.filter_eq_nil_iff.mp hr.symm j (List.mem_range'_1.mpr ⟨c,by omega⟩)
      cases hmj:m j with
      | false=>rfl
      | true=>rw [hask j hj hmj] at this;exact absurd rfl this
    ·exact wpAny_pure (hsome j (by omega) hj))
theorem bA.typeIs {d:Addr} {es:Array DictEntry} {ep:Nat} (x:bA s.heap d es ep):s.TypeIs (.ref d) "dict":=let ⟨o,ho,hc,_⟩:=x;⟨o,ho,hc.1⟩
theorem bA.new (h:Heap):bA (h.push { cls:=.type "dict",data:=.dict #[] }) h.objs.size #[] 0:=⟨_,Heap.get?_push_size _ rfl,⟨rfl,rfl,rfl⟩,rfl⟩
theorem um {d:Addr} {es:Array DictEntry} {ep:Nat} {key:Value} {h:Int} {n:Nat} {m:Nat→Bool} {Q:Option Value→Shared→Prop} (hh:gC prog w A s key h n) (f:j8 prog w A { s with toks:=s.toks + n } es key h m) (x:bA s.heap d es ep)
  (hnone:(∀j,j < es.size→m j=false)→Q none { s with toks:=s.toks + n }) (hsome:∀j (hj:j < es.size),m j=true→Q (some es[j].val) { s with toks:=s.toks + n }) :
  wpAny (model prog w) A (dictGet d key) Q E s:=by
 obtain⟨o,ho,_,hd⟩:=x
 unfold dictGet
 try with_reducible refine wpAny_holding ?_
 refine wpAny_bind (hh _ _ (wpAny_bind (qW (s:={ s with toks:=s.toks + n }) f ho hd ?_ ?_)))
 ·intro hno
  exact wpAny_pure (hnone hno)
 ·intro j hj hm
  refine wpAny_bind (wpAny_dictEntries (s:={ s with toks:=s.toks + n }) ho hd ?_)
  rw [Array.getElem?_eq_getElem hj]
  exact wpAny_pure (hsome j hj hm)
theorem Af {d:Addr} {es:Array DictEntry} {ep:Nat} {key v:Value} {h:Int} {n:Nat} {m:Nat→Bool} {Q:Unit→Shared→Prop} (hh:gC prog w A s key h n) (f:j8 prog w A { s with toks:=s.toks + n } es key h m) (x:bA s.heap d es ep) (hz:es.size≤sizeLine)
  (hnone:(∀j,j < es.size→m j=false)→∀h',bA h' d (es.push ⟨h,key,v⟩) (ep + 1)→Heap.SameBut d s.heap h'→Q () { s with heap:=h',toks:=s.toks + n })
  (hsome:∀j (hj:j < es.size),m j=true→∀h',bA h' d (es.modify j fun e=>{ e with val:=v }) ep→Heap.SameBut d s.heap h'→Q () { s with heap:=h',toks:=s.toks + n }) :
  wpAny (model prog w) A (dictSet d key v) Q E s:=by
 obtain⟨o,ho,hc,hd⟩:=x
 unfold dictSet
 try with_reducible refine wpAny_holding ?_
 refine wpAny_bind (hh _ _ ?_)
 unfold dictSetHashed
 try with_reducible refine wpAny_holding ?_
 refine wpAny_bind (qW (s:={ s with toks:=s.toks + n }) f ho hd ?_ ?_)
 ·intro hno
  exact wpAny_bind (wpAny_rule (wpAny_updateDictKeys (hz:=hz) (s:={ s with toks:=s.toks + n }) ho hd (hnone hno _ ⟨_,Heap.get?_update_self _ ho (Obj.isFreed_of_dict (Obj.data_mapDictKeys hd _)),hc.mapDictKeys _,Obj.data_mapDictKeys hd _⟩ (Heap.SameBut.update ..))))
 ·intro j hj hm
  exact wpAny_bind (wpAny_rule (wpAny_bind (wpAny_updateDict (s:={ s with toks:=s.toks + n }) ho hd (wpAny_point (hsome j hj hm _ ⟨_,Heap.get?_update_self _ ho (Obj.isFreed_of_dict (Obj.data_mapDict hd _)),hc.mapDict _,Obj.data_mapDict hd _⟩ (Heap.SameBut.update ..))))))
theorem uF {d:Addr} {es:Array DictEntry} {ep:Nat} {key:Value} {h:Int} {n j:Nat} {m:Nat→Bool} {Q:Value→Shared→Prop} (hh:gC prog w A.in1 s key h n) (f:j8 prog w A.in1 { s with toks:=s.toks + n } es key h m) (x:bA s.heap d es ep)
  (hj:j < es.size) (hm:m j=true) (hq:Q es[j].val { s with toks:=s.toks + n }):wpAny (model prog w) A (getItem (.ref d) key) Q E s:=by
 unfold getItem
 try with_reducible refine wpAny_holding ?_
 refine wpAny_bind (wpAny_sequenceKey x.typeIs (by decide) ?_)
 refine wpAny_bind (wpAny_callSpecial?_slot (name:=Str.ofString "__getitem__") x.typeIs slot_dict_getitem
  (wpAny_call_entry slot_dict_getitem x.typeIs entry_dict_getitem ?_ (args_dict_getitem _ _)))
 show wpAny _ _ (dictGet d key >>= _) _ _ s
 refine wpAny_bind (um hh f x (fun hno=>by rw [hno j hj] at hm;cases hm) fun i hi hmi=>?_)
 have:=f.mu i j hi hj hmi hm
 subst this
 exact wpAny_pure ⟨_,rfl,wpAny_pure hq⟩
theorem uL {d:Addr} {es:Array DictEntry} {ep:Nat} {key v:Value} {h:Int} {n:Nat} {m:Nat→Bool} {Q:Unit→Shared→Prop} (hh:gC prog w A.in1 s key h n) (f:j8 prog w A.in1 { s with toks:=s.toks + n } es key h m) (x:bA s.heap d es ep) (hz:es.size≤sizeLine)
  (hnone:(∀j,j < es.size→m j=false)→∀h',bA h' d (es.push ⟨h,key,v⟩) (ep + 1)→Heap.SameBut d s.heap h'→Q () { s with heap:=h',toks:=s.toks + n })
  (hsome:∀j (hj:j < es.size),m j=true→∀h',bA h' d (es.modify j fun e=>{ e with val:=v }) ep→Heap.SameBut d s.heap h'→Q () { s with heap:=h',toks:=s.toks + n }) :
  wpAny (model prog w) A (setItem (.ref d) key v) Q E s:=by
 unfold setItem
 try with_reducible refine wpAny_holding ?_
 refine wpAny_bind (wpAny_sequenceKey x.typeIs (by decide) ?_)
 refine wpAny_bind (wpAny_callSpecial?_slot (name:=Str.ofString "__setitem__") x.typeIs slot_dict_setitem
  (wpAny_call_entry slot_dict_setitem x.typeIs entry_dict_setitem ?_ (args_dict_setitem _ _ _)))
 show wpAny _ _ (Builtin.Dict.notOrdered "__setitem__" ⟨[.ref d,key,v],[]⟩ >>= _) _ _ s
 refine wpAny_bind (wpAny_notOrdered_dict x.typeIs ?_)
 show wpAny _ _ (dictSet d key v >>= _) _ _ s
 exact wpAny_bind (Af hh f x hz (fun hno h' a b=>wpAny_pure ⟨.none,rfl,wpAny_pure (hnone hno h' a b)⟩) (fun j hj hm h' a b=>wpAny_pure ⟨.none,rfl,wpAny_pure (hsome j hj hm h' a b)⟩))
theorem rV {d:Addr} {es:Array DictEntry} {ep:Nat} {key:Value} {h:Int} {n:Nat} {m:Nat→Bool} {Q:Bool→Shared→Prop} (hh:gC prog w A.in1 s key h n) (f:j8 prog w A.in1 { s with toks:=s.toks + n } es key h m) (x:bA s.heap d es ep) (hs:(d == sysModules)=false)
  (hnone:(∀j,j < es.size→m j=false)→Q false { s with toks:=s.toks + n }) (hsome:∀j (hj:j < es.size),m j=true→Q true { s with toks:=s.toks + n }):wpAny (model prog w) A (contains (.ref d) key) Q E s:=by
 unfold contains
 try with_reducible refine wpAny_holding ?_
 refine wpAny_bind (wpAny_specialOf x.typeIs slot_dict_contains.lookup ?_)
 show wpAny _ _ (if (some (Value.builtin "dict.__contains__") == some Value.none)=true then _ else _) _ E s
 rw [if_neg (by rw [beq_builtin_none];exact Bool.false_ne_true)]
 refine wpAny_bind (wpAny_callSpecialUnlessNone?_slot (name:=Str.ofString "__contains__") x.typeIs slot_dict_contains
  (wpAny_call_entry slot_dict_contains x.typeIs entry_dict_contains ?_ (args_dict_contains _ _)))
 show wpAny _ _ (dictGet d key >>= _) _ _ s
 refine wpAny_bind (um hh f x (fun hno=>?_) fun i hi hmi=>?_)
 ·show wpAny _ _ (Builtin.Dict.pendingKey? d key >>= _) _ _ _
  exact wpAny_bind (wpAny_pendingKey_other hs (wpAny_pure ⟨_,rfl,wpAny_truthy_bool (hnone hno)⟩))
 ·show wpAny _ _ (ret (.bool true)) _ _ _
  exact wpAny_pure ⟨_,rfl,wpAny_truthy_bool (hsome i hi hmi)⟩
end
end L2.L3
namespace L2.L3
open PySem PySem.Spec PyProof.Rows
mutual
def aY:D→Bool
 | .int _=>true
 | .non=>true
 | .tup ds=>iD ds
 | _=>false
def iD:List D→Bool
 | []=>true
 | d :: ds=>aY d && iD ds
end
mutual
def Dj:D→Nat
 | .int _=>1
 | .non=>1
 | .tup ds=>sM ds + 1
 | _=>0
def sM:List D→Nat
 | []=>0
 | d :: ds=>Dj d + sM ds
end
theorem lK (d:D):∀ds:List D,nO (ds ++ [d])=nO ds ++ [Ar d]
 | []=>rfl
 | x :: ds=>by show Ar x :: nO (ds ++ [d])=_;rw [lK d ds];rfl
theorem lY (d:D):∀ds:List D,sM (ds ++ [d])=sM ds + Dj d
 | []=>by simp [sM]
 | x :: ds=>by show Dj x + sM (ds ++ [d])=_;rw [lY d ds];simp only [sM];omega
mutual
theorem cO:∀(a b:D),aY a=true→ba a b=true→aY b=true→a=b
 | .int i,b,h,e,k=>by cases b <;> simp only [ba,aY,beq_iff_eq,Bool.false_eq_true] at e k;rw [e]
 | .tup ds,b,h,e,k=>by
  cases b <;> simp only [ba,aY,Bool.false_eq_true] at e k
  rw [vn _ _ (by simpa only [aY] using h) e k]
 | .non,b,h,e,k=>by cases b <;> simp only [ba,Bool.false_eq_true] at e;rfl
 | .bl _,b,h,e,k=>by simp only [aY,Bool.false_eq_true] at h
 | .str _,b,h,e,k=>by simp only [aY,Bool.false_eq_true] at h
 | .lst _,b,h,e,k=>by simp only [aY,Bool.false_eq_true] at h
 | .dct _ _,b,h,e,k=>by simp only [aY,Bool.false_eq_true] at h
 | .ty _,b,h,e,k=>by simp only [aY,Bool.false_eq_true] at h
 | .exc _,b,h,e,k=>by simp only [aY,Bool.false_eq_true] at h
 | .cls _,b,h,e,k=>by simp only [aY,Bool.false_eq_true] at h
 | .obj _,b,h,e,k=>by simp only [aY,Bool.false_eq_true] at h
theorem vn:∀(a b:List D),iD a=true→fB a b=true→iD b=true→a=b
 | [],b,h,e,k=>by cases b <;> simp only [fB,Bool.false_eq_true] at e;rfl
 | x :: a,b,h,e,k=>by
  cases b with
  | nil=>simp only [fB,Bool.false_eq_true] at e
  | cons y b =>
   simp only [fB,iD,Bool.and_eq_true] at e h k
   rw [cO x y h.1 e.1 k.1,vn a b h.2 e.2 k.2]
end
mutual
theorem fH:∀(a:D),aY a=true→ba a a=true
 | .int i,h=>by simp only [ba,beq_self_eq_true]
 | .tup ds,h=>by simp only [ba];exact pL ds (by simpa only [aY] using h)
 | .non,h=>by simp only [ba]
 | .bl _,h=>by simp only [aY,Bool.false_eq_true] at h
 | .str _,h=>by simp only [aY,Bool.false_eq_true] at h
 | .lst _,h=>by simp only [aY,Bool.false_eq_true] at h
 | .dct _ _,h=>by simp only [aY,Bool.false_eq_true] at h
 | .ty _,h=>by simp only [aY,Bool.false_eq_true] at h
 | .exc _,h=>by simp only [aY,Bool.false_eq_true] at h
 | .cls _,h=>by simp only [aY,Bool.false_eq_true] at h
 | .obj _,h=>by simp only [aY,Bool.false_eq_true] at h
theorem pL:∀(a:List D),iD a=true→fB a a=true
 | [],h=>rfl
 | x :: a,h=>by
  simp only [iD,Bool.and_eq_true] at h
  simp only [fB,Bool.and_eq_true]
  exact⟨fH x h.1,pL a h.2⟩
end
section
variable {X:Cx} {pins:List (Addr×Obj)} {σ:St} {H F:Hp}
theorem BV {s:Shared} {a:Addr} {items:List Value} {A:Around} {ds:List D} {vs:List V} (hu:A.units < cLine) (hT:IsTup s.heap a items.toArray) (rv:Vals vs items) (dl:ao X.K F ds vs)
  (rec:∀(d:D) (v:V) (u:Value) (n:Nat),d∈ds→Den X.K F d v→RelV v u→gC X.prog X.w A.in1 { s with toks:=s.toks + n } u (Ar d) (Dj d)) :
  gC X.prog X.w A s (.ref a) (reduceHash (Builtin.Tuple.tupleHashOf (nO ds))) (sM ds + 1):=by
 intro E Q h
 obtain⟨o,ho,hc,n,hd⟩:=hT
 have hT:s.TypeIs (.ref a) "tuple":=⟨o,ho,hc⟩
 unfold PySem.pyHash
 first | unfold pyHashByItsType | skip
 first | refine wpAny_bind (wpAny_cRoomFor_or (.inr hu) ?_) | skip
 refine wpAny_bind (wpAny_specialOf hT PySem.F.slot_tuple_hash.lookup ?_)
 show wpAny _ _ (if (some (Value.builtin "tuple.__hash__") == some Value.none)=true then _ else _) Q E s
 rw [if_neg (by rw [beq_builtin_none];exact Bool.false_ne_true)]
 refine wpAny_bind (wpAny_specialOf hT PySem.F.slot_tuple_hash.lookup ?_)
 show wpAny _ _ (callSpecialIfBoundUnlessNone? (.ref a) "__hash__" _ >>= _) Q E s
 refine wpAny_bind (wpAny_callSpecialIfBoundUnlessNone?_slot hT PySem.F.slot_tuple_hash (wpAny_call_entry PySem.F.slot_tuple_hash hT PySem.F.entry_tuple_hash ?_ (PySem.F.args_tuple_hash_1 _)))
 show wpAny _ _ (Builtin.Tuple.tupleItemsOf (.ref a) >>= _) _ _ s
 refine wpAny_bind (wpAny_tupleItemsOf ho hd ?_)
 refine wpAny_bind ?_
 rw [← Array.forIn_toList]
 refine wpAny_forIn_list _
  (fun rest (b:Array Int) s'=>∃done left vl,ds=done ++ left∧ao X.K F left vl∧Vals vl rest∧b.toList=nO done∧s'={ s with toks:=s.toks + sM done })
  _ ?_ ?_ _ _ ⟨[],ds,vs,rfl,dl,by simpa using rv,rfl,rfl⟩
 ·rintro x rest b s' ⟨done,left,vl,rfl,hl,hv,hb,rfl⟩
  cases hv with
  | @cons v _ vl' _ r1 hv' =>
   cases left with
   | nil=>simp only [ao] at hl;cases hl
   | cons d left' =>
    simp only [ao] at hl
    obtain⟨v',r',e,hd',hl'⟩:=hl
    cases e
    refine wpAny_bind (rec d v x _ (by simp) hd' r1 _ _ ?_)
    first
     | exact wpAny_pure ⟨done ++ [d],left',vl',by simp,hl',hv',by simp [hb,lK],by simp [lY,Nat.add_assoc]⟩
     | exact wpAny_bind (wpAny_pure (wpAny_pure ⟨done ++ [d],left',vl',by simp,hl',hv',by simp [hb,lK],by simp [lY,Nat.add_assoc]⟩))
 ·rintro b s' ⟨done,left,vl,rfl,hl,hv,hb,rfl⟩
  cases hv
  cases left with
  | cons d left'=>simp only [ao] at hl;obtain⟨_,_,e,_⟩:=hl;cases e
  | nil =>
  rw [List.append_nil] at h
  show wpAny _ _ (retInt (Builtin.Tuple.tupleHashOf b.toList)) _ _ _
  rw [hb]
  refine wpAny_ret_mkInt ?_
  show wpAny _ _ (if (decide (-(2:Int) ^ 63≤Builtin.Tuple.tupleHashOf (nO done)) && decide (Builtin.Tuple.tupleHashOf (nO done) < 2 ^ 63))=true then _ else _) Q E _
  unfold reduceHash at h
  by_cases hr:(decide (-(2:Int) ^ 63≤Builtin.Tuple.tupleHashOf (nO done)) && decide (Builtin.Tuple.tupleHashOf (nO done) < 2 ^ 63))=true
  ·rw [if_pos hr]
   rw [if_pos hr] at h
   exact wpAny_pure (by simpa [Nat.add_assoc] using h)
  ·rw [if_neg hr]
   rw [if_neg hr] at h
   exact wpAny_bind (wpAny_rule (wpAny_pure (by simpa [Nat.add_assoc] using h)))
theorem AM {s:Shared} {A:Around} (hu:A.units < cLine):gC X.prog X.w A s .none 4238894112 1:=by
 intro E Q h
 have hT:s.TypeIs .none "NoneType":=rfl
 unfold PySem.pyHash
 first | unfold pyHashByItsType | skip
 first | refine wpAny_bind (wpAny_cRoomFor_or (.inr hu) ?_) | skip
 refine wpAny_bind (wpAny_specialOf hT PySem.F.slot_NoneType_hash.lookup ?_)
 show wpAny _ _ (if (some (Value.builtin "NoneType.__hash__") == some Value.none)=true then _ else _) Q E s
 rw [if_neg (by rw [beq_builtin_none];exact Bool.false_ne_true)]
 refine wpAny_bind (wpAny_specialOf hT PySem.F.slot_NoneType_hash.lookup ?_)
 show wpAny _ _ (callSpecialIfBoundUnlessNone? .none "__hash__" _ >>= _) Q E s
 refine wpAny_bind (wpAny_callSpecialIfBoundUnlessNone?_slot hT PySem.F.slot_NoneType_hash (wpAny_call_entry PySem.F.slot_NoneType_hash hT PySem.F.entry_NoneType_hash ?_ (PySem.F.args_NoneType_hash_1 _)))
 show wpAny _ _ (retInt 4238894112) _ _ _
 refine wpAny_ret_mkInt ?_
 exact wpAny_pure h
mutual
theorem lr (fh:ar F H):∀(d:D) (s:Shared) (A:Around) (v:V) (u:Value),Inv X pins σ H s→aY d=true→A.units + dep d < cLine→Den X.K F d v→RelV v u→gC X.prog X.w A s u (Ar d) (Dj d)
 | .int i,s,A,v,u,I,hk,hu,hd,r=>by
  simp only [Den] at hd;subst hd
  obtain⟨t,rfl⟩:=r
  intro E Q h
  exact (cA X.prog X.w).pyHash (k:=.inl i) (rn i t) h
 | .tup ds,s,A,v,u,I,hk,hu,hd,r=>by
  simp only [Den] at hd
  obtain⟨a,vs,rfl,q,dl⟩:=hd
  cases r
  obtain⟨its,rv,ht,hz⟩:=I.tuple (ar.b8 fh q)
  simp only [dep] at hu
  exact BV (by omega) ht rv dl fun d v u n hm hd' r'=>qt fh ds d { s with toks:=s.toks + n } A.in1 v u (I.tok _) (by simpa only [aY] using hk) (by rw [units_in1];omega) hm hd' r'
 | .non,s,A,v,u,I,hk,hu,hd,r=>by
  simp only [Den] at hd;subst hd
  cases r
  exact AM (by simp only [dep] at hu;omega)
 | .bl _,_,_,_,_,_,hk,_,_,_=>by simp only [aY,Bool.false_eq_true] at hk
 | .str _,_,_,_,_,_,hk,_,_,_=>by simp only [aY,Bool.false_eq_true] at hk
 | .lst _,_,_,_,_,_,hk,_,_,_=>by simp only [aY,Bool.false_eq_true] at hk
 | .dct _ _,_,_,_,_,_,hk,_,_,_=>by simp only [aY,Bool.false_eq_true] at hk
 | .ty _,_,_,_,_,_,hk,_,_,_=>by simp only [aY,Bool.false_eq_true] at hk
 | .exc _,_,_,_,_,_,hk,_,_,_=>by simp only [aY,Bool.false_eq_true] at hk
 | .cls _,_,_,_,_,_,hk,_,_,_=>by simp only [aY,Bool.false_eq_true] at hk
 | .obj _,_,_,_,_,_,hk,_,_,_=>by simp only [aY,Bool.false_eq_true] at hk
theorem qt (fh:ar F H):∀(ds:List D) (d:D) (s:Shared) (A:Around) (v:V) (u:Value),Inv X pins σ H s→iD ds=true→A.units + cy ds < cLine→d∈ds→Den X.K F d v→RelV v u→gC X.prog X.w A s u (Ar d) (Dj d)
 | [],d,s,A,v,u,I,hk,hu,hm,hd,r=>by cases hm
 | x :: ds,d,s,A,v,u,I,hk,hu,hm,hd,r=>by
  simp only [iD,Bool.and_eq_true] at hk
  simp only [cy] at hu
  by_cases c:d∈ds
  ·exact qt fh ds d s A v u I hk.2 (by omega) c hd r
  ·have:d=x:=(List.mem_cons.mp hm).elim id (fun e=>absurd e c)
   rw [this] at hd ⊢
   exact lr fh x s A v u I hk.1 (by omega) hd r
end
def pC (prog:Program) (w:World) (A:Around) (s:Shared) (n:Nat) (v:Value):Prop:=∀(E:Value→Shared→Prop) (Q:Bool→Shared→Prop),Q true s→wpAny (model prog w) A (eqIsQuiet n v) Q E s
theorem za {s:Shared} {a:Addr} {items:List Value} {A:Around} {n:Nat} (hT:IsTup s.heap a items.toArray)
  (rec:∀u∈items,pC X.prog X.w A s n u):pC X.prog X.w A s (n + 1) (.ref a):=by
 intro E Q h
 obtain⟨o,ho,hc,k,hd⟩:=hT
 have hT:s.TypeIs (.ref a) "tuple":=⟨o,ho,hc⟩
 unfold eqIsQuiet
 refine wpAny_bind (wpAny_specialOf hT PySem.F.slot_tuple_eq.lookup ?_)
 show wpAny _ _ (isInstance (.ref a) (.type "tuple") >>= _) _ _ s
 refine wpAny_bind (wpAny_isInstance hT isSubtype_tuple_tuple ?_)
 simp only [Bool.not_true,Bool.false_eq_true,if_false]
 refine wpAny_bind (wpAny_seqItems ho hd ?_)
 refine wpAny_bind ?_
 show wpAny _ _ (forIn items.toArray _ _) _ _ s
 rw [← Array.forIn_toList]
 refine wpAny_forIn_list _ (fun rest r s'=>r.1=none∧s'=s∧∀v∈rest,pC X.prog X.w A s n v) _ ?_ ?_ _ _ ⟨rfl,rfl,by simpa using rec⟩
 ·rintro v rest r s' ⟨hr,rfl,hall⟩
  refine wpAny_bind (hall v List.mem_cons_self _ _ ?_)
  simp only [Bool.not_true,Bool.false_eq_true,if_false]
  exact wpAny_pure ⟨rfl,rfl,fun u hu'=>hall u (List.mem_cons_of_mem _ hu')⟩
 ·rintro⟨r1,r2⟩ s' ⟨hr,rfl,_⟩
  simp only at hr
  subst hr
  exact wpAny_pure h
mutual
theorem mB (fh:ar F H):∀(d:D) (s:Shared) (A:Around) (n:Nat) (v:V) (u:Value),Inv X pins σ H s→aY d=true→dep d≤n→Den X.K F d v→RelV v u→pC X.prog X.w A s n u
 | .int i,s,A,n,v,u,I,hk,hu,hd,r=>by
  simp only [Den] at hd;subst hd
  obtain⟨t,rfl⟩:=r
  intro E Q h
  rw [eqIsQuiet_byValue n (v:=.int i t) rfl]
  exact wpAny_pure h
 | .tup ds,s,A,n,v,u,I,hk,hu,hd,r=>by
  simp only [Den] at hd
  obtain⟨a,vs,rfl,q,dl⟩:=hd
  cases r
  obtain⟨its,rv,ht,hz⟩:=I.tuple (ar.b8 fh q)
  simp only [dep] at hu
  cases n with
  | zero=>omega
  | succ n=>exact za ht (oz fh ds s A n vs its I (by simpa only [aY] using hk) (by omega) dl rv)
 | .non,s,A,n,v,u,I,hk,hu,hd,r=>by
  simp only [Den] at hd;subst hd
  cases r
  intro E Q h
  rw [eqIsQuiet_byValue n (v:=.none) rfl]
  exact wpAny_pure h
 | .bl _,_,_,_,_,_,_,hk,_,_,_=>by simp only [aY,Bool.false_eq_true] at hk
 | .str _,_,_,_,_,_,_,hk,_,_,_=>by simp only [aY,Bool.false_eq_true] at hk
 | .lst _,_,_,_,_,_,_,hk,_,_,_=>by simp only [aY,Bool.false_eq_true] at hk
 | .dct _ _,_,_,_,_,_,_,hk,_,_,_=>by simp only [aY,Bool.false_eq_true] at hk
 | .ty _,_,_,_,_,_,_,hk,_,_,_=>by simp only [aY,Bool.false_eq_true] at hk
 | .exc _,_,_,_,_,_,_,hk,_,_,_=>by simp only [aY,Bool.false_eq_true] at hk
 | .cls _,_,_,_,_,_,_,hk,_,_,_=>by simp only [aY,Bool.false_eq_true] at hk
 | .obj _,_,_,_,_,_,_,hk,_,_,_=>by simp only [aY,Bool.false_eq_true] at hk
theorem oz (fh:ar F H):∀(ds:List D) (s:Shared) (A:Around) (n:Nat) (vs:List V) (us:List Value),Inv X pins σ H s→iD ds=true→cy ds≤n→ao X.K F ds vs→Vals vs us→∀u∈us,pC X.prog X.w A s n u
 | [],s,A,n,vs,us,I,hk,hu,dl,rv,u,hm=>by
  simp only [ao] at dl;subst dl
  cases rv;cases hm
 | d :: ds,s,A,n,vs,us,I,hk,hu,dl,rv,u,hm=>by
  simp only [ao] at dl
  obtain⟨v,r,rfl,a,b⟩:=dl
  simp only [iD,Bool.and_eq_true] at hk
  simp only [cy] at hu
  cases rv with
  | @cons _ x _ xs r1 rv' =>
   by_cases c:u∈xs
   ·exact oz fh ds s A n r xs I hk.2 (by omega) b rv' u c
   ·have:u=x:=(List.mem_cons.mp hm).elim id (fun e=>absurd e c)
    rw [this]
    exact mB fh d s A n v x I hk.1 (by omega) a r1
end
end
end L2.L3
namespace L2.L3
open PySem PySem.Spec PyProof.Rows
structure cS (kvs:List (D×D)):Prop where
 key:∀kv∈kvs,aY kv.1=true∧dep kv.1≤8
 dif:∀(i j:Nat) (x y:D×D),kvs[i]?=some x→kvs[j]?=some y→x.1=y.1→i=j
def uq (kvs:List (D×D)) (d:D) (j:Nat):Bool:=match kvs[j]? with
 | some kv=>ba kv.1 d
 | none=>false
section
variable {X:Cx} {pins:List (Addr×Obj)} {σ:St} {H F:Hp} {s:Shared} {kvs:List (D×D)} {us vs:List V} {p:Addr} {A:Around} {d:D} {v:V} {u:Value}
theorem iV (I:Inv X pins σ H s) {ep:Nat} {rows:List (Int×V×V)} (e:H p=some (jJ p ep rows)):rows.length≤sizeLine∧(p == sysModules)=false∧∃es,bA s.heap p es ep∧Paired A5 rows es.toList:=(I.hok p _ e).1
theorem gJ {α β:Type} {R:α→β→Prop}:∀{xs:List α} {ys:List β} {i:Nat} {y:β},Paired R xs ys→ys[i]?=some y→∃x,xs[i]?=some x∧R x y
 | _,_,_,_,.nil,e=>by simp at e
 | _,_,0,_,.cons r _,e=>by simp at e;subst e;exact⟨_,rfl,r⟩
 | _,_,i + 1,y,.cons _ t,e=>by
  obtain⟨x,h1,h2⟩:=gJ (i:=i) (y:=y) t (by simpa using e)
  exact⟨x,by simpa using h1,h2⟩
theorem dI (d1:ao X.K F (kvs.map (·.1)) us) (d2:ao X.K F (kvs.map (·.2)) vs):(bV kvs us vs).length=kvs.length:=by
 have l1:=d1.length
 have l2:=d2.length
 simp only [List.length_map] at l1 l2
 unfold bV
 simp only [List.length_zip,List.length_map,← l1,← l2,Nat.min_self]
theorem wg (d1:ao X.K F (kvs.map (·.1)) us) (d2:ao X.K F (kvs.map (·.2)) vs) {es:Array DictEntry} (pr:Paired A5 (bV kvs us vs) es.toList) {j:Nat} (hj:j < es.size) :
  ∃kv a b,kvs[j]?=some kv∧us[j]?=some a∧vs[j]?=some b∧Den X.K F kv.1 a∧Den X.K F kv.2 b∧es[j].hash=Ar kv.1∧RelV a es[j].key∧RelV b es[j].val:=by
 have l:=dI d1 d2
 have lp:=Paired.length pr
 have hk:j < kvs.length:=by rw [← l,lp];simpa using hj
 obtain⟨row,hr,e1,e2,e3⟩:=gJ pr (y:=es[j]) (i:=j) (by simp [hj])
 have g0:kvs[j]?=some kvs[j]:=List.getElem?_eq_getElem hk
 obtain⟨a,ha,da⟩:=d1.get (i:=j) (d:=kvs[j].1) (by rw [List.getElem?_map,g0];rfl)
 obtain⟨b,hb,db⟩:=d2.get (i:=j) (d:=kvs[j].2) (by rw [List.getElem?_map,g0];rfl)
 have:row=(Ar kvs[j].1,a,b):=by
  unfold bV at hr
  rw [List.getElem?_zip_eq_some,List.getElem?_zip_eq_some,List.getElem?_map,g0] at hr
  obtain⟨h1,h2,h3⟩:=hr
  rw [ha] at h2;rw [hb] at h3
  exact Prod.ext (Option.some.inj h1).symm (Prod.ext (Option.some.inj h2).symm (Option.some.inj h3).symm)
 subst this
 exact⟨_,a,b,g0,ha,hb,da,db,e1,e2,e3⟩
theorem rQ (I:Inv X pins σ H s) (fh:ar F H) (ok:cS kvs) (d1:ao X.K F (kvs.map (·.1)) us) (d2:ao X.K F (kvs.map (·.2)) vs) {es:Array DictEntry} (pr:Paired A5 (bV kvs us vs) es.toList)
  (hk:aY d=true) (hd:dep d≤8) (hu:A.units + 8 < cLine) (dd:Den X.K F d v) (rv:RelV v u):j8 X.prog X.w A s es u (Ar d) (uq kvs d):=by
 have at_:=fun j hj=>wg d1 d2 pr (j:=j) hj
 have mat:∀j kv,kvs[j]?=some kv→uq kvs d j=ba kv.1 d:=fun j kv e=>by unfold uq;rw [e]
 have kk:∀(j:Nat) (kv:D×D),kvs[j]?=some kv→aY kv.1=true∧dep kv.1≤8:=fun j kv e=>ok.key kv (List.mem_of_getElem? e)
 refine⟨fun j hj=>?_,fun j hj hm=>?_,fun i j hi hj h1 h2=>?_,fun j hj he=>?_,?_,fun j hj=>?_,?_⟩
 ·obtain⟨kv,a,b,g0,g1,g2,da,db,e1,e2,e3⟩:=at_ j hj
  rw [mat j kv g0]
  have:=(kk j kv g0).2
  exact oD I fh kv.1 d A a v _ _ (by omega) (by omega) (by omega) da dd e2 rv
 ·obtain⟨kv,a,b,g0,g1,g2,da,db,e1,e2,e3⟩:=at_ j hj
  rw [mat j kv g0] at hm
  rw [e1,cO kv.1 d (kk j kv g0).1 hm hk]
 ·obtain⟨kv,_,_,g0,_⟩:=at_ i hi
  obtain⟨kw,_,_,f0,_⟩:=at_ j hj
  rw [mat i kv g0] at h1
  rw [mat j kw f0] at h2
  exact ok.dif i j kv kw g0 f0 (by rw [cO kv.1 d (kk i kv g0).1 h1 hk,cO kw.1 d (kk j kw f0).1 h2 hk])
 ·obtain⟨kv,a,b,g0,g1,g2,da,db,e1,e2,e3⟩:=at_ j hj
  rw [he] at e2
  have:=e2.inj rv
  subst this
  have k1:=(kk j kv g0).2
  rw [e1,cO kv.1 d (kk j kv g0).1 (nL I fh kv.1 d a (by omega) (by omega) da dd) hk]
 ·exact mB fh d s A 8 v u I hk hd dd rv
 ·obtain⟨kv,a,b,g0,g1,g2,da,db,e1,e2,e3⟩:=at_ j hj
  exact mB fh kv.1 s A 8 a _ I (kk j kv g0).1 (kk j kv g0).2 da e2
 ·cases d with
  | int i=>simp only [Den] at dd;subst dd;obtain⟨t,rfl⟩:=rv;exact .inl ⟨i,t,rfl⟩
  | tup ds=>simp only [Den] at dd;obtain⟨a,_,rfl,_⟩:=dd;cases rv;exact .inr (.inl ⟨a,rfl⟩)
  | non=>simp only [Den] at dd;subst dd;cases rv;exact .inr (.inr rfl)
  | _=>simp only [aY,Bool.false_eq_true] at hk
def iK (kvs:List (D×D)) (d:D):Option D:=(kvs.find? fun kv=>ba kv.1 d).map (·.2)
def putN (kvs:List (D×D)) (d x:D):List (D×D):=if (kvs.any fun kv=>ba kv.1 d)=true then kvs.map (fun kv=>if ba kv.1 d=true then (kv.1,x) else kv) else kvs ++ [(d,x)]
theorem Cp (ok:cS kvs) (hk:aY d=true) {x:D} (h:iK kvs d=some x):∃(j:Nat) (kv:D×D),kvs[j]?=some kv∧ba kv.1 d=true∧kv.2=x:=by
 unfold iK at h
 obtain⟨kv,h1,h2⟩:=Option.map_eq_some_iff.mp h
 obtain⟨j,hj⟩:=List.getElem?_of_mem (List.mem_of_find?_eq_some h1)
 have m:=List.find?_some (p:=fun kv:D×D=>ba kv.1 d) h1
 exact⟨j,kv,hj,m,h2⟩
theorem Ae (hu:A.units + 9 < cLine) (I:Inv X pins σ H s) (fh:ar F H) (ok:cS kvs) (d1:ao X.K F (kvs.map (·.1)) us) (d2:ao X.K F (kvs.map (·.2)) vs) {ep:Nat} (e:H p=some (jJ p ep (bV kvs us vs)))
  (hk:aY d=true) (hd:dep d≤8) (dd:Den X.K F d v) (rv:RelV v u) {x:D} (hx:iK kvs d=some x) {E:Value→Shared→Prop} {Q:Value→Shared→Prop}
  (h:∀w' u' s',Inv X pins σ H s'→Den X.K F x w'→RelV w' u'→Q u' s'):wpAny (model X.prog X.w) A (getItem (.ref p) u) Q E s:=by
 obtain⟨hz,hs,es,dh,pr⟩:=iV I e
 obtain⟨j,kv,g0,m0,rfl⟩:=Cp ok hk hx
 have lp:=Paired.length pr
 rw [dI d1 d2] at lp
 have hj:j < es.size:=by have:=(List.getElem?_eq_some_iff.mp g0).1;simp at lp;omega
 obtain⟨kv',a,b,g0',g1,g2,da,db,e1,e2,e3⟩:=wg d1 d2 pr hj
 rw [g0] at g0';cases g0'
 refine uF (j:=j) (lr fh d s A.in1 v u I hk (by rw [units_in1];omega) dd rv) (rQ (I.tok _) fh ok d1 d2 pr hk hd (by rw [units_in1];omega) dd rv) dh hj (by unfold uq;rw [g0];exact m0) ?_
 exact h b _ _ (I.tok _) db e3
theorem HC (hu:A.units + 9 < cLine) (I:Inv X pins σ H s) (fh:ar F H) (ok:cS kvs) (d1:ao X.K F (kvs.map (·.1)) us) (d2:ao X.K F (kvs.map (·.2)) vs) {ep:Nat} (e:H p=some (jJ p ep (bV kvs us vs)))
  (hk:aY d=true) (hd:dep d≤8) (dd:Den X.K F d v) (rv:RelV v u) {E:Value→Shared→Prop} {Q:Bool→Shared→Prop}
  (h:∀s',Inv X pins σ H s'→Q (kvs.any fun kv=>ba kv.1 d) s'):wpAny (model X.prog X.w) A (contains (.ref p) u) Q E s:=by
 obtain⟨hz,hs,es,dh,pr⟩:=iV I e
 have lp:=Paired.length pr
 rw [dI d1 d2] at lp
 refine rV (lr fh d s A.in1 v u I hk (by rw [units_in1];omega) dd rv) (rQ (I.tok _) fh ok d1 d2 pr hk hd (by rw [units_in1];omega) dd rv) dh hs (fun hno=>?_) fun j hj hm=>?_
 ·have:(kvs.any fun kv=>ba kv.1 d)=false:=by
   rw [List.any_eq_false]
   intro kv hm
   obtain⟨j,hj⟩:=List.getElem?_of_mem hm
   have:=hno j (by have:=(List.getElem?_eq_some_iff.mp hj).1;simp at lp;omega)
   unfold uq at this
   rw [hj] at this
   simpa using this
  have q:=h { s with toks:=s.toks + Dj d } (I.tok _)
  rw [this] at q;exact q
 ·have:(kvs.any fun kv=>ba kv.1 d)=true:=by
   rw [List.any_eq_true]
   unfold uq at hm
   cases g:kvs[j]? with
   | none=>rw [g] at hm;cases hm
   | some kv=>rw [g] at hm;exact⟨kv,List.mem_of_getElem? g,hm⟩
  have q:=h { s with toks:=s.toks + Dj d } (I.tok _)
  rw [this] at q;exact q
end
end L2.L3
namespace L2.L3
open PySem PySem.Spec PyProof.Rows
theorem mn {α β:Type} {R:α→β→Prop}:∀{xs:List α} {ys:List β},xs.length=ys.length→(∀(i:Nat) x y,xs[i]?=some x→ys[i]?=some y→R x y)→Paired R xs ys
 | [],[],_,_=>.nil
 | [],_ :: _,h,_=>by simp at h
 | _ :: _,[],h,_=>by simp at h
 | x :: xs,y :: ys,h,f=>.cons (f 0 x y rfl rfl) (mn (by simpa using h) fun i a b h1 h2=>f (i + 1) a b (by simpa using h1) (by simpa using h2))
theorem jn {kvs:List (D×D)} {us vs:List V} {i:Nat} {row:Int×V×V} (h:(bV kvs us vs)[i]?=some row):∃kv,kvs[i]?=some kv∧row.1=Ar kv.1∧us[i]?=some row.2.1∧vs[i]?=some row.2.2:=by
 unfold bV at h
 rw [List.getElem?_zip_eq_some,List.getElem?_zip_eq_some,List.getElem?_map] at h
 obtain⟨h1,h2,h3⟩:=h
 obtain⟨kv,a,b⟩:=Option.map_eq_some_iff.mp h1
 exact⟨kv,a,b.symm,h2,h3⟩
theorem DE {kvs:List (D×D)} {d x:D} {j:Nat} {kv:D×D} (ok:cS kvs) (hk:aY d=true) (hj:kvs[j]?=some kv) (hm:ba kv.1 d=true):kvs.map (fun kv=>if ba kv.1 d=true then (kv.1,x) else kv)=kvs.set j (kv.1,x):=by
 apply List.ext_getElem?
 intro i
 rw [List.getElem?_map]
 by_cases e:j=i
 ·subst e
  rw [List.getElem?_set_self (List.getElem?_eq_some_iff.mp hj).1,hj]
  simp only [Option.map_some,if_pos hm]
 ·rw [List.getElem?_set_ne e]
  cases g:kvs[i]? with
  | none=>rfl
  | some kw =>
   simp only [Option.map_some]
   rw [if_neg]
   intro hw
   exact e (ok.dif j i kv kw hj g (by rw [cO kv.1 d (ok.key kv (List.mem_of_getElem? hj)).1 hm hk,cO kw.1 d (ok.key kw (List.mem_of_getElem? g)).1 hw hk]))
theorem u6 {kvs:List (D×D)} {j:Nat} {kv:D×D} {x:D} (hj:kvs[j]?=some kv):(kvs.set j (kv.1,x)).map (·.1)=kvs.map (·.1):=by
 apply List.ext_getElem?
 intro i
 rw [List.getElem?_map,List.getElem?_map]
 by_cases e:j=i
 ·subst e
  rw [List.getElem?_set_self (List.getElem?_eq_some_iff.mp hj).1,hj];rfl
 ·rw [List.getElem?_set_ne e]
theorem vf {kvs:List (D×D)} {j:Nat} {y x:D}:(kvs.set j (y,x)).map (·.2)=(kvs.map (·.2)).set j x:=by
 rw [List.map_set]
section
variable {X:Cx} {pins:List (Addr×Obj)} {σ:St} {H F:Hp} {s:Shared} {kvs:List (D×D)} {us vs:List V} {p:Addr} {A:Around} {d x:D} {v w:V} {u r:Value}
theorem E2 (hu:A.units + 9 < cLine) (I:Inv X pins σ H s) (fh:ar F H) (ok:cS kvs) (d1:ao X.K F (kvs.map (·.1)) us) (d2:ao X.K F (kvs.map (·.2)) vs) {ep:Nat} (e:H p=some (jJ p ep (bV kvs us vs)))
  (hk:aY d=true) (hd:dep d≤8) (dd:Den X.K F d v) (rv:RelV v u) (dx:Den X.K F x w) (rw':RelV w r) (hl:kvs.length < sizeLine) {E:Value→Shared→Prop} {Q:Unit→Shared→Prop}
  (h:∀ep' us' vs' s',ao X.K F ((putN kvs d x).map (·.1)) us'→ao X.K F ((putN kvs d x).map (·.2)) vs'→Inv X pins σ (upd H p (jJ p ep' (bV (putN kvs d x) us' vs'))) s'→Q () s'):wpAny (model X.prog X.w) A (setItem (.ref p) u r) Q E s:=by
 obtain⟨hz,hs,es,dh,pr⟩:=iV I e
 have lp:=Paired.length pr
 have l0:=dI d1 d2
 rw [l0] at lp hz
 have lp':kvs.length=es.size:=by simpa using lp
 have l1:=d1.length
 have l2:=d2.length
 simp only [List.length_map] at l1 l2
 have ext:∀(ep':Nat) (rows:List (Int×V×V)) (h':Heap) (es':Array DictEntry),rows.length≤sizeLine→bA h' p es' ep'→Paired A5 rows es'.toList→bF X.prog X.w (upd H p (jJ p ep' rows)) h' p (jJ p ep' rows):=fun ep' rows h' es' z dh' pr'=>by
  refine⟨⟨z,hs,es',dh',pr'⟩,?_,?_⟩
  ·obtain⟨o,ho,_⟩:=dh';exact⟨o,ho⟩
  ·rintro h1 h2 ⟨z,hs,es,⟨o,ho,c,dd⟩,pr⟩ k
   exact⟨z,hs,es,⟨o,k _ ho,c,dd⟩,pr⟩
 have hash:=lr fh d s A.in1 v u I hk (by rw [units_in1];omega) dd rv
 have find:=rQ (I.tok (s.toks + Dj d)) fh ok d1 d2 pr hk hd (A:=A.in1) (by rw [units_in1];omega) dd rv
 refine uL hash find dh (by omega) (fun hno h' dh' sb=>?_) fun j hj hm h' dh' sb=>?_
 ·have any:(kvs.any fun kv=>ba kv.1 d)=false:=by
   rw [List.any_eq_false]
   intro kv hm
   obtain⟨j,hj⟩:=List.getElem?_of_mem hm
   have:=hno j (by have:=(List.getElem?_eq_some_iff.mp hj).1;omega)
   unfold uq at this
   rw [hj] at this
   simpa using this
  have pe:putN kvs d x=kvs ++ [(d,x)]:=by unfold putN;rw [any];rfl
  have q1:ao X.K F ((putN kvs d x).map (·.1)) (us ++ [v]):=by rw [pe,List.map_append];exact d1.append (aW dd a7)
  have q2:ao X.K F ((putN kvs d x).map (·.2)) (vs ++ [w]):=by rw [pe,List.map_append];exact d2.append (aW dx a7)
  refine h _ _ _ _ q1 q2 (tV I (by rw [e];exact True.intro) sb (let ⟨o,ho,_⟩:=dh';⟨o,ho⟩) (ext _ _ h' _ ?_ dh' ?_))
  ·rw [dI q1 q2,pe];simp;omega
  ·refine mn (by rw [dI q1 q2,pe];simp;omega) fun i row en h1 h2=>?_
   obtain⟨kv,k1,k2,k3,k4⟩:=jn h1
   rw [pe] at k1
   simp only [Array.toList_push] at h2
   by_cases c:i < kvs.length
   ·rw [List.getElem?_append_left c] at k1
    rw [List.getElem?_append_left (by omega)] at k3 k4
    rw [List.getElem?_append_left (by simp;omega)] at h2
    obtain⟨row',g1,g2⟩:=gJ pr h2
    obtain⟨kv',f1,f2,f3,f4⟩:=jn g1
    rw [f1] at k1;cases k1
    rw [f3] at k3
    rw [f4] at k4
    have:row'=row:=Prod.ext (by rw [f2,k2]) (Prod.ext (Option.some.inj k3) (Option.some.inj k4))
    rw [← this];exact g2
   ·have hi:i=kvs.length:=by
     have:=(List.getElem?_eq_some_iff.mp k1).1
     simp at this;omega
    rw [hi,List.getElem?_append_right (Nat.le_refl _),Nat.sub_self] at k1
    rw [show i=us.length by omega,List.getElem?_append_right (Nat.le_refl _),Nat.sub_self] at k3
    rw [show i=vs.length by omega,List.getElem?_append_right (Nat.le_refl _),Nat.sub_self] at k4
    rw [show i=es.toList.length by simp;omega,List.getElem?_append_right (Nat.le_refl _),Nat.sub_self] at h2
    cases k1;cases h2
    have a3:v=row.2.1:=Option.some.inj k3
    have a4:w=row.2.2:=Option.some.inj k4
    exact⟨k2.symm,by rw [← a3];exact rv,by rw [← a4];exact rw'⟩
 ·obtain⟨kv,a,b,g0,g1,g2,da,db,e1,e2,e3⟩:=wg d1 d2 pr hj
  unfold uq at hm
  rw [g0] at hm
  have any:(kvs.any fun kv=>ba kv.1 d)=true:=List.any_eq_true.mpr ⟨kv,List.mem_of_getElem? g0,hm⟩
  have pe:putN kvs d x=kvs.set j (kv.1,x):=by unfold putN;rw [any,if_pos rfl];exact DE ok hk g0 hm
  have q1:ao X.K F ((putN kvs d x).map (·.1)) us:=by rw [pe,u6 g0];exact d1
  have q2:ao X.K F ((putN kvs d x).map (·.2)) (vs.set j w):=by rw [pe,vf];exact ao.set dx j d2
  refine h _ _ _ _ q1 q2 (tV I (by rw [e];exact True.intro) sb (let ⟨o,ho,_⟩:=dh';⟨o,ho⟩) (ext _ _ h' _ ?_ dh' ?_))
  ·rw [dI q1 q2,pe];simp;omega
  ·refine mn (by rw [dI q1 q2,pe];simp;omega) fun i row en h1 h2=>?_
   obtain⟨kw,k1,k2,k3,k4⟩:=jn h1
   rw [pe] at k1
   rw [Array.getElem?_toList,Array.getElem?_modify] at h2
   by_cases c:j=i
   ·subst c
    rw [if_pos rfl,Array.getElem?_eq_getElem hj] at h2
    rw [List.getElem?_set_self (by omega)] at k1 k4
    cases k1;cases h2
    rw [g1] at k3
    have a3:a=row.2.1:=Option.some.inj k3
    have a4:w=row.2.2:=Option.some.inj k4
    exact⟨by rw [k2];exact e1,by rw [← a3];exact e2,by rw [← a4];exact rw'⟩
   ·rw [if_neg c,← Array.getElem?_toList] at h2
    rw [List.getElem?_set_ne c] at k1 k4
    obtain⟨row',f0,f1⟩:=gJ pr h2
    obtain⟨kv',t1,t2,t3,t4⟩:=jn f0
    rw [t1] at k1;cases k1
    rw [t3] at k3
    rw [t4] at k4
    have:row'=row:=Prod.ext (by rw [t2,k2]) (Prod.ext (Option.some.inj k3) (Option.some.inj k4))
    rw [← this];exact f1
end
end L2.L3
namespace L2.L3
open PySem PySem.Spec PyProof.Rows
section
variable {K:PySem.W.Frag} {B:Base} {F H F' H':Hp} {σ:St} {e:En}
theorem bb {e:En} {i j:Nat} {l:Lo} {xs:List D} (hl:∀z,l≠.own z) (q:(e.set i (some l))[j]?=some (some (.own xs))):i≠j:=fun z=>by
 subst z
 by_cases w:i < e.length
 ·rw [List.getElem?_set_self w] at q;cases q;exact hl _ rfl
 ·rw [List.getElem?_eq_none (by simpa using w)] at q;cases q
theorem oB {e:En} {i j:Nat} {l:Lo} {x:D} (hl:∀z,l≠.d z) (q:(e.set i (some l))[j]?=some (some (.d x))):i≠j:=fun z=>by
 subst z
 by_cases w:i < e.length
 ·rw [List.getElem?_set_self w] at q;cases q;exact hl _ rfl
 ·rw [List.getElem?_eq_none (by simpa using w)] at q;cases q
theorem Rep.ES (r:Rep K B F H σ e) {i:Nat} {p:Addr} (h:H p=none) (hl:i < σ.length) :
  Rep K B F (upd H p (jJ p 0 [])) (σ.set i (some (.ref p))) (e.set i (some (.dic []))):=by
 have r1:=r.loose (o:=jJ p 0 []) h
 have hb:B.H p=none:=r.h0.free h
 have old:∀(j:Nat) (ys:List (D×D)),e[j]?=some (some (.dic ys))→σ[j]?≠some (some (.ref p)):=fun j ys q z=>by
  obtain⟨q1,_,_,_,h1,h2,_⟩:=r.mv j ys q
  rw [z] at h1;cases h1;rw [h] at h2;cases h2
 refine⟨r1.f0,r1.fh,r1.h0,r1.nf,fun j y q=>?_,fun j y q=>?_,fun j k ys zs q hjk q1 q2 q3 q4=>?_,fun j y q=>?_,fun j k ys zs q hjk q1 q2 q3 q4=>?_⟩
 ·have z:=oB (fun _ w=>by cases w) q
  rw [List.getElem?_set_ne z] at q ⊢;exact r1.dv j y q
 ·have z:=bb (fun _ w=>by cases w) q
  rw [List.getElem?_set_ne z] at q ⊢;exact r1.ov j y q
 ·have z1:=bb (fun _ w=>by cases w) q1
  have z2:=bb (fun _ w=>by cases w) q2
  rw [List.getElem?_set_ne z1] at q1 q3
  rw [List.getElem?_set_ne z2] at q2 q4
  exact r.ne j k ys zs q hjk q1 q2 q3 q4
 ·by_cases z:i=j
  ·subst z
   by_cases w:i < e.length
   ·rw [List.getElem?_set_self w] at q
    cases q
    exact⟨p,0,[],[],List.getElem?_set_self hl,aI,r.qB h,hb,a7,a7⟩
   ·rw [List.getElem?_eq_none (by simpa using w)] at q;cases q
  ·rw [List.getElem?_set_ne z] at q ⊢;exact r1.mv j y q
 ·by_cases z1:i=j
  ·subst z1
   rw [List.getElem?_set_ne hjk] at q2 q4
   rw [List.getElem?_set_self hl] at q3
   cases q3
   exact old k zs q2 q4
  ·rw [List.getElem?_set_ne z1] at q1 q3
   by_cases z2:i=k
   ·subst z2
    rw [List.getElem?_set_self hl] at q4
    cases q4
    exact old j ys q1 q3
   ·rw [List.getElem?_set_ne z2] at q2 q4
    exact r.nm j k ys zs q hjk q1 q2 q3 q4
theorem Rep.yX (r:Rep K B F H σ e) {i:Nat} {p:Addr} (ep:Nat) {us vs:List V} {xs ys:List (D×D)} (h:e[i]?=some (some (.dic xs))) (hp:σ[i]?=some (some (.ref p))) (hd:ao K F (ys.map (·.1)) us) (hd':ao K F (ys.map (·.2)) vs) :
  Rep K B F (upd H p (jJ p ep (bV ys us vs))) σ (e.set i (some (.dic ys))):=by
 obtain⟨p',_,_,_,h1,h2,h3,h4,_⟩:=r.mv i xs h
 rw [hp] at h1;cases h1
 have wl:i < e.length:=(List.getElem?_eq_some_iff.mp h).1
 have fk:∀q o,F q=some o→q≠p:=fun q o z w=>by subst w;rw [h3] at z;cases z
 have bk:∀q o,B.H q=some o→q≠p:=fun q o z w=>by subst w;rw [h4] at z;cases z
 have dicAt:∀(j:Nat) (zs:List (D×D)),(e.set i (some (.dic ys)))[j]?=some (some (.dic zs))→∃ws,e[j]?=some (some (.dic ws)):=fun j zs q=>by
  by_cases z:i=j
  ·subst z;exact⟨xs,h⟩
  ·rw [List.getElem?_set_ne z] at q;exact⟨zs,q⟩
 refine⟨r.f0,fun b o z=>by rw [aB (fk b o z)];exact r.fh _ _ z,fun b o z=>by rw [aB (bk b o z)];exact r.h0 _ _ z,r.nf,fun j y q=>?_,fun j y q=>?_,fun j k as bs q hjk q1 q2 q3 q4=>?_,fun j y q=>?_,fun j k as bs q hjk q1 q2 q3 q4=>?_⟩
 ·have z:=oB (fun _ w=>by cases w) q
  rw [List.getElem?_set_ne z] at q;exact r.dv j y q
 ·have z:=bb (fun _ w=>by cases w) q
  rw [List.getElem?_set_ne z] at q
  obtain⟨p2,us,g1,g2,g3,g4,g5⟩:=r.ov j y q
  have:p2≠p:=fun w=>by subst w;rw [h2] at g2;cases g2
  exact⟨p2,us,g1,by rw [aB this];exact g2,g3,g4,g5⟩
 ·have z1:=bb (fun _ w=>by cases w) q1
  have z2:=bb (fun _ w=>by cases w) q2
  rw [List.getElem?_set_ne z1] at q1
  rw [List.getElem?_set_ne z2] at q2
  exact r.ne j k as bs q hjk q1 q2 q3 q4
 ·by_cases z:i=j
  ·subst z
   rw [List.getElem?_set_self wl] at q
   cases q
   exact⟨p,ep,us,vs,hp,aI,h3,h4,hd,hd'⟩
  ·rw [List.getElem?_set_ne z] at q
   obtain⟨p2,ep2,as,bs,g1,g2,g3,g4,g5⟩:=r.mv j y q
   have:p2≠p:=fun w=>by subst w;exact r.nm j i y xs p2 (Ne.symm z) q h g1 hp
   exact⟨p2,ep2,as,bs,g1,by rw [aB this];exact g2,g3,g4,g5⟩
 ·obtain⟨as',w1⟩:=dicAt j as q1
  obtain⟨bs',w2⟩:=dicAt k bs q2
  exact r.nm j k as' bs' q hjk w1 w2 q3 q4
def tI (kvs:List (D×D)):PySem.W.Frag→Hp→Addr→Prop:=fun K G a=>∃ep us vs,G a=some (jJ a ep (bV kvs us vs))∧ao K G (kvs.map (·.1)) us∧ao K G (kvs.map (·.2)) vs
theorem Rep.zm (r:Rep K B F H σ e) {i:Nat} {xs:List (D×D)} (h:e[i]?=some (some (.dic xs))):∃F',ar F F'∧Rep K B F' H σ (e.set i (some (.d (.obj (tI xs))))):=by
 obtain⟨p,ep,us,vs,h1,h2,h3,h4,h5,h6⟩:=r.mv i xs h
 have wl:i < e.length:=(List.getElem?_eq_some_iff.mp h).1
 have s1:ar F (upd F p (jJ p ep (bV xs us vs))):=ck h3
 refine⟨upd F p (jJ p ep (bV xs us vs)),s1,r.f0.trans s1,fun b o z=>?_,r.h0,fun q hq=>?_,fun j y q=>?_,fun j y q=>?_,fun j k as bs q hjk q1 q2 q3 q4=>?_,fun j y q=>?_,fun j k as bs q hjk q1 q2 q3 q4=>?_⟩
 ·by_cases w:b=p
  ·subst w;rw [aI] at z;cases z;exact h2
  ·rw [aB w] at z;exact r.fh _ _ z
 ·have:q≠p:=fun w=>by subst w;exact B.nb _ hq h4
  rw [aB this];exact r.nf q hq
 ·by_cases z:i=j
  ·subst z
   rw [List.getElem?_set_self wl] at q
   cases q
   refine⟨_,h1,?_⟩
   simp only [Den]
   exact⟨p,rfl,fun G sG=>⟨ep,us,vs,sG _ _ aI,ao.mono (s1.trans sG) _ _ h5,ao.mono (s1.trans sG) _ _ h6⟩⟩
  ·rw [List.getElem?_set_ne z] at q
   obtain⟨v,a,b⟩:=r.dv j y q
   exact⟨v,a,Den.mono s1 _ _ b⟩
 ·have z:=bb (fun _ w=>by cases w) q
  rw [List.getElem?_set_ne z] at q
  obtain⟨p2,us,g1,g2,g3,g4,g5⟩:=r.ov j y q
  have:p2≠p:=fun w=>by subst w;rw [h2] at g2;cases g2
  exact⟨p2,us,g1,g2,by rw [aB this];exact g3,g4,ao.mono s1 _ _ g5⟩
 ·have z1:=bb (fun _ w=>by cases w) q1
  have z2:=bb (fun _ w=>by cases w) q2
  rw [List.getElem?_set_ne z1] at q1
  rw [List.getElem?_set_ne z2] at q2
  exact r.ne j k as bs q hjk q1 q2 q3 q4
 ·have z:i≠j:=aU (fun _ w=>by cases w) q
  rw [List.getElem?_set_ne z] at q
  obtain⟨p2,ep2,as,bs,g1,g2,g3,g4,g5,g6⟩:=r.mv j y q
  have:p2≠p:=fun w=>by subst w;exact r.nm j i y xs p2 (Ne.symm z) q h g1 h1
  exact⟨p2,ep2,as,bs,g1,g2,by rw [aB this];exact g3,g4,ao.mono s1 _ _ g5,ao.mono s1 _ _ g6⟩
 ·have z1:=aU (fun _ w=>by cases w) q1
  have z2:=aU (fun _ w=>by cases w) q2
  rw [List.getElem?_set_ne z1] at q1
  rw [List.getElem?_set_ne z2] at q2
  exact r.nm j k as bs q hjk q1 q2 q3 q4
end
end L2.L3
namespace L2.L3
open PySem PySem.Spec PyProof.Rows
theorem y4 {P:Program} {w:World} {H:Hp} (h:Heap) (hb:sysModules < h.objs.size):bF P w H (h.push { cls:=.type "dict",data:=.dict #[] }) h.objs.size (jJ h.objs.size 0 []):=by
 have dh:=bA.new h
 refine⟨⟨Nat.zero_le _,beq_eq_false_iff_ne.mpr (Ne.symm (Nat.ne_of_lt hb)),#[],dh,.nil⟩,?_,?_⟩
 ·obtain⟨o,ho,_⟩:=dh;exact⟨o,ho⟩
 ·rintro h1 h2 ⟨z,hs,es,⟨o,ho,c,dd⟩,pr⟩ k
  exact⟨z,hs,es,⟨o,k _ ho,c,dd⟩,pr⟩
def Ez:TE:=fun _ H Q=>∀p,H p=none→Q (.ref p) (upd H p (jJ p 0 []))
def Hk (X:Cx) (td ty tv:TE):TS:=fun D σ H=>tv σ H fun v H1=>td σ H1 fun x H2=>ty σ H2 fun y H3=>∃p ep F kvs us vs d z,x=.ref p∧ar F H3∧cS kvs∧ao X.K F (kvs.map (·.1)) us∧ao X.K F (kvs.map (·.2)) vs∧H3 p=some (jJ p ep (bV kvs us vs)) ∧
 aY d=true∧dep d≤8∧Den X.K F d y∧Den X.K F z v∧kvs.length < sizeLine∧∀ep' us' vs',ao X.K F ((putN kvs d z).map (·.1)) us'→ao X.K F ((putN kvs d z).map (·.2)) vs'→D.nx σ (upd H3 p (jJ p ep' (bV (putN kvs d z) us' vs')))
def Hx (X:Cx) (td ty:TE):TE:=fun σ H Q=>td σ H fun x H1=>ty σ H1 fun y H2=>∃p ep F kvs us vs d z,x=.ref p∧ar F H2∧cS kvs∧ao X.K F (kvs.map (·.1)) us∧ao X.K F (kvs.map (·.2)) vs∧H2 p=some (jJ p ep (bV kvs us vs)) ∧
 aY d=true∧dep d≤8∧Den X.K F d y∧iK kvs d=some z∧∀w,Den X.K F z w→Q w H2
section
variable {X:Cx} {o i e value a b:Expr} {pos pos' tpos:Pos} {td ty tv:TE} {ta tb:TD}
theorem Bs:PE X (.Dict [] [] pos) Ez:=fun pins s σ H Q I h =>
 wpAny_Dict_empty ⟨.ref s.heap.objs.size,_,I.laid (a:=s.heap.objs.size) (o:=jJ s.heap.objs.size 0 []) (t':=s.toks) (fun _ _ q=>Heap.get?_push_of_some _ q) (Nat.le_refl _) (y4 s.heap I.big),rfl,h _ (I.hok.fresh (Nat.le_refl _))⟩
theorem Dl (hu:X.A.units + 64 < cLine) (ho:PE X o td) (hi:PE X i ty) (hv:PE X value tv) (hs:swapsWith value (some (.Subscript o i pos')) pos.line X.env=pure false) :
  PS X (.Assign [.Subscript o i pos'] value pos) (Hk X td ty tv):=by
 intro pins s σ H D I h
 refine wpAny_Assign_Subscript (bP (hv pins s σ H _ I h) fun r s1 ⟨v,H1,I1,rv,q1⟩=>bP (ho pins s1 σ H1 _ I1 q1) fun u s2 ⟨x,H2,I2,rx,q2⟩=>bP (hi pins s2 σ H2 _ I2 q2) fun iv s3 ⟨y,H3,I3,ry,p,ep,F,kvs,us,vs,d,z,ex,fh,ok,d1,d2,e,hk,hd,dd,dz,hl,q3⟩=>?_) hs
 subst ex
 obtain rfl:u=Value.ref p:=rx
 exact E2 (by omega) I3 fh ok d1 d2 e hk hd dd ry dz rv hl fun ep' us' vs' s4 e1 e2 I4=>⟨σ,_,I4,q3 ep' us' vs' e1 e2⟩
theorem Cq (hu:X.A.units + 64 < cLine) (ho:PE X a td) (hi:PE X b ty) (hs:AI b):PE X (.Subscript a b pos) (Hx X td ty):=by
 intro pins s σ H Q I h
 refine yx PySem.F.slot_dict_getitem.lookup hs (bP (ho pins s σ H _ I h) fun u s1 ⟨x,H1,I1,rx,q1⟩=>bP (hi pins s1 σ H1 _ I1 q1) fun iv s2 ⟨y,H2,I2,ry,p,ep,F,kvs,us,vs,d,z,ex,fh,ok,d1,d2,e,hk,hd,dd,hz,q2⟩=>?_)
 subst ex
 obtain rfl:u=Value.ref p:=rx
 refine⟨?_,Ae (by omega) I2 fh ok d1 d2 e hk hd dd ry hz fun w' u' s3 I3 dw rw'=>⟨w',H2,I3,rw',q2 w' dw⟩⟩
 obtain⟨_,_,es,dh,_⟩:=iV I2 e
 exact dh.typeIs
def jG (i:Nat):bC:=fun D env=>D.nx (env.set i (some (.dic [])))
theorem qI {x:Str} {pd:Pos} (i:Nat) (hN:X.N.Nodup) (hi:X.N[i]?=some x:=by rfl) (hx:Loc X.env.scope x:=by first | exact Or.inl rfl | exact Or.inr rfl) (hs:swapsWith (.Dict [] [] pd) (some (.Name x pos')) pos.line X.env=pure false:=by rfl)
  (hf:X.fn x=true∨X.env.scope.names.lookup x=some .local:=by first | exact .inl rfl | exact .inr rfl):QS X (.Assign [.Name x pos'] (.Dict [] [] pd) pos) (jG i):=by
 refine⟨fun B σ F H env D rp h pins s I=>?_⟩
 refine tY (i:=i) hN hi hx Bs hs hf pins s σ H _ I fun p hp=>?_
 exact⟨F,_,rp.ES hp (by rw [I.len];exact (List.getElem?_eq_some_iff.mp hi).1),h⟩
def a6 (i:Nat) (tk tv:TD):bC:=fun Z env=>tv env fun v=>∃kvs,env[i]?=some (some (.dic kvs))∧tk env fun k=>aY k=true∧dep k≤8∧cS kvs∧kvs.length < sizeLine∧Z.nx (env.set i (some (.dic (putN kvs k v))))
theorem cE {x:Str} {px p2:Pos} (i:Nat) (hu:X.A.units + 64 < cLine) (hb:QE X b tb) (he:QE X e ta) (hN:X.N[i]?=some x:=by rfl) (hv:xS X.env.scope x:=by first | exact Or.inl rfl | exact Or.inr (Or.inl rfl) | exact Or.inr (Or.inr rfl)) (hd:(x == ("__debug__" : Str))=false:=by decide)
  (hcd:(x == ("__classdict__" : Str))=false:=by decide) (hs:swapsWith e (some (.Subscript (.Name x px) b p2)) pos.line X.env=pure false:=by rfl):QS X (.Assign [.Subscript (.Name x px) b p2] e pos) (a6 i tb ta):=by
 refine⟨fun B σ F H env Z rp h=>?_⟩
 refine dA (Dl hu (eF hN hv hd hcd) bh bh hs) ?_
 refine aE (he B σ F H env _ rp h) fun y H1 ⟨F1,d,r1,s1,d1,kvs,hx,q1⟩=>?_
 obtain⟨p,ep,us,vs,g1,g2,g3,g4,g5,g6⟩:=r1.mv i kvs hx
 refine⟨.ref p,g1,?_⟩
 refine aE (hb B σ F1 H1 env _ r1 q1) fun z H2 ⟨F2,d2,r2,s2,dd2,hk,hdp,ok,hl,q2⟩=>?_
 obtain⟨p',ep',us',vs',e1,e2,e3,e4,e5,e6⟩:=r2.mv i kvs hx
 rw [g1] at e1;cases e1
 exact⟨p,ep',F2,kvs,us',vs',d2,d,rfl,r2.fh,ok,e5,e6,e2,hk,hdp,dd2,Den.mono s2 _ _ d1,hl,fun ep2 as bs f1 f2=>⟨F2,_,r2.yX ep2 hx g1 f1 f2,q2⟩⟩
def lF (i:Nat) (tk:TD):TD:=fun env Q=>∃kvs,env[i]?=some (some (.dic kvs))∧tk env fun k=>∃v,aY k=true∧dep k≤8∧cS kvs∧iK kvs k=some v∧Q v
theorem Ab {x:Str} {px:Pos} (i:Nat) (hu:X.A.units + 64 < cLine) (hb:QE X b tb) (hs:AI b) (hN:X.N[i]?=some x:=by rfl) (hv:xS X.env.scope x:=by first | exact Or.inl rfl | exact Or.inr (Or.inl rfl) | exact Or.inr (Or.inr rfl)) (hd:(x == ("__debug__" : Str))=false:=by decide)
  (hcd:(x == ("__classdict__" : Str))=false:=by decide):QE X (.Subscript (.Name x px) b pos) (lF i tb):=by
 refine⟨fun B σ F H env Q rp h=>?_⟩
 refine bD (Cq hu (eF hN hv hd hcd) bh hs) ?_
 obtain⟨kvs,hx,h⟩:=h
 obtain⟨p,ep,us,vs,g1,g2,g3,g4,g5,g6⟩:=rp.mv i kvs hx
 refine⟨.ref p,g1,?_⟩
 refine aE (hb B σ F H env _ rp h) fun z H2 ⟨F2,d2,r2,s2,dd2,v,hk,hdp,ok,hl,q2⟩=>?_
 obtain⟨p',ep',us',vs',e1,e2,e3,e4,e5,e6⟩:=r2.mv i kvs hx
 rw [g1] at e1;cases e1
 exact⟨p,ep',F2,kvs,us',vs',d2,v,rfl,r2.fh,ok,e5,e6,e2,hk,hdp,dd2,hl,fun w dw=>⟨F2,v,r2,s2,dw,q2⟩⟩
def JX (x y:D) (Q:D→Prop):Prop:=∃kvs v,x=.obj (tI kvs)∧aY y=true∧dep y≤8∧cS kvs∧iK kvs y=some v∧Q v
def dU (i:Nat) (t:bC):bC:=fun D env=>∃xs,env[i]?=some (some (.dic xs))∧t D (env.set i (some (.d (.obj (tI xs)))))
theorem oZ {st:Stmt} {t:bC} (i:Nat) (h:QS X st t):QS X st (dU i t):=by
 refine⟨fun B σ F H env D rp hq=>?_⟩
 obtain⟨xs,hx,q⟩:=hq
 obtain⟨F',s',r'⟩:=rp.zm hx
 exact h B σ F' H _ D r' q
end
end L2.L3
namespace L2.L3
open PySem PySem.Spec PyProof.Rows
section
variable {prog:Program} {w:World} {A:Around} {E:Value→Shared→Prop} {s:Shared}
theorem Ak {d:Addr} {es:Array DictEntry} {ep:Nat} {Q:Value→Shared→Prop} (hd:(d == sysModules)=false) (x:bA s.heap d es ep)
  (hQ:Q (.ref s.heap.objs.size) { s with heap:=s.heap.push { cls:=.type "dict_keyiterator",data:=.fields #[.ref d,.int 0 0,.int es.size 0,.int ep 0] } }) :
  wpAny (model prog w) A (pyIter (.ref d)) Q E s:=by
 have hT:s.TypeIs (.ref d) "dict":=x.typeIs
 obtain⟨o,ho,hc,hdat⟩:=x
 refine wpAny_pyIter_slot hT PySem.F.slot_dict_iter (wpAny_call_entry PySem.F.slot_dict_iter hT PySem.F.entry_dict_iter ?_ (PySem.F.args_dict_iter_1 _))
 unfold Builtin.«dict.__iter__»
 refine wpAny_bind ?_
 unfold Builtin.Dict.dictSlotNone
 refine wpAny_bind (wpAny_notOrdered_dict hT ?_)
 show wpAny _ _ (pure (Value.ref d)) _ _ s
 refine wpAny_pure ?_
 show wpAny _ _ (Builtin.Dict.showsAll d >>= _) _ _ s
 unfold Builtin.Dict.showsAll
 rw [if_neg (by rw [hd];exact Bool.false_ne_true)]
 refine wpAny_bind (wpAny_pure ?_)
 refine wpAny_bind (wpAny_dictEntries ho hdat ?_)
 refine wpAny_bind (wpAny_dictEpoch ho hdat ?_)
 refine wpAny_bind (wpAny_newObj_type (wpAny_pure ⟨_,rfl,"dict_keyiterator",_,⟨_,Heap.get?_push_size _ rfl,rfl⟩,PySem.F.slot_dict_keyiterator_next.lookup,?_⟩))
 simpa [rawInt] using hQ
theorem B4 {it d:Addr} {i ep:Nat} {es:Array DictEntry} {Q:Option Value→Shared→Prop} (hit:s.heap.IsKeyIter it d i es.size ep) (x:bA s.heap d es ep) (hlt':i < es.size)
  (hQ:∀h',h'.IsKeyIter it d (i + 1) es.size ep→Heap.SameBut it s.heap h'→Q (some es[i].key) { s with heap:=h' }) :
  wpAny (model prog w) A (pyNext (.ref it)) Q E s:=by
 obtain⟨o,ho,hc,hd⟩:=id hit
 obtain⟨od,hod,hcd,hdd⟩:=id x
 unfold pyNext
 refine wpAny_bind (wpAny_attempt (wpAny_callSpecial?_slot (name:=Str.ofString "__next__") hit.typeIs PySem.F.slot_dict_keyiterator_next
  (wpAny_call_entry PySem.F.slot_dict_keyiterator_next hit.typeIs PySem.F.entry_dict_keyiterator_next ?_ (PySem.F.args_dict_keyiterator_next_1 _))))
 refine wpAny_bind (wpAny_pure ?_)
 refine wpAny_bind ?_
 refine wpAny_bind ?_
 first | refine wpAny_bind (wpAny_typeNameOfWhole_keyiter hit.typeIs (wpAny_pure ?_)) | refine wpAny_bind (wpAny_typeNameOf_keyiter hit.typeIs (wpAny_pure ?_))
 refine wpAny_bind (wpAny_fieldsOf ho hd ?_)
 have hown:Builtin.Dict_items.ownsTuple "dict_keyiterator" = false:=by decide
 simp only [hown,Bool.false_eq_true,if_false]
 show wpAny _ _ (if (Value.ref d == Value.none)=true then _ else _) _ _ s
 rw [if_neg (show ¬ ((Value.ref d == Value.none)=true) from Bool.false_ne_true)]
 refine wpAny_bind (wpAny_pure ?_)
 refine wpAny_bind (wpAny_dictEntries hod hdd ?_)
 rw [if_neg (by simp)]
 refine wpAny_bind (wpAny_pure ?_)
 refine wpAny_bind (wpAny_dictEpoch hod hdd ?_)
 rw [if_neg (by simp)]
 refine wpAny_pure ?_
 simp only [show ¬ ((i:Int) < 0) from by omega,if_false,Int.toNat_natCast,Array.getElem?_eq_getElem hlt']
 refine wpAny_bind ?_
 first | refine wpAny_bind (wpAny_typeNameOfWhole_keyiter hit.typeIs (wpAny_pure ?_)) | refine wpAny_bind (wpAny_typeNameOf_keyiter hit.typeIs (wpAny_pure ?_))
 refine wpAny_bind (wpAny_isOneOf_keyiter hit.typeIs ?_)
 show wpAny _ _ (setField (.ref it) 1 (rawInt ((i:Int) + 1)) >>= _) _ _ s
 refine wpAny_bind (wpAny_setField ho hd (by simp) ?_)
 have hit':(s.heap.update it (Obj.mapFields (·.setIfInBounds 1 (rawInt ((i:Int) + 1))))).IsKeyIter it d (i + 1) es.size ep :=
  ⟨_,Heap.get?_update_self _ ho (Obj.isFreed_of_fields (Obj.data_mapFields hd _)),(Obj.cls_mapFields ..).trans hc,by rw [Obj.data_mapFields hd];simp [rawInt]⟩
 refine wpAny_bind (wpAny_holding ?_)
 refine wpAny_bind (wpAny_isOneOf_keyiter (s:={ s with heap:=s.heap.update it (Obj.mapFields (·.setIfInBounds 1 (rawInt ((i:Int) + 1)))) }) hit'.typeIs ?_)
 show wpAny _ _ (pure es[i].key) _ _ _
 exact wpAny_pure (wpAny_pure ⟨_,rfl,wpAny_pure (hQ _ hit' (Heap.SameBut.update ..))⟩)
theorem CU {it d:Addr} {i ep:Nat} {es:Array DictEntry} {Q:Option Value→Shared→Prop} (hh:A.handled=none) (hit:s.heap.IsKeyIter it d i es.size ep) (x:bA s.heap d es ep) (hge:es.size≤i)
  (hQ:∀h',Heap.ExtBut it s.heap h'→Q none { s with heap:=h' }):wpAny (model prog w) A (pyNext (.ref it)) Q E s:=by
 obtain⟨o,ho,hc,hd⟩:=id hit
 obtain⟨od,hod,hcd,hdd⟩:=id x
 unfold pyNext
 refine wpAny_bind (wpAny_attempt (wpAny_callSpecial?_slot (name:=Str.ofString "__next__") hit.typeIs PySem.F.slot_dict_keyiterator_next
  (wpAny_call_entry PySem.F.slot_dict_keyiterator_next hit.typeIs PySem.F.entry_dict_keyiterator_next ?_ (PySem.F.args_dict_keyiterator_next_1 _))))
 refine wpAny_bind (wpAny_pure ?_)
 refine wpAny_bind ?_
 refine wpAny_bind ?_
 first | refine wpAny_bind (wpAny_typeNameOfWhole_keyiter hit.typeIs (wpAny_pure ?_)) | refine wpAny_bind (wpAny_typeNameOf_keyiter hit.typeIs (wpAny_pure ?_))
 refine wpAny_bind (wpAny_fieldsOf ho hd ?_)
 have hown:Builtin.Dict_items.ownsTuple "dict_keyiterator" = false:=by decide
 simp only [hown,Bool.false_eq_true,if_false]
 show wpAny _ _ (if (Value.ref d == Value.none)=true then _ else _) _ _ s
 rw [if_neg (show ¬ ((Value.ref d == Value.none)=true) from Bool.false_ne_true)]
 refine wpAny_bind (wpAny_pure ?_)
 refine wpAny_bind (wpAny_dictEntries hod hdd ?_)
 rw [if_neg (by simp)]
 refine wpAny_bind (wpAny_pure ?_)
 refine wpAny_bind (wpAny_dictEpoch hod hdd ?_)
 rw [if_neg (by simp)]
 refine wpAny_pure ?_
 simp only [show ¬ ((i:Int) < 0) from by omega,if_false,Int.toNat_natCast,Array.getElem?_eq_none hge]
 refine wpAny_bind ?_
 first | refine wpAny_bind (wpAny_typeNameOfWhole_keyiter hit.typeIs (wpAny_pure ?_)) | refine wpAny_bind (wpAny_typeNameOf_keyiter hit.typeIs (wpAny_pure ?_))
 show wpAny _ _ (setField (.ref it) 0 .none >>= _) _ _ s
 refine wpAny_bind (wpAny_setField ho hd (by simp) ?_)
 show wpAny _ _ (newExc (.type "StopIteration") [] >>= _) _ _ _
 refine wpAny_bind ?_
 simp only [newExc,newTuple]
 refine wpAny_bind (wpAny_newObj_type ?_ (by size_fits))
 refine wpAny_bind (m:=firstArgMember _ _) (wpAny_of_eq (a:=Value.none) (by first | rfl | (simp only [firstArgMember];rfl)) ?_)
 refine wpAny_newObj_type ?_ (by size_fits)
 simp only [raiseNew]
 refine wpAny_bind (wpAny_handled ?_)
 rw [show A.in1.handled=none from hh]
 refine wpAny_bind (wpAny_pure (wpAny_throw ?_))
 refine wpAny_bind (wpAny_isInstance (T:="StopIteration") (b:=true) ⟨_,Heap.get?_push_size _ rfl,rfl⟩ isSubtype_stop ?_)
 exact wpAny_pure (hQ _ (((Heap.SameBut.update ..).extBut.push _).push _))
end
def JL (p:Addr) (ep:Nat) (rows:List (Int×V×V)):It :=
 ⟨fun i H=>H p=some (jJ p ep rows)∧i < rows.length,fun i H x H'=>H'=H∧∃row,rows[i]?=some row∧x=row.2.1,fun i H=>H p=some (jJ p ep rows)∧rows.length≤i⟩
theorem Ai {P:Program} {w:World} {K:PySem.W.Frag} {tg:Expr} (p it:Addr) (ep:Nat) (rows:List (Int×V×V)):Turn P w K tg (JL p ep rows) [it] it (fun i h=>h.IsKeyIter it p i rows.length ep) where
 mem:=by simp
 obj:=fun i h st b hb=>by
  have e:b=it:=by simpa using hb
  subst e
  obtain⟨o,e,c,d⟩:=st
  exact⟨o,e,fun v z=>by rw [d] at z;cases z⟩
 keep:=fun i h h' st k=>let ⟨o,e,c,d⟩:=st;⟨o,k it (by simp) o e,c,d⟩
 item:=by
  intro X hP hw hK hc i pins s σ H E I hf st hg
  subst hP hw hK
  obtain⟨e,hlt⟩:=hg
  obtain⟨hz,hs,es,dh,pr⟩:=iV I e
  have lp:rows.length=es.size:=by simpa using Paired.length pr
  have hlt':i < es.size:=by omega
  obtain⟨row,hr,e1,e2,e3⟩:=gJ pr (y:=es[i]) (i:=i) (by simp [hlt'])
  obtain⟨f0,f1,f2,f3,f4,f5⟩:=hf it (by simp)
  rw [lp] at st
  refine B4 st dh hlt' fun h' st' sb=>?_
  have I1:Inv X pins σ H { s with heap:=h' }:=I.turned (t':=s.toks) (fun b o hb e=>(sb.2 b hb).trans e) f0 f1 f3 f4 f5
  obtain⟨o,eo,c,d⟩:=id st'
  rw [← lp] at st'
  exact⟨_,rfl,vD (s:={ s with heap:=h' }) eo c d (by decide) ⟨row.2.1,H,I1,e2,⟨rfl,row,hr,rfl⟩,st',fun b hb=>(hf b hb).1⟩⟩
 done:=by
  intro X hP hw hK hc i pins s σ H E I hf st hg
  subst hP hw hK
  obtain⟨e,hge⟩:=hg
  obtain⟨hz,hs,es,dh,pr⟩:=iV I e
  have lp:rows.length=es.size:=by simpa using Paired.length pr
  obtain⟨f0,f1,f2,f3,f4,f5⟩:=hf it (by simp)
  rw [lp] at st
  exact CU (I.ok.hd hc) st dh (by omega) fun h' eb=>⟨rfl,I.turned (t':=s.toks) (fun b o hb e=>eb b o hb e) f0 f1 f3 f4 f5⟩
 self:=fun _ _ _ _ _ st h=>wpAny_pyIter_keyiter st h
def IY (tl:TE):TI:=fun σ H R=>tl σ H fun x H1=>∃p ep rows,x=.ref p∧H1 p=some (jJ p ep rows)∧R (JL p ep rows) H1
section
variable {X:Cx} {tg:Expr}
theorem EX {l:Expr} {tl:TE} (hl:PE X l tl):PI X tg l (IY tl):=by
 intro pins s σ H R I h
 refine bP (hl pins s σ H _ I h) fun v s1 ⟨x,H1,I1,r1,q1⟩=>?_
 obtain⟨p,ep,rows,e,hp,q⟩:=q1
 subst e
 cases r1
 obtain⟨hz,hs,es,dh,pr⟩:=iV I1 hp
 have lp:rows.length=es.size:=by simpa using Paired.length pr
 refine Ak hs dh ?_
 refine⟨s1.heap.objs.size,[s1.heap.objs.size],_,_,H1,rfl,I1.kept (t':=s1.toks) fun b o e=>Heap.get?_push_of_some _ e,Ai p _ ep rows,⟨_,Heap.get?_push_size _ rfl,rfl,by rw [lp];rfl⟩,fun b hb=>?_,q⟩
 have e:b=s1.heap.objs.size:=by simpa using hb
 subst e
 exact I1.zh (Nat.le_refl _) (I1.hok.fresh (Nat.le_refl _))
end
section
variable {K:PySem.W.Frag} {B:Base} {F H:Hp} {σ:St} {e:En}
def GD (x:Addr):PySem.W.Frag→Hp→Addr→Prop:=fun _ _ a=>a=x
theorem zE {i:Nat} {a:Addr} (r:Rep K B F H σ e) (h:e[i]?=some (some (.d (.obj (GD a))))):σ[i]?=some (some (.ref a)):=by
 obtain⟨v,h1,h2⟩:=r.dv i _ h
 simp only [Den] at h2
 obtain⟨b,rfl,h3⟩:=h2
 have:b=a:=h3 F (ar.refl _)
 rw [this] at h1;exact h1
theorem Rep.Cf (r:Rep K B F H σ e) {i:Nat} {kvs:List (D×D)} (h:e[i]?=some (some (.dic kvs))) :
  ∃p ep us vs,σ[i]?=some (some (.ref p))∧H p=some (jJ p ep (bV kvs us vs))∧B.H p=none∧ao K F (kvs.map (·.1)) us∧ao K F (kvs.map (·.2)) vs∧Rep K (B.guard p (jJ p ep (bV kvs us vs))) F H σ (e.set i (some (.d (.obj (GD p))))):=by
 obtain⟨p,ep,us,vs,h1,h2,h3,h4,h5,h6⟩:=r.mv i kvs h
 have wl:i < e.length:=(List.getElem?_eq_some_iff.mp h).1
 refine⟨p,ep,us,vs,h1,h2,h4,h5,h6,r.f0,r.fh,fun b u q=>?_,fun a q=>?_,fun j y q=>?_,fun j y q=>?_,fun j k as bs q hjk q1 q2 q3 q4=>?_,fun j y q=>?_,fun j k as bs q hjk q1 q2 q3 q4=>?_⟩
 ·have q':upd B.H p (jJ p ep (bV kvs us vs)) b=some u:=q
  by_cases z:b=p
  ·subst z;rw [aI] at q';cases q';exact h2
  ·rw [aB z] at q';exact r.h0 _ _ q'
 ·rcases q with rfl | q
  ·exact h3
  ·exact r.nf a q
 ·by_cases z:i=j
  ·subst z
   rw [List.getElem?_set_self wl] at q
   cases q
   refine⟨_,h1,?_⟩
   simp only [Den]
   exact⟨p,rfl,fun _ _=>rfl⟩
  ·rw [List.getElem?_set_ne z] at q
   exact r.dv j y q
 ·have z:=bb (fun _ w=>by cases w) q
  rw [List.getElem?_set_ne z] at q
  obtain⟨p2,us2,g1,g2,g3,g4,g5⟩:=r.ov j y q
  have:p2≠p:=fun w=>by subst w;rw [h2] at g2;cases g2
  exact⟨p2,us2,g1,g2,g3,by show upd B.H p _ p2=none;rw [aB this];exact g4,g5⟩
 ·have z1:=bb (fun _ w=>by cases w) q1
  have z2:=bb (fun _ w=>by cases w) q2
  rw [List.getElem?_set_ne z1] at q1
  rw [List.getElem?_set_ne z2] at q2
  exact r.ne j k as bs q hjk q1 q2 q3 q4
 ·have z:i≠j:=aU (fun _ w=>by cases w) q
  rw [List.getElem?_set_ne z] at q
  obtain⟨p2,ep2,as,bs,g1,g2,g3,g4,g5,g6⟩:=r.mv j y q
  have:p2≠p:=fun w=>by subst w;exact r.nm j i y kvs p2 (Ne.symm z) q h g1 h1
  exact⟨p2,ep2,as,bs,g1,g2,g3,by show upd B.H p _ p2=none;rw [aB this];exact g4,g5,g6⟩
 ·have z1:=aU (fun _ w=>by cases w) q1
  have z2:=aU (fun _ w=>by cases w) q2
  rw [List.getElem?_set_ne z1] at q1
  rw [List.getElem?_set_ne z2] at q2
  exact r.nm j k as bs q hjk q1 q2 q3 q4
theorem Rep.wQ {p:Addr} {ep:Nat} {us vs:List V} {i:Nat} {kvs:List (D×D)} (r:Rep K (B.guard p (jJ p ep (bV kvs us vs))) F H σ e) (hb:B.H p=none) (h:e[i]?=some (some (.d (.obj (GD p))))) (h5:ao K F (kvs.map (·.1)) us) (h6:ao K F (kvs.map (·.2)) vs) :
  Rep K B F H σ (e.set i (some (.dic kvs))):=by
 have wl:i < e.length:=(List.getElem?_eq_some_iff.mp h).1
 have hs:=zE r h
 obtain⟨r',hp,hf⟩:=r.sa hb
 have oth:∀(j:Nat) (ys:List (D×D)),e[j]?=some (some (.dic ys))→σ[j]?≠some (some (.ref p)):=fun j ys q z=>by
  obtain⟨q1,_,_,_,h1,_,_,h4,_⟩:=r.mv j ys q
  rw [z] at h1;cases h1
  have h4':upd B.H p (jJ p ep (bV kvs us vs)) p=none:=h4
  rw [aI] at h4';cases h4'
 refine⟨r'.f0,r'.fh,r'.h0,r'.nf,fun j y q=>?_,fun j y q=>?_,fun j k as bs q hjk q1 q2 q3 q4=>?_,fun j y q=>?_,fun j k as bs q hjk q1 q2 q3 q4=>?_⟩
 ·have z:=oB (fun _ w=>by cases w) q
  rw [List.getElem?_set_ne z] at q;exact r'.dv j y q
 ·have z:=bb (fun _ w=>by cases w) q
  rw [List.getElem?_set_ne z] at q;exact r'.ov j y q
 ·have z1:=bb (fun _ w=>by cases w) q1
  have z2:=bb (fun _ w=>by cases w) q2
  rw [List.getElem?_set_ne z1] at q1
  rw [List.getElem?_set_ne z2] at q2
  exact r'.ne j k as bs q hjk q1 q2 q3 q4
 ·by_cases z:i=j
  ·subst z
   rw [List.getElem?_set_self wl] at q
   cases q
   exact⟨p,ep,us,vs,hs,hp,hf,hb,h5,h6⟩
  ·rw [List.getElem?_set_ne z] at q;exact r'.mv j y q
 ·by_cases z1:i=j
  ·subst z1
   rw [List.getElem?_set_ne hjk] at q2
   rw [hs] at q3;cases q3
   exact oth k bs q2 q4
  ·rw [List.getElem?_set_ne z1] at q1
   by_cases z2:i=k
   ·subst z2
    rw [hs] at q4;cases q4
    exact oth j as q1 q3
   ·rw [List.getElem?_set_ne z2] at q2
    exact r'.nm j k as bs q hjk q1 q2 q3 q4
end
end L2.L3
namespace L2.L3
open PySem PySem.Spec PyProof.Rows
section
variable {X:Cx} {a b:Expr} {ta tb:TD} {pos:Pos} {t:bC}
def nD (i:Nat) (g:pS) (t:bC):bC:=fun Z env=>∃kvs,env[i]?=some (some (.dic kvs))∧∀p,turns g t { Z with nx:=fun e=>e[i]?=some (some (.d (.obj (GD p))))∧Z.nx (e.set i (some (.dic kvs))) } (kvs.map (·.1)) (env.set i (some (.d (.obj (GD p)))))
theorem y9 {x:Str} {px:Pos} {tg:Expr} {body:List Stmt} {g:pS} (i:Nat) (hp:PassesOwn (model X.prog X.w) X.A X.env X.xe) (hc:X.calm=true) (hg:QG X tg g) (hb:mI X body t) (hN:X.N[i]?=some x:=by rfl) (hv:xS X.env.scope x:=by first | exact Or.inl rfl | exact Or.inr (Or.inl rfl) | exact Or.inr (Or.inr rfl)) (hd:(x == ("__debug__" : Str))=false:=by decide)
  (hcd:(x == ("__classdict__" : Str))=false:=by decide) (hs:∀z,foldedSetIterable (.Name x px) X.env z=pure z:=by intro _;rfl):QS X (.For tg (.Name x px) body [] pos) (nD i g t):=by
 refine⟨fun B σ F H env Z rp h=>dA (pw hp hc (EX (eF hN hv hd hcd)) wR d9 hs) ?_⟩
 obtain⟨kvs,hx,h⟩:=h
 obtain⟨p,ep,us,vs,h1,h2,h4,h5,h6,r0⟩:=rp.Cf hx
 refine⟨.ref p,h1,p,ep,bV kvs us vs,rfl,h2,?_⟩
 have q1:=h p
 generalize hB:B.guard p (jJ p ep (bV kvs us vs))=B' at r0
 generalize hD:({ Z with nx:=fun e=>e[i]?=some (some (.d (.obj (GD p))))∧Z.nx (e.set i (some (.dic kvs))) }:Ends3)=Z' at q1
 have hBp:B'.H p=some (jJ p ep (bV kvs us vs)):=by rw [← hB];exact aI
 have fnx:∀σ2 H2,(RS X B' Z').nx σ2 H2→ar F F→(∃F' env',Rep X.K B' F' H2 σ2 env'∧ar F F'∧Z'.nx env')→(RS X B Z).nx σ2 H2:=by
  rintro σ2 H2 _ _ ⟨F',env',r',s',q'⟩
  rw [← hD] at q'
  rw [← hB] at r'
  exact⟨F',_,r'.wQ h4 q'.1 (ao.mono s' _ _ h5) (ao.mono s' _ _ h6),q'.2⟩
 have frt:∀v H2,(RS X ⟨F,B'.H,B'.N,B'.nb⟩ Z').rt v H2→(RS X B Z).rt v H2:=by
  rintro v H2 ⟨F',d,r',hd',q'⟩
  have r2:=Rep.back (B:=B') r0.f0 r'
  rw [← hB] at r2
  rw [← hD] at q'
  exact⟨F',d,(r2.sa h4).1,hd',q'⟩
 have fin:∀σ2 H2,(∃F' env',Rep X.K ⟨F,B'.H,B'.N,B'.nb⟩ F' H2 σ2 env'∧Z'.nx env')→(RS X B Z).nx σ2 H2:=by
  rintro σ2 H2 ⟨F',env',r',q'⟩
  have r2:=Rep.back (B:=B') r0.f0 r'
  exact fnx σ2 H2 ⟨F',env',r2,q'⟩ (ar.refl _) ⟨F',env',r2,r'.f0,q'⟩
 have hl:(bV kvs us vs).length=(kvs.map (·.1)).length:=by rw [dI h5 h6,List.length_map]
 generalize hxs:kvs.map (·.1)=xs at q1 h5 hl
 refine⟨fun i m σ H=>m=xs.length - i∧i≤xs.length∧∃F2 env,Rep X.K ⟨F,B'.H,B'.N,B'.nb⟩ F2 H σ env∧turns g t Z' (xs.drop i) env,⟨xs.length,by simp,Nat.zero_le _,F,_,r0.now,by simpa using q1⟩,?_⟩
 rintro j m σ2 H2 ⟨rfl,hi2,F2,env2,r2,q2⟩
 have hcell:H2 p=some (jJ p ep (bV kvs us vs)):=r2.h0 _ _ hBp
 by_cases hlt:j < xs.length
 ·have hxi:xs[j]?=some xs[j]:=by simp [hlt]
  rw [drop_cons hxi] at q2
  refine .inr ⟨⟨hcell,by omega⟩,fun σ' H'=>∃F3 env,Rep X.K ⟨F,B'.H,B'.N,B'.nb⟩ F3 H' σ' env∧turns g t Z' (xs.drop (j + 1)) env,fun σ' H' ⟨F',env',r',q'⟩=>⟨xs.length - (j + 1),by omega,rfl,by omega,F',env',r',q'⟩,fun z H' hz=>?_⟩
  obtain⟨rfl,row,hr,rfl⟩:=hz
  obtain⟨kv,k1,k2,k3,k4⟩:=jn hr
  obtain⟨v,hv',dv'⟩:=h5.get hxi
  rw [k3] at hv';cases hv'
  refine ik (hg _ σ2 F2 _ env2 _ _ _ r2 (Den.mono r2.f0 _ _ dv') q2) fun σ3 H3 ⟨F3,env3,r3,s3,q3⟩=>?_
  exact fR (hb _ σ3 F3 H3 env3 _ r3 q3) (fun _ _ q=>q) (fun v H q=>frt v H q) (fun v H q=>fin v H q) (fun _ _ q=>q)
 ·have e:j=xs.length:=by omega
  subst e
  rw [List.drop_eq_nil_of_le (Nat.le_refl _)] at q2
  exact .inl ⟨⟨hcell,by omega⟩,fin _ _ ⟨F2,env2,r2,q2⟩⟩
def Hf (neg:Bool) (y x:D) (Q:D→Prop):Prop:=∃kvs,x=.obj (tI kvs)∧aY y=true∧dep y≤8∧cS kvs∧Q (.bl (if neg then !(kvs.any fun kv=>ba kv.1 y) else kvs.any fun kv=>ba kv.1 y))
def Ik (X:Cx) (neg:Bool):R2:=fun y x H Q=>∃p ep F kvs us vs d,x=.ref p∧ar F H∧cS kvs∧ao X.K F (kvs.map (·.1)) us∧ao X.K F (kvs.map (·.2)) vs∧H p=some (jJ p ep (bV kvs us vs)) ∧
 aY d=true∧dep d≤8∧Den X.K F d y∧Q (.bl (if neg then !(kvs.any fun kv=>ba kv.1 d) else kvs.any fun kv=>ba kv.1 d)) H
theorem DJ (hu:X.A.units + 64 < cLine):gT X (compareOp .NotIn) (Ik X true):=by
 intro pins s σ H x y v u Q I rx ry h
 obtain⟨p,ep,F,kvs,us,vs,d,rfl,fh,ok,d1,d2,e,hk,hd,dd,h⟩:=h
 cases ry
 show wpAny _ _ ((do return Value.bool (!(← contains (.ref p) v))):Sem Value) _ _ s
 exact wpAny_bind (HC (by omega) I fh ok d1 d2 e hk hd dd rx fun s' I'=>wpAny_pure ⟨.bl _,H,I',rfl,h⟩)
theorem FK (neg:Bool):p8 X (Ik X neg) (Hf neg):=by
 intro B σ F H env Q d d' x y Z rp h1 h2 hz hf
 obtain⟨kvs,rfl,hk,hd,ok,q⟩:=hf
 simp only [Den] at h2
 obtain⟨p,rfl,hp⟩:=h2
 obtain⟨ep,us,vs,hg,g1,g2⟩:=hp F (ar.refl _)
 exact⟨p,ep,F,kvs,us,vs,d,rfl,rp.fh,ok,g1,g2,rp.fh _ _ hg,hk,hd,h1,hz _ H F _ rp (ar.refl _) dg q⟩
theorem GG (hu:X.A.units + 64 < cLine) (ha:QE X a ta) (hb:QE X b tb) (hm:behindInMarks .NotIn b=false:=by rfl):QT X (.Compare a [.NotIn] [b] pos) (aM (aC (Hf true) ta tb)):=gE (DJ hu) (FK true) ha hb hm
end
theorem cS.nil:cS []:=⟨fun _ h=>absurd h List.not_mem_nil,fun i j x y h=>by simp at h⟩
theorem Ds {a b:D} (ha:aY a=true) (hb:aY b=true):ba a b=true↔a=b:=⟨fun h=>cO a b ha h hb,fun h=>h▸fH a ha⟩
theorem cS.put {kvs:List (D×D)} {k v:D} (h:cS kvs) (hk:aY k=true) (hd:dep k≤8):cS (putN kvs k v):=by
 unfold putN
 by_cases c:(kvs.any fun kv=>ba kv.1 k)=true
 ·rw [if_pos c]
  refine⟨fun kv m=>?_,fun i j x y hx hy e=>?_⟩
  ·obtain⟨kw,m',rfl⟩:=List.mem_map.mp m
   split
   ·exact h.key kw m'
   ·exact h.key kw m'
  ·rw [List.getElem?_map] at hx hy
   obtain⟨x',hx',rfl⟩:=Option.map_eq_some_iff.mp hx
   obtain⟨y',hy',rfl⟩:=Option.map_eq_some_iff.mp hy
   refine h.dif i j x' y' hx' hy' ?_
   split at e <;> split at e <;> exact e
 ·rw [if_neg c]
  have no:∀(i:Nat) (x:D×D),kvs[i]?=some x→x.1≠k:=fun i x hx e=>c (List.any_eq_true.mpr ⟨x,List.mem_of_getElem? hx,by rw [e];exact fH k hk⟩)
  refine⟨fun kv m=>?_,fun i j x y hx hy e=>?_⟩
  ·rcases List.mem_append.mp m with m | m
   ·exact h.key kv m
   ·rw [List.mem_singleton] at m;subst m;exact⟨hk,hd⟩
  ·have at_:∀(i:Nat) (x:D×D),(kvs ++ [(k,v)])[i]?=some x→kvs[i]?=some x∨(i=kvs.length∧x.1=k):=fun i x hx=>by
    by_cases l:i < kvs.length
    ·rw [List.getElem?_append_left l] at hx;exact .inl hx
    ·have:=(List.getElem?_eq_some_iff.mp hx).1
     have e:i=kvs.length:=by simp at this;omega
     subst e
     rw [List.getElem?_append_right (Nat.le_refl _),Nat.sub_self] at hx
     cases hx
     exact .inr ⟨rfl,rfl⟩
   rcases at_ i x hx with a | ⟨a,a'⟩ <;> rcases at_ j y hy with b | ⟨b,b'⟩
   ·exact h.dif i j x y a b e
   ·exact absurd (e.trans b') (no i x a)
   ·exact absurd (e.symm.trans a') (no j y b)
   ·omega
theorem Bk {kvs:List (D×D)} {k k' v:D} (h:cS kvs) (hk:aY k=true) (hk':aY k'=true):iK (putN kvs k v) k'=if ba k k'=true then some v else iK kvs k':=by
 have find:∀(l:List (D×D)),(∀kv∈l,aY kv.1=true)→iK (l.map (fun kv=>if ba kv.1 k=true then (kv.1,v) else kv)) k'=if ba k k'=true∧(l.any fun kv=>ba kv.1 k)=true then some v else iK l k':=fun l=>by
  induction l with
  | nil=>intro _;simp [iK]
  | cons x r ih =>
   intro hl
   have ih':=ih fun kv m=>hl kv (List.mem_cons_of_mem _ m)
   have hx:=hl x (List.mem_cons_self ..)
   unfold iK at ih' ⊢
   rw [List.map_cons,List.find?_cons,List.find?_cons]
   by_cases c1:ba x.1 k=true
   ·rw [if_pos c1]
    have e:=cO _ _ hx c1 hk
    by_cases c2:ba x.1 k'=true
    ·simp only [c2,Option.map_some]
     rw [if_pos ⟨e▸c2,by rw [List.any_cons,c1];rfl⟩]
    ·have c3:¬ ba k k'=true:=fun q=>c2 (e▸q)
     simp only [c2]
     rw [ih',if_neg (fun q=>c3 q.1),if_neg (fun q=>c3 q.1)]
   ·rw [if_neg c1]
    by_cases c2:ba x.1 k'=true
    ·have c3:¬ ba k k'=true:=fun q=>c1 (by
      have e1:=cO _ _ hx c2 hk'
      have e2:=cO _ _ hk q hk'
      rw [e1,← e2];exact fH k hk)
     simp only [c2,Option.map_some]
     rw [if_neg (fun q=>c3 q.1)]
    ·simp only [c2]
     rw [ih',List.any_cons]
     have:ba x.1 k=false:=by simpa using c1
     rw [this,Bool.false_or]
 unfold putN
 by_cases c:(kvs.any fun kv=>ba kv.1 k)=true
 ·rw [if_pos c,find kvs fun kv m=>(h.key kv m).1]
  simp only [c,and_true]
 ·rw [if_neg c]
  unfold iK
  rw [List.find?_append]
  by_cases c2:ba k k'=true
  ·rw [if_pos c2]
   have none:kvs.find? (fun kv=>ba kv.1 k')=none:=by
    rw [List.find?_eq_none]
    intro kv m q
    refine c (List.any_eq_true.mpr ⟨kv,m,?_⟩)
    have e1:=cO _ _ (h.key kv m).1 q hk'
    have e2:=cO _ _ hk c2 hk'
    rw [e1,← e2];exact fH k hk
   rw [none]
   simp [c2]
  ·rw [if_neg c2]
   cases kvs.find? (fun kv=>ba kv.1 k') with
   | some z=>rfl
   | none=>simp [c2]
theorem BZ {kvs:List (D×D)} {k:D}:(kvs.any fun kv=>ba kv.1 k)=(iK kvs k).isSome:=by
 unfold iK
 rw [Option.isSome_map,Bool.eq_iff_iff,List.find?_isSome,List.any_eq_true]
theorem cX {kvs:List (D×D)} {k v:D}:(putN kvs k v).length≤kvs.length + 1:=by
 unfold putN
 split
 ·simp
 ·simp
end L2.L3
namespace L2.L3
open PySem PySem.Spec PyProof.Rows
section
variable {X:Cx} {a e o:Expr} {ta te to:TD} {pos apos cpos:Pos}
def JH (X:Cx) (neg:Bool):R2:=fun x y H Q=>∃(F:Hp) (d:D) (ds:List D) (vs:List V) (p:Addr),ar F H∧Den X.K F d x∧y=.ref p∧fz X.K H p vs∧ao X.K F ds vs∧X.A.units + 64 < cLine∧cy ds≤60∧dep d≤60∧Q (.bl (if neg then !ds.any (fun e=>ba e d) else ds.any fun e=>ba e d)) H
theorem Dh:gT X (compareOp .NotIn) (JH X true):=by
 intro pins s σ H x y v u Q I rx ry h
 obtain⟨F,d,ds,vs,p,fh,dx,rfl,hq,dl,hu,h1,h2,q⟩:=h
 cases ry
 obtain⟨its,r,pl,hz⟩:=I.list hq
 refine SeqAt.notIn_listAt (iF its ds d) pl.isList (fun w hw=>oq I fh hu h1 h2 dl r dx rx w (by simpa using hw)) ⟨.bl _,H,I,rfl,?_⟩
 rw [show its.toArray.any (iF its ds d)=its.any (iF its ds d) by simp,any_map',ky I fh (by omega) dl r,← any_map']
 exact q
def wc (neg:Bool) (i:Nat) (ta:TD):TB:=fun env Q=>ta env fun x=>∃xs,env[i]?=some (some (.own xs))∧cy xs≤60∧dep x≤60∧Q (if neg then !xs.any (fun e=>ba e x) else xs.any fun e=>ba e x)
theorem zV {x:Str} {px:Pos} (i:Nat) (hu:X.A.units + 64 < cLine) (ha:QE X a ta) (hN:X.N[i]?=some x:=by rfl) (hv:xS X.env.scope x:=by first | exact Or.inl rfl | exact Or.inr (Or.inl rfl) | exact Or.inr (Or.inr rfl)) (hd:(x == ("__debug__" : Str))=false:=by decide)
  (hcd:(x == ("__classdict__" : Str))=false:=by decide) (hm:behindInMarks .NotIn (.Name x px)=false:=by rfl):QT X (.Compare a [.NotIn] [.Name x px] pos) (wc true i ta):=by
 refine⟨fun B σ F H env Q rp h=>ud (tU Dh bh (eF hN hv hd hcd) hm) ?_⟩
 refine aE (ha B σ F H env _ rp h) fun y H1 ⟨F1,d,r1,s1,d1,xs,hx,l1,l2,q1⟩=>?_
 obtain⟨p,vs,g1,g2,g3,g4,g5⟩:=r1.ov i xs hx
 exact⟨.ref p,g1,F1,d,xs,vs,p,r1.fh,d1,rfl,fz.of g2,g5,hu,l1,l2,_,rfl,F1,r1,s1,q1⟩
def kf (to te:TD):TD:=fun env Q=>to env fun x=>∃ds,x=.lst ds∧cy ds≤60∧te env fun y=>dep y≤60∧∃j:Nat,(ds[j]?.map fun d=>ba d y)=some true∧(∀m,m < j→(ds[m]?.map fun d=>ba d y)=some false)∧Q (.int j)
theorem tG (hu:X.A.units + 64 < cLine) (ho:QE X o to) (he:QE X e te) (m:M1 X o "index" apos e cpos:=by exact⟨rfl,rfl,rfl,rfl⟩):QE X (.Call (.Attribute o "index" apos) [e] [] cpos) (kf to te):=by
 refine⟨fun B σ F H env Q rp h pins s I=>?_⟩
 refine wpAny_Call_method m.base m.few m.line PySem.F.plainAttrs_list PySem.F.slot_list_index PySem.F.type_list_index (bP (ho B σ F H env _ rp h pins s I) fun u s1 ⟨x,H1,I1,rx,F1,d,r1,z1,d1,ds,e1,hds,q1⟩=>?_)
 subst e1
 simp only [Den] at d1
 obtain⟨p,vs,rfl,hq,dl⟩:=d1
 cases rx
 obtain⟨its0,_,⟨o0,n0,g0,c0,nd0,_⟩,_⟩:=I1.list (r1.fh.seq hq)
 refine⟨⟨o0,g0,c0⟩,fun b eb=>by cases eb;exact⟨o0,g0,nd0⟩,?_⟩
 rw [m.trees]
 refine Calls.callWith_builtin rfl (Calls.evalArgs_plain (Calls.spliced_cons (bP (he B σ F1 H1 env _ r1 q1 pins s1 I1) fun iv s2 ⟨y,H2,I2,ry,F2,d',r2,z2,d2,hy,j,hj,hno,q2⟩=>Calls.spliced_nil ?_)))
 have hq2:=z2.seq hq
 have dl2:=ao.mono z2 _ _ dl
 obtain⟨its,rv,⟨⟨oc,od,odt,osl⟩,n,g,c,nd,dd⟩,hz⟩:=I2.list (r2.fh.seq hq2)
 replace c:oc=.type "list":=c
 replace dd:odt=.seq its.toArray n:=dd
 subst c dd
 have l1:=dl2.length
 have l2:=rv.length
 have at_:∀(k:Nat) (b:Bool),(ds[k]?.map fun d=>ba d d')=some b→∃hk:k < its.length,iF its ds d' its[k]=b:=fun k b hb=>by
  obtain⟨w,hw,rfl⟩:=Option.map_eq_some_iff.mp hb
  have hk:k < its.length:=by have:=(List.getElem?_eq_some_iff.mp hw).1;omega
  exact⟨hk,nM I2 r2.fh (by omega) dl2 rv hw (List.getElem?_eq_getElem hk)⟩
 obtain⟨hjl,hit⟩:=at_ j true hj
 have hsz:(j:Int) < 2 ^ 63 - 1:=by
  have:j < sizeLine:=by omega
  rw [PySem.sizeLine_eq] at this;omega
 refine call_meets PySem.F.slot_list_index ⟨_,g,rfl⟩ PySem.F.entry_list_index (PySem.F.args_list_index_2 _ _) (SeqAt.list_indexAt p its.toArray n od osl iv (iF its ds d') j (by simpa using hjl) hsz (by simpa using hit) (fun k hk hkj=>by
  obtain⟨hkl,z⟩:=at_ k false (hno k hkj)
  simpa using z)) ⟨g,fun w hw=>rb I2 r2.fh _ (by simp only [units_in1];omega) hds hy dl2 rv d2 ry w (by simpa using hw),?_⟩
 exact⟨.int _,H2,I2.tok _,⟨_,rfl⟩,F2,_,r2,z1.trans z2,bf,q2⟩
end
end L2.L3
namespace L2.L3
open PySem PySem.Spec PyProof.Rows
end L2.L3
namespace L2.L3
open PySem PySem.Spec PyProof.Rows
section
variable {X:Cx} {a e:Expr} {es:List Expr} {ta te:TD} {ts:eI} {p pos apos cpos:Pos}
theorem pD {K:PySem.W.Frag} {F:Hp}:∀(is:List Int) {us:List V},ao K F (is.map D.int) us→us=is.map V.int
 | [],us,h=>by simpa [ao] using h
 | i :: is,us,h=>by
  simp only [List.map_cons,ao,Den] at h
  obtain⟨v,r,rfl,rfl,h2⟩:=h
  rw [pD is h2];rfl
end
section
variable {P:Program} {w:World} {K:PySem.W.Frag} {mg:Str→Option Value} {base:Heap}
end
end L2.L3
namespace L2.L3
open PySem PySem.Spec PyProof.Rows
def mK (a:Addr):HO:=.ext fun h=>∃(r:Int) (t:Tok) (n:Nat),h.get? a=some { cls:=.type "list",data:=.seq #[.int r t] n }
def ef:PySem.W.Frag→Hp→Addr→Prop:=fun _ G a=>G a=some (mK a)
theorem yB {P:Program} {w:World} {H:Hp} {h:Heap} {a:Addr} {r:Int} {t:Tok} {n:Nat} (e:h.get? a=some { cls:=.type "list",data:=.seq #[.int r t] n }):bF P w H h a (mK a):=by
 refine⟨⟨r,t,n,e⟩,⟨_,e⟩,?_⟩
 rintro h1 h2 ⟨r,t,n,e⟩ k
 exact⟨r,t,n,k _ e⟩
section
variable {X:Cx} {a b e:Expr} {ta te:TD} {pos:Pos}
theorem zT {H:Hp} {p:Addr} {o:HO} (h:H p=some o):upd H p o=H:=by
 funext b
 by_cases e:b=p
 ·subst e;rw [aI,h]
 ·rw [aB e]
def pf (i:Nat) (te:TD):bC:=fun Z env=>te env fun x=>∃r:Int,x=.int r∧Z.nx (env.set i (some (.d (.obj ef))))
theorem xM {x:Str} {pos' pl:Pos} (i:Nat) (hN:X.N.Nodup) (he:QE X e te) (hi:X.N[i]?=some x:=by rfl) (hx:Loc X.env.scope x:=by first | exact Or.inl rfl | exact Or.inr rfl) (hs:swapsWith (.List [e] pl) (some (.Name x pos')) pos.line X.env=pure false:=by rfl)
  (hf:X.fn x=true∨X.env.scope.names.lookup x=some .local:=by first | exact .inl rfl | exact .inr rfl) (hst:starEach [e] X.env=(false,eval e X.env) :: starEach [] X.env:=by exact aR rfl):QS X (.Assign [.Name x pos'] (.List [e] pl) pos) (pf i te):=by
 refine⟨fun B σ F H env Z rp h pins s I=>?_⟩
 refine wpAny_Assign_Name ?_ hs
 refine wpAny_List_spliced (bP (dQ bh gH hst pl pins s σ H (fun vs H1=>∃r,vs=[.int r]∧∃F1,Rep X.K B F1 H1 σ env∧Z.nx (env.set i (some (.d (.obj ef))))) I ?_) fun us s1 ⟨vs,H1,I1,rv,r,ev,F1,r1,q⟩=>?_)
 ·refine aE (he B σ F H env _ rp h) fun v H1 ⟨F1,d,r1,s1,d1,r,ed,q⟩=>?_
  subst ed
  simp only [Den] at d1
  subst d1
  exact⟨r,rfl,F1,r1,q⟩
 ·subst ev
  obtain⟨u,rfl,ru⟩:=rv.one
  obtain⟨t,rfl⟩:=ru
  refine⟨by show 1≤sizeLine;simp [PySem.sizeLine_eq],?_⟩
  have hfr:H1 s1.heap.objs.size=none:=I1.hok.fresh (Nat.le_refl _)
  have I2:=I1.laid (a:=s1.heap.objs.size) (o:=mK s1.heap.objs.size) (h':=s1.heap.push { cls:=.type "list",data:=.seq [Value.int r t].toArray }) (t':=s1.toks) (fun b u e=>Heap.get?_push_of_some _ e) (Nat.le_refl _) (yB (r:=r) (t:=t) (n:=0) (Heap.get?_push_size _ rfl))
  refine lq I2 hN hi hx (v:=.ref s1.heap.objs.size) rfl (fun s2 I3=>⟨_,_,I3,?_⟩) hf
  obtain⟨r2,s2'⟩:=r1.laid (o:=mK s1.heap.objs.size) hfr
  refine⟨_,_,r2.set (i:=i) (x:=.obj ef) ?_ ?_,q⟩
  ·simp only [Den]
   exact⟨_,rfl,fun G sG=>sG _ _ aI⟩
  ·rw [I.len];exact (List.getElem?_eq_some_iff.mp hi).1
def GV:R2:=fun x y H Q=>∃p,x=.ref p∧y=.int 0∧H p=some (mK p)∧∀r:Int,Q (.int r) H
theorem yF {pins:List (Addr×Obj)} {σ:St} {H:Hp} {s:Shared} {p:Addr} (I:Inv X pins σ H s) (h:H p=some (mK p)):∃(r:Int) (t:Tok) (n:Nat),s.heap.get? p=some { cls:=.type "list",data:=.seq #[.int r t] n }:=(I.hok p _ h).1
theorem Cz:zU X GV:=by
 intro value slice pins s σ H x y v u Q I rx ry h hs
 obtain⟨p,rfl,rfl,hp,q⟩:=h
 cases rx
 obtain⟨t,rfl⟩:=ry
 obtain⟨r,t',n,e⟩:=yF I hp
 have fin:EP X pins σ Q (.int r t') s:=⟨.int r,H,I,⟨_,rfl⟩,q r⟩
 exact item_listR ⟨_,e,rfl,n,rfl⟩ (by omega) (by simp) (by simp) fin hs
def yI (ta:TD):TD:=fun env Q=>ta env fun x=>x=.obj ef∧∀r:Int,Q (.int r)
theorem BM {p1:Pos} {j1:_} (ha:QE X a ta) (hs:kP (.Constant (.int 0) j1 p1):=by intro _ _;rfl):QE X (.Subscript a (.Constant (.int 0) j1 p1) pos) (yI ta):=by
 refine⟨fun B σ F H env Q rp h=>bD (yi Cz bh w4 hs) ?_⟩
 refine aE (ha B σ F H env _ rp h) fun x H1 ⟨F1,d,r1,s1,d1,ed,q⟩=>?_
 subst ed
 simp only [Den] at d1
 obtain⟨p,rfl,hp⟩:=d1
 exact⟨p,rfl,rfl,r1.fh _ _ (hp F1 (ar.refl _)),fun r=>⟨F1,_,r1,s1,bf,q r⟩⟩
def GU:V→V→V→Hp→(Hp→Prop)→Prop:=fun o i v H Q=>∃p r,o=.ref p∧i=.int 0∧v=.int r∧H p=some (mK p)∧Q H
theorem Ao:EY X GU:=by
 intro pins s σ H o i v ov iv u Q I ro ri rv h
 obtain⟨p,r,rfl,rfl,rfl,hp,q⟩:=h
 cases ro
 obtain⟨t,rfl⟩:=ri
 obtain⟨t2,rfl⟩:=rv
 obtain⟨r0,t0,n,e⟩:=yF I hp
 have e2:(s.heap.update p (Obj.mapSeq (·.setIfInBounds 0 (.int r t2)))).get? p=some { cls:=.type "list",data:=.seq #[.int r t2] n }:=by
  rw [Heap.get?_update_self _ e (by rfl)];rfl
 have I':Inv X pins σ (upd H p (mK p)) { s with heap:=s.heap.update p (Obj.mapSeq (·.setIfInBounds 0 (.int r t2))),toks:=s.toks } :=
  I.write (x:=p) (e:=p) (by rw [hp];trivial) (.inl rfl) (fun b u hb q=>(Heap.get?_update_other _ _ (Ne.symm hb)).trans q) ⟨_,e2⟩ (yB e2)
 rw [zT hp] at I'
 exact PySem.W.ki_setAt e (by omega) (by decide) (by simp) ⟨_,I',q⟩
def nW (ta te:TD):bC:=fun Z env=>te env fun y=>∃r:Int,y=.int r∧ta env fun x=>x=.obj ef∧Z.nx env
theorem wx {p1 p2:Pos} {j1:_} (ha:QE X a ta) (he:QE X e te) (hs:swapsWithSole [.Subscript a (.Constant (.int 0) j1 p1) p2] e pos.line X.env=pure false:=by rfl) (hw:swappedStores [.Subscript a (.Constant (.int 0) j1 p1) p2] e X.env=pure none:=by rfl)
  (h1:(assignEach [.Subscript a (.Constant (.int 0) j1 p1) p2] X.env).map (·.2)=[assign (.Subscript a (.Constant (.int 0) j1 p1) p2) X.env]:=by rfl)
  (hg:∀v,assign (.Subscript a (.Constant (.int 0) j1 p1) p2) X.env v=(do
   let ov ← holding [v] (eval a X.env)
   let iv ← holding [v,ov] (eval (.Constant (.int 0) j1 p1) X.env)
   standAt p2
   holding [v,ov,iv] (setItem ov iv v)
   release [v,ov,iv] []):=by intro _;rfl):QS X (.Assign [.Subscript a (.Constant (.int 0) j1 p1) p2] e pos) (nW ta te):=by
 refine⟨fun B σ F H env Z rp h=>?_⟩
 refine dA (wb bh (Av bh w4 Ao hg) hs hw h1) ?_
 refine aE (he B σ F H env _ rp h) fun y H1 ⟨F1,d,r1,s1,d1,r,ed,q1⟩=>?_
 subst ed
 simp only [Den] at d1
 subst d1
 refine aE (ha B σ F1 H1 env _ r1 q1) fun x H2 ⟨F2,d2,r2,s2,dd2,ed,q2⟩=>?_
 subst ed
 simp only [Den] at dd2
 obtain⟨p,rfl,hp⟩:=dd2
 exact⟨p,r,rfl,rfl,rfl,r2.fh _ _ (hp F2 (ar.refl _)),F2,env,r2,q2⟩
end
end L2.L3
namespace L2.L3
open PySem PySem.Spec PyProof.Rows
theorem C2 {prog:Program} {w:World} {A:Around} {E:Value→Shared→Prop} {s:Shared} {value slice:Expr} {o i:Value} {T id:String} {Q:Value→Shared→Prop}
  (hT:s.TypeIs o T) (hl:typeLookup (.type T) "__getitem__" = pure (some (.builtin id))) (hs:subscripted slice false o i=operate [o,i] (getItem o i)) (h:wpAny (model prog w) A (getItem o i) Q E s) :
  wpAny (model prog w) A (subscriptTail value slice o i) Q E s:=by
 unfold subscriptTail
 refine wpAny_bind ?_
 rw [getitemInPython_of_ne hT.not_modules]
 refine wpAny_bind (wpAny_specialOf hT hl ?_)
 have fin:wpAny (model prog w) A (subscripted slice false o i) (fun r s₃=>wpAny (model prog w) A (letTemporaryGo value o r >>= fun _=>pure r) Q E s₃) E s:=by
  rw [hs]
  exact wpAny_operating (wpAny_mono h (fun r s₃ h₃=>wpAny_bind (wpAny_letTemporaryGo (wpAny_pure h₃))) fun _ _ x=>x)
 first
  | exact wpAny_pure (wpAny_bind fin)
  | exact wpAny_bind (wpAny_pure (wpAny_bind fin))
  | exact wpAny_bind fin
section
variable {X:Cx} {a b:Expr} {ta tb:TD} {pos:Pos}
def Et (X:Cx):R2:=fun x y H Q=>∃p ep F kvs us vs d z,x=.ref p∧ar F H∧cS kvs∧ao X.K F (kvs.map (·.1)) us∧ao X.K F (kvs.map (·.2)) vs∧H p=some (jJ p ep (bV kvs us vs)) ∧
 aY d=true∧dep d≤8∧Den X.K F d y∧iK kvs d=some z∧∀w,Den X.K F z w→Q w H
theorem DN (hu:X.A.units + 64 < cLine):zU X (Et X):=by
 intro value slice pins s σ H x y v u Q I rx ry h hs
 obtain⟨p,ep,F,kvs,us,vs,d,z,rfl,fh,ok,d1,d2,e,hk,hd,dd,hz,q⟩:=h
 cases rx
 obtain⟨_,_,es,dh,_⟩:=iV I e
 exact C2 dh.typeIs PySem.F.slot_dict_getitem.lookup hs (Ae (by omega) I fh ok d1 d2 e hk hd dd ry hz fun w' u' s3 I3 dw rw'=>⟨w',H,I3,rw',q w' dw⟩)
def Es (x y:D) (Q:D→Prop):Prop:=JX x y Q∨cz x y Q
theorem EU:p8 X (fun x y H Q=>Et X x y H Q∨Jz X.K x y H Q) Es:=by
 intro B σ F H env Q d d' x y Z rp h1 h2 hz hf
 rcases hf with hf | hf
 ·obtain⟨kvs,v,rfl,hk,hd,ok,hv,q⟩:=hf
  simp only [Den] at h1
  obtain⟨p,rfl,hp⟩:=h1
  obtain⟨ep,us,vs,hg,g1,g2⟩:=hp F (ar.refl _)
  exact .inl ⟨p,ep,F,kvs,us,vs,d',v,rfl,rp.fh,ok,g1,g2,rp.fh _ _ hg,hk,hd,h2,hv,fun w dw=>hz w H F v rp (ar.refl _) dw q⟩
 ·exact .inr (Ex B σ F H env Q d d' x y Z rp h1 h2 hz hf)
theorem tK (hu:X.A.units + 64 < cLine) (ha:QE X a ta) (hb:QE X b tb) (hs:kP b):QE X (.Subscript a b pos) (aC Es ta tb):=⟨fun B σ F H env Q rp h=>bD (yi ((DN hu).or zZ) bh bh hs) (two EU ha hb rp HF h)⟩
end
end L2.L3
namespace L2.L3
open PySem PySem.Spec PyProof.Rows
def Jd (f:Fw) (i:Int):Fw:=fun ds Q=>f (ds ++ [.int i]) Q
structure oY (P:Program) (w:World) (K:PySem.W.Frag) (mg:Str→Option Value) (base:Heap) (k:Nat) (x:Str) (f:Fw) (i:Int):Prop where
 ex:∃(fa:Addr) (fd:FuncData) (ps:List Str) (t:Tok),l7 P w K mg base qD k fa fd ps (DI K f)∧mg x=some (.ref fa)∧PySem.W.keepIn K (.ref fa)=true∧Binds K fd ps [.int i t]
structure sI (K:PySem.W.Frag) (x qual:Str) (st:Stmt) (f:Addr) (fd:FuncData):Prop where
 ex:∃(oc:Value) (od:Option Addr) (dV kV doc pm:Value) (an:Option Addr) (cdv ct:Value) (osl:Array (Option Value)),
  fd=PySem.W.fnOf x qual (c8 st) (a8 st) (ak st) dV kV doc pm an cdv ct∧K.lookup f=some ⟨oc,od,.func fd,osl⟩∧PySem.W.codeIn K cdv qual=true
 kp:PySem.W.keepIn K (.ref f)=true
section
variable {P:Program} {w:World} {K:PySem.W.Frag} {mg:Str→Option Value} {base:Heap}
theorem DF {x qual:Str} {st:Stmt} {f:Addr} {oc:Value} {od an:Option Addr} {osl:Array (Option Value)} {dV kV doc pm cdv ct:Value} (l:K.lookup f=some ⟨oc,od,.func (PySem.W.fnOf x qual (c8 st) (a8 st) (ak st) dV kV doc pm an cdv ct),osl⟩)
  (c:PySem.W.codeIn K cdv qual=true) (k:PySem.W.keepIn K (.ref f)=true):sI K x qual st f (PySem.W.fnOf x qual (c8 st) (a8 st) (ak st) dV kV doc pm an cdv ct):=⟨⟨oc,od,dV,kV,doc,pm,an,cdv,ct,osl,rfl,l,c⟩,k⟩
theorem sI.CA {x qual:Str} {st:Stmt} {fa:Addr} {fd:FuncData} {N ps:List Str} {k:Nat} {f:Fw} (F:sI K x qual st fa fd) (S:aG N ps (ak st))
  (hl:∀ds Q,f ds Q→ds.length=ps.length)
  (hbody:∀(cdv:Value) (A:Around) (outer:List Env) (s:Shared) (H:Hp) (E:XK),cY k (A.deeper (envOfC qual (ak st) s.heap.objs.size fa cdv)) →
   ∃t,mI (fY qD P w K mg base N qual (ak st) fa cdv A outer s H E).nF (a8 st) t∧∀ds (Q:D→Prop),f ds Q→t { nx:=fun _=>Q .non,rt:=Q } (aJ N ds)) :
  l7 P w K mg base qD (k + 1) fa fd ps (DI K f):=by
 obtain⟨oc,od,dV,kV,doc,pm,an,cdv,ct,osl,rfl,lk,hcd⟩:=F.ex
 refine yM lk hcd S (fun vs H Q E h=>?_) fun A outer s H vs Q E hr h=>?_
 ·obtain⟨F0,ds,P,_,hd,hf,_⟩:=h
  rw [← hd.length];exact hl ds _ hf
 ·obtain⟨F0,ds,P,fh,hd,hf,kk⟩:=h
  obtain⟨t,ht,hq⟩:=hbody cdv A outer s H E hr
  refine⟨_,vc.nF d9,?_⟩
  have core:=ht _ (start N vs) F0 H (aJ N ds) _ (fS fh hd) (hq ds P hf)
  refine fR core (fun σ' H' ⟨F',env',r,q⟩=>?_) (fun v H' ⟨F',d',r,dd,q⟩=>?_) (fun _ _ ⟨_,_,_,q⟩=>q) (fun _ _ ⟨_,_,_,q⟩=>q)
  ·exact kk .non .non F' H' r.f0 r.h0 r.fh (fun p h1 h2=>r.nf p ⟨h1,h2⟩) jx q
  ·exact kk d' v F' H' r.f0 r.h0 r.fh (fun p h1 h2=>r.nf p ⟨h1,h2⟩) dd q
theorem sI.known {x qual:Str} {st:Stmt} {fa:Addr} {fd:FuncData} {N ps:List Str} {k:Nat} {f:Fw} {i:Int} {t:Tok} (F:sI K x qual st fa fd) (S:aG N ps (ak st)) (hmg:mg x=some (.ref fa)) (hb:Binds K fd ps [.int i t])
  (hl:∀ds Q,f ds Q→ds.length=ps.length)
  (hbody:∀(cdv:Value) (A:Around) (outer:List Env) (s:Shared) (H:Hp) (E:XK),cY k (A.deeper (envOfC qual (ak st) s.heap.objs.size fa cdv)) →
   ∃t,mI (fY qD P w K mg base N qual (ak st) fa cdv A outer s H E).nF (a8 st) t∧∀ds (Q:D→Prop),f ds Q→t { nx:=fun _=>Q .non,rt:=Q } (aJ N ds)) :
  oY P w K mg base (k + 1) x f i:=⟨fa,fd,ps,t,sI.CA F S hl hbody,hmg,F.kp,hb⟩
end
end L2.L3
namespace L2.L3
open PySem PySem.Spec PyProof.Rows
section
variable {X:Cx} {a e o:Expr} {ta te to:TD} {pos apos cpos:Pos}
def sv (to te:TD):TD:=fun env Q=>to env fun x=>∃ds,x=.lst ds∧cy ds≤60∧te env fun y=>dep y≤60∧Q (.int (ds.countP fun d=>ba d y))
theorem A8 (hu:X.A.units + 64 < cLine) (ho:QE X o to) (he:QE X e te) (m:M1 X o "count" apos e cpos:=by exact⟨rfl,rfl,rfl,rfl⟩):QE X (.Call (.Attribute o "count" apos) [e] [] cpos) (sv to te):=by
 refine⟨fun B σ F H env Q rp h pins s I=>?_⟩
 refine wpAny_Call_method m.base m.few m.line PySem.F.plainAttrs_list PySem.F.slot_list_count PySem.F.type_list_count (bP (ho B σ F H env _ rp h pins s I) fun u s1 ⟨x,H1,I1,rx,F1,d,r1,z1,d1,ds,e1,hds,q1⟩=>?_)
 subst e1
 simp only [Den] at d1
 obtain⟨p,vs,rfl,hq,dl⟩:=d1
 cases rx
 obtain⟨its0,_,⟨o0,n0,g0,c0,nd0,_⟩,_⟩:=I1.list (r1.fh.seq hq)
 refine⟨⟨o0,g0,c0⟩,fun b eb=>by cases eb;exact⟨o0,g0,nd0⟩,?_⟩
 rw [m.trees]
 refine Calls.callWith_builtin rfl (Calls.evalArgs_plain (Calls.spliced_cons (bP (he B σ F1 H1 env _ r1 q1 pins s1 I1) fun iv s2 ⟨y,H2,I2,ry,F2,d',r2,z2,d2,hy,q2⟩=>Calls.spliced_nil ?_)))
 have hq2:=z2.seq hq
 have dl2:=ao.mono z2 _ _ dl
 obtain⟨its,rv,⟨⟨oc,od,odt,osl⟩,n,g,c,nd,dd⟩,hz⟩:=I2.list (r2.fh.seq hq2)
 replace c:oc=.type "list":=c
 replace dd:odt=.seq its.toArray n:=dd
 subst c dd
 refine call_meets PySem.F.slot_list_count ⟨_,g,rfl⟩ PySem.F.entry_list_count (PySem.F.args_list_count_2 _ _) (SeqAt.list_countAt p its.toArray n od osl iv (iF its ds d')) ⟨g,fun w hw=>rb I2 r2.fh _ (by simp only [units_in1];omega) hds hy dl2 rv d2 ry w (by simpa using hw),?_⟩
 refine⟨.int _,H2,I2.tok _,⟨_,rfl⟩,F2,_,r2,z1.trans z2,?_,q2⟩
 rw [show its.toArray.toList.countP (iF its ds d')=ds.countP fun d=>ba d d' by
  rw [show its.toArray.toList=its by simp,mS,ky I2 r2.fh (by omega) dl2 rv,← mS]]
 exact bf
end
end L2.L3
namespace L2.L3
open PySem PySem.Spec PyProof.Rows
def BD (f:Fw) (ta:TD) (tx:TX):sW:=fun D env=>ta env fun d=>tx env (fun y=>f [d,y] D.rt) D.xc
section
variable {X:Cx} {a e:Expr} {ta:TD} {tx:TX} {p pos pos':Pos} {x:Str} {k:Nat} {f:Fw} {i:Int}
theorem Dz (h:oY X.prog X.w X.K X.mg X.base k x f i) (hr:cY k X.A) (ha:QE X.nF a ta) (hx:QX X e tx) (hg:Gl X x:=by rfl) (hdb:(x == ("__debug__" : Str))=false:=by decide)
  (he:starEach [a,e] X.env=(false,eval a X.env) :: starEach [e] X.env:=by exact aR rfl) (he2:starEach [e] X.env=(false,eval e X.env) :: starEach [] X.env:=by exact aR rfl) (hpl:(backTo pos (starEach [e] X.env)).any (·.1)=false:=by rfl) :
  QZ X (.Return (some (.Call (.Name x p) [a,e] [] pos)) pos') (BD (Jd f i) ta tx):=by
 obtain⟨fa,fd,ps,t,G,hm,hk,hb⟩:=h.ex
 refine⟨fun B σ F H env D rp hq=>dA (xA (yp (X:=X.cv (XZ X B D.xc)) G hr hg hm hk hb (dvs:=[.int i]) (.cons ⟨_,rfl⟩ .nil) zO (dQ bh (dQ bh gH he2) he) hdb he hpl)) ?_⟩
 refine aE (E9 (ha B σ F H env _ rp hq)) fun v H1 ⟨F1,d,r1,s1,d1,q1⟩=>?_
 refine aE (hx.w r1 q1) fun v2 H2 ⟨F2,d',r2,s2,d2,q2⟩=>?_
 exact⟨F2,[d,d'] ++ [L3.D.int i],D.rt,r2.fh,(aW (Den.mono s2 _ _ d1) (aW d2 a7)).append (aW (d:=.int i) (by simp only [Den]) a7),q2,fun d v F' H' a b c n hd q=>⟨F',d,(r2.ext a c b n).bare,hd,q⟩⟩
end
end L2.L3
namespace L2.L3
open PySem PySem.Spec PyProof.Rows
structure BF (K:PySem.W.Frag) (C S:Addr):Prop where
 ty:PySem.W.typeIn K (.ref S)=some (.type "type")
 dct:PySem.W.hasDictIn K S=true
 be:PySem.W.subIn K (.ref S) (.type "BaseException")=some true
 sub:PySem.W.subIn K (.ref C) (.ref S)=some true
theorem qa {K:PySem.W.Frag}:PySem.W.subIn K (.type "type") (.type "tuple")=some false:=by
 show Option.map (fun x=>x.contains (Value.type "tuple")) (fastBuiltinMro "type")=some false
 decide +kernel
theorem B1 {M:Model} {A:Around} {E:Value→Shared→Prop} {K:PySem.W.Frag} {h:Heap} {g:Array GenState} {d:Drawn} {t:Nat} {os:OsState} {e C S:Addr} {Q:Bool→Shared→Prop} (X:K.In h) (O:BF K C S)
  (ht:PySem.W.Looks M h (typeOf (.ref e)) (.ref C)) (hq:Q true ⟨h,g,d,t,os⟩):wpAny M A (excMatches (.ref e) (.ref S)) Q E ⟨h,g,d,t,os⟩:=by
 have L1:PySem.W.Looks M h (isInstance (.ref S) (.type "tuple")) false:=(PySem.W.looks_typeIn X O.ty).andThen (PySem.W.looks_subIn X qa)
 have L2:=PySem.W.looks_subIn (M:=M) X O.be
 have L3:=PySem.W.looks_subIn (M:=M) X O.sub
 obtain⟨c,dd,cd,sl,lk⟩:=sJ O.dct
 have hS:=X _ _ lk
 have LT:PySem.W.Looks M h (isType (.ref S)) true:=fun A Q E s keep q=>wpAny_bind (wpAny_loadPart (keep _ _ hS) (wpAny_pure q))
 have LE:PySem.W.Looks M h (isExcClass (.ref S)) true:=LT.andThen L2
 unfold excMatches
 refine wpAny_bind (L1.at ?_)
 rw [if_neg (by decide)]
 refine wpAny_bind (wpAny_pure ?_)
 simp only [List.forIn_cons,List.forIn_nil]
 refine wpAny_bind (wpAny_bind (wpAny_bind (LE.at (wpAny_pure (wpAny_pure ?_)))))
 refine wpAny_bind (ht.at (wpAny_bind (wpAny_bind (wpAny_bind (L3.at (wpAny_pure (wpAny_pure ?_)))))))
 exact wpAny_pure hq
def Bp (i:Nat) (cls:Str) (tx:TX) (tb:bC):bC:=fun D env=>tx env D.rt fun c=>c=cls∧tb { nx:=fun _=>False,rt:=D.rt } (env.set i (some (.d (.exc cls))))
section
variable {X:Cx} {e:Expr} {tx:TX} {cls sup n:Str} {C S:Addr} {np epos hpos pos:Pos} {b0:Stmt} {body:List Stmt} {tb:bC}
theorem Cv (i:Nat) (hN:X.N.Nodup) (hst:X.stack=X.env :: X.outer) (hf:X.env.frame=some X.env.locals) (as:PySem.W.nsIn X.K mainGlobals sup=some (some (.ref S))) (ac:PySem.W.nsIn X.K mainGlobals cls=some (some (.ref C))) (O:BF X.K C S)
  (h:QX X e tx) (hb:∀x,mI (Cx.hand X x) (b0 :: body) tb) (hg:Gl X sup:=by rfl) (hdb:(sup == ("__debug__" : Str))=false:=by decide) (hi:X.N[i]?=some n:=by rfl)
  (hx:X.env.scope.names.lookup n=some .local:=by rfl) :
  QS X (.Try [.Return (some e) epos] [.ExceptHandler (some (.Name sup np)) (some n) (b0 :: body) hpos] [] [] pos) (Bp i cls tx tb):=by
 refine⟨fun B σ F H env D rp ht pins s I=>?_⟩
 have hcls:(X.env.scope.kind == .class || (X.env.scope.kind == .module && X.env.locals != X.env.globals))=false:=by rw [I.ok.kind];rfl
 have hmg:X.mg cls=some (.ref C):=PySem.W.mg_of I.ok.mod.kin I.ok.mod.glob ac
 have hms:X.mg sup=some (.ref S):=PySem.W.mg_of I.ok.mod.kin I.ok.mod.glob as
 have core:=h.run B σ F H env _ _ rp ht pins s I
 refine wpAny_Try_except (wpAny_execs_cons (wpAny_Return_some (wpAny_mono core (fun v s1 ⟨x,H1,I1,r1,F1,d1,rp1,_,hd1,q1⟩=>?_) fun ex s1 z=>?_)))
 ·exact⟨x,σ,H1,I1,r1,F1,d1,rp1.bare,hd1,q1⟩
 ·obtain⟨a,c,C',H1,F1,rfl,th,r1,hm,hce,hq1⟩:=z
  rw [hce,hmg] at hm
  cases hm
  refine th.note hst hf fun s2 th2=>?_
  have I2:=Inv.hand th2.inv a
  refine wpAny_handleBy_cons (codeAny_handlers_test (hV (X:=Cx.hand X a) I2 hg hms ?_ hdb)) (by intro q;cases q)
  have flc:∃ox,PySem.W.InstAt s2.heap a ox C none:=by
   obtain⟨_,_,_,_,_,_,_,_,_,oe,vs,he,hc,hdc,hd,_⟩:=th2
   refine⟨oe,he,hc,?_,?_⟩
   ·unfold PySem.W.notCls;rw [hd]
   ·rw [hdc];exact True.intro
  obtain⟨ob,hob⟩:=flc
  have kin:=I2.qR
  obtain⟨h2,g2,d2,t2,o2⟩:=s2
  refine B1 kin O hob.type (codeAny_handlers_suite_as ?_)
  refine c5.land th2 fun s3 th3=>?_
  obtain⟨na,I3⟩:=jj.Gy th3
  obtain⟨rp3,sm⟩:=r1.laid (o:=.ext (excAt a C)) na
  refine lq (X:=Cx.hand X a) (i:=i) (v:=.ref a) (Inv.hand I3 a) hN hi (.inl hx) rfl (fun s4 I4=>?_) (.inr hx)
  have hden:Den X.K (upd F1 a (.ext (excAt a C))) (.exc cls) (.ref a):=by
   simp only [Den];exact⟨a,C,rfl,ac,aI⟩
  have run:=(hb a).run B _ _ _ _ { nx:=fun _=>False,rt:=D.rt } (rp3.set hden (by rw [I3.len];exact (List.getElem?_eq_some_iff.mp hi).1)) hq1 pins s4 I4
  refine wpAny_mono run (fun f s5 z=>?_) fun _ _ z=>False.elim z
  cases f with
  | next=>obtain⟨σ',H',_,F',env',_,q⟩:=z;exact q.elim
  | brk=>obtain⟨σ',H',_,F',env',_,q⟩:=z;exact q.elim
  | cont=>obtain⟨σ',H',_,F',env',_,q⟩:=z;exact q.elim
  | ret u =>
   obtain⟨v,σ',H',I5,rv,q⟩:=z
   have I5':=Inv.Gg I.ok I5
   obtain⟨m,hn,_⟩:=I5'.loc
   refine wpAny_nameGoes (show X.env.kindOf n=some .local from hx) hn hcls fun h' m' hn' hs'=>?_
   exact⟨v,_,H',Inv.IV I5' hn' hs',rv,q⟩
end
end L2.L3
namespace L2.L3
open PySem PySem.Spec PyProof.Rows
def vq (ds:List D) (Q:D→Prop):Prop:=match ds with
 | [.lst xs]=>∃ns:List Int,xs=ns.map D.int∧ns≠[]∧∀M:Int,M∈ns→(∀n∈ns,n≤M)→Q (.int M)
 | _=>False
section
variable {X:Cx} {e:Expr} {ts:eI} {p pos:Pos}
theorem zk (hc:X.calm=true):dq X (.builtin "max") (fun xs H Q=>∃(p:Addr) (ns:List Int),xs=[.ref p]∧fz X.K H p (ns.map V.int)∧ns≠[]∧∀M:Int,M∈ns→(∀n∈ns,n≤M)→Q (.int M) H):=by
 intro pins s σ H xs us Q I r h
 obtain⟨p,ns,rfl,hq,h0,q⟩:=h
 obtain⟨u,rfl,rx⟩:=vals1 r
 cases rx
 obtain⟨its,r',pl,hz⟩:=I.list hq
 have hl:=pl.isList
 have ll:=r'.length
 rw [List.length_map] at ll
 have hn:0 < ns.length:=List.length_pos_iff.mpr h0
 have hlt:p < s.heap.objs.size:=by obtain⟨_,e,_⟩:=hl;exact Heap.lt_size e
 have psz:(s.heap.push { cls:=.type "list_iterator",data:=.fields #[.ref p,.int 0 0] }).objs.size=s.heap.objs.size + 1:=by simp [Heap.push]
 have at_:∀(i:Nat) (v:Value),its.toArray[i]?=some v→∃t,v=.int (ns.getD i 0) t:=fun i v hP=>by
  obtain⟨y,h1,h2⟩:=gJ r' (by simpa using hP:its[i]?=some v)
  rw [List.getElem?_map] at h1
  obtain⟨n,h3,rfl⟩:=Option.map_eq_some_iff.mp h1
  obtain⟨t,rfl⟩:=h2
  exact⟨t,by show Value.int n t=Value.int (ns.getD i 0) t;rw [List.getD_eq_getElem?_getD,h3];rfl⟩
 refine call_max_walk (wpAny_pyIter_list hl ?_)
 refine⟨s.heap.objs.size,[s.heap.objs.size,p],[s.heap.objs.size],its.toArray.size,_,_,fun i j=>decide (ns.getD i 0 > ns.getD j 0),rfl,Walks.list (A:=X.A.in1) (I.ok.hd hc) _ p (Nat.ne_of_lt hlt) its.toArray,
  ⟨⟨_,Heap.get?_push_size _ rfl,rfl,rfl⟩,hl.push _⟩,fun b hb=>?_,by simp;omega,CmpOf.ints_gt (fun i=>ns.getD i 0) at_,fun v h' tk hv hk=>?_⟩
 ·show b < (s.heap.push _).objs.size
  rw [psz]
  simp only [List.mem_cons,List.not_mem_nil,or_false] at hb
  rcases hb with rfl | rfl
  ·exact Nat.lt_succ_self _
  ·exact Nat.lt_succ_of_lt hlt
 ·obtain⟨t,rfl⟩:=at_ _ _ hv
  have hb:=argBest_gt (fun i=>ns.getD i 0) (its.toArray.size - 1)
  have hs:its.toArray.size=ns.length:=by simp;omega
  rw [hs] at hb ⊢
  have hlt2:argBest (fun i j=>decide (ns.getD i 0 > ns.getD j 0)) (ns.length - 1) < ns.length:=by have:=hb.1;omega
  refine⟨.int _,H,I.kept (t':=tk) (wk hk),⟨_,rfl⟩,q _ ?_ fun n hn'=>?_⟩
  ·rw [List.getD_eq_getElem?_getD,List.getElem?_eq_getElem hlt2];exact List.getElem_mem hlt2
  ·obtain⟨j,hj,rfl⟩:=List.getElem_of_mem hn'
   have:=hb.2 j (by omega)
   rw [List.getD_eq_getElem?_getD (l:=ns) (i:=j),List.getElem?_eq_getElem hj] at this
   exact this
theorem Dx:Call3 X (fun xs H Q=>∃(p:Addr) (ns:List Int),xs=[.ref p]∧fz X.K H p (ns.map V.int)∧ns≠[]∧∀M:Int,M∈ns→(∀n∈ns,n≤M)→Q (.int M) H) vq:=by
 intro B σ F H env Q ds vs Z rp h hz hf
 unfold vq at hf
 split at hf
 ·obtain⟨ns,rfl,h0,q⟩:=hf
  simp only [ao,Den] at h
  obtain⟨v,r,rfl,⟨p,ys,rfl,q',r⟩,rfl⟩:=h
  have:=pD ns r
  subst this
  exact⟨p,ns,rfl,rp.fh.seq q',h0,fun M h1 h2=>hz _ _ F _ rp (ar.refl _) bf (q M h1 h2)⟩
 ·exact hf.elim
theorem BW (hm:X.mg "max" = none) (ha:QA X [e] ts) (hg:Gl X "max":=by rfl) (hc:X.calm=true:=by rfl) (he:starEach [e] X.env=(false,eval e X.env) :: starEach [] X.env:=by exact aR rfl):QE X (.Call (.Name "max" p) [e] [] pos) (az vq ts) :=
 gU (zk hc) Dx hg hm qz ha (he:=he)
end
end L2.L3
namespace L2.L3
open PySem PySem.Spec PyProof.Rows
structure gr (k:Nat) (A:Around):Prop where
 dp:A.depth + 3 * k + 5 < recursionLimit
 un:A.units + 16 * k + 200 < cLine
theorem gr.deeper {k:Nat} {A:Around} (r:gr (k + 1) A) (env:Env):gr k (A.deeper env) :=
 ⟨by have:=r.dp;show A.depth + 1 + 3 * k + 5 < _;omega,by have:=r.un;show A.units + 3 + 16 * k + 200 < _;omega⟩
theorem gr.depth {k:Nat} {A:Around} (r:gr k A):A.depth < recursionLimit:=by have:=r.dp;omega
theorem gr.units {k:Nat} {A:Around} (r:gr k A):A.units + 64 < cLine:=by have:=r.un;omega
theorem _root_.L2.cY.hand {k:Nat} {A:Around} (r:cY k A) (v:Option Value):gr k (A.mark v):=⟨r.dp,r.un⟩
structure Ja (P:Program) (w:World) (K:PySem.W.Frag) (mg:Str→Option Value) (base:Heap) (k:Nat) (f:Addr) (fd:FuncData) (ps:List Str) (sp:Sp):Prop where
 len:∀vs H Q E,sp vs H Q E→vs.length=ps.length
 run:∀(A:Around) (outer:List Env) (s:Shared) (H:Hp) (args:Args) (us:List Value) (vs:List V) (Q:VK) (E:XK),gr k A→yV P w K mg base A outer s H→BindsTo s fd args (ps.zip us)→Vals vs us→sp vs H Q E →
  codeAny (model P w) A (.call (.ref f) args) (CR qD outer P w H s Q E) s
def GN (P:Program) (w:World) (K:PySem.W.Frag) (mg:Str→Option Value) (base:Heap) (N:List Str) (qual:Str) (scope:Scope) (f:Addr) (cd:Value) (A:Around) (outer:List Env) (s:Shared) (H:Hp) (E:XK):Cx :=
 { fY qD P w K mg base N qual scope f cd A outer s H E with calm:=false,xe:=fun _ _=>False }
section
variable {P:Program} {w:World} {K:PySem.W.Frag} {mg:Str→Option Value} {base:Heap}
theorem xk {N ps:List Str} {qual:Str} {scope:Scope} {f:Addr} {cd:Value} {A:Around} {outer:List Env} {s s1:Shared} {H:Hp} {E:XK} {us:List Value} {vs:List V}
  (S:aG N ps scope) (e0:yV P w K mg base A outer s H) (hl:vs.length=ps.length) (r:Vals vs us)
  (x:InCallC s s.heap.objs.size (bindL (envOfC qual scope s.heap.objs.size f cd).kindOf (ps.zip us) fun _=>none) (cellsFrom (s.heap.objs.size + 1) scope.names []) (bindC (envOfC qual scope s.heap.objs.size f cd).kindOf (ps.zip us) fun _=>none) s1) :
  Inv (GN P w K mg base N qual scope f cd A outer s H E) [] (start N vs) H s1:=by
 have I:Inv (fY qD P w K mg base N qual scope f cd { A with handled:=none } outer s H E) [] (start N vs) H s1 :=
  qK S rfl ⟨e0.frames,e0.mod,e0.bs,e0.bsz,e0.kj,e0.frf,e0.hok,e0.bare⟩ hl r x
 exact⟨⟨I.ok.mod,I.ok.kind,I.ok.glob,I.ok.blt,I.ok.above,I.ok.inj,I.ok.has,I.ok.cab,(fun z=>by cases z),I.ok.frames,I.ok.stk,I.ok.exf,I.ok.bs,I.ok.bsz,I.ok.noex,I.ok.exfs,I.ok.kj,I.ok.frf⟩,I.os,I.bare,I.base,I.loc,I.cell,I.free,I.freeC,I.pin,I.hok,I.len⟩
theorem Gi {k:Nat} {f:Addr} {name qual:Str} {params:Arguments} {body:List Stmt} {scope:Scope} {dV kV doc pm cdv ct oc:Value} {an od:Option Addr}
  {osl:Array (Option Value)} {N ps:List Str} {sp:Sp} (lk:K.lookup f=some ⟨oc,od,.func (PySem.W.fnOf name qual params body scope dV kV doc pm an cdv ct),osl⟩) (hcd:PySem.W.codeIn K cdv qual=true) (S:aG N ps scope)
  (len:∀vs H Q E,sp vs H Q E→vs.length=ps.length)
  (hbody:∀(A:Around) (outer:List Env) (s:Shared) (H:Hp) (vs:List V) (Q:VK) (E:XK),gr k (A.deeper (envOfC qual scope s.heap.objs.size f cdv))→sp vs H Q E →
   ∃t,vc (GN P w K mg base N qual scope f cdv A outer s H E) body t∧t { nx:=fun _ H'=>Q .non H',rt:=Q } (start N vs) H) :
  Ja P w K mg base (k + 1) f (PySem.W.fnOf name qual params body scope dV kV doc pm an cdv ct) ps sp:=by
 refine⟨len,fun A outer s H args us vs Q E hr e0 hb r hsp=>?_⟩
 have hl:=len _ _ _ _ hsp
 have KX:K.In s.heap:=e0.mod.kin.keeps fun b o e=>(e0.bs b o e).1
 have lim:s.heap.NoLimit:=e0.mod.nolimit.keeps fun b o e=>(e0.bs b o e).1
 have hkind:∀y∈ps.zip us,scope.names.lookup y.1=some .local∨(scope.names.lookup y.1=some .cell∧((cellsFrom (s.heap.objs.size + 1) scope.names []).lookup y.1).isSome=true):=fun⟨n,v⟩ hy=>by
  rcases S.par n (List.of_mem_zip hy).1 with q | q
  ·exact .inl q
  ·exact .inr ⟨q,PySem.W.cellsFrom_some _ _ _ (.inl q)⟩
 refine codeAny_call_function hr.depth (KX _ _ lk) rfl S.co S.gen rfl (PySem.W.codeRec_of KX hcd) (hb _ _ _ _ ?_)
 refine wpAny_newFunctionEnv_cells S.kind hkind fun env he s1 x=>?_
 subst he
 refine⟨lim.keeps x.toInCall.keep,codeAny_func ?_⟩
 obtain⟨t,ht,hq⟩:=hbody A outer s H vs Q E (hr.deeper _) hsp
 have I:Inv (GN P w K mg base N qual scope f cdv A outer s H E) [] (start N vs) H s1:=xk S e0 hl r x
 refine wpAny_mono (ht [] s1 (start N vs) H _ I hq) (fun fl s' hs=>?_) fun e s' hs=>False.elim hs
 have fin:∀{σ':St} {H':Hp} {v:V} {u:Value},Inv (GN P w K mg base N qual scope f cdv A outer s H E) [] σ' H' s'→RelV v u→Q v H'→CE outer P w H s Q u s' :=
  fun {σ' H' v u} J rv q=>⟨v,H',J.os,J.bare,J.base,J.hok,rv,q⟩
 cases fl with
 | ret u =>
  obtain⟨v,σ',H',J,rv,q⟩:=hs
  exact fin J rv q
 | next =>
  obtain⟨σ',H',J,q⟩:=hs
  exact fin (v:=V.non) (u:=Value.none) J rfl q
 | brk =>
  obtain⟨_,_,_,q⟩:=hs
  exact False.elim q
 | cont =>
  obtain⟨_,_,_,q⟩:=hs
  exact False.elim q
structure oE (P:Program) (w:World) (K:PySem.W.Frag) (mg:Str→Option Value) (base:Heap) (k:Nat) (x:Str) (f:Fw):Prop where
 ex:∃(fa:Addr) (fd:FuncData) (ps:List Str),Ja P w K mg base k fa fd ps (DI K f)∧mg x=some (.ref fa)∧PySem.W.keepIn K (.ref fa)=true∧Binds K fd ps []
theorem mX.xx {x qual:Str} {st:Stmt} {fa:Addr} {fd:FuncData} {N ps:List Str} {k:Nat} {f:Fw} (F:mX K x qual st fa fd) (S:aG N ps (ak st)) (hmg:mg x=some (.ref fa)) (hb:Binds K fd ps [])
  (hl:∀ds Q,f ds Q→ds.length=ps.length)
  (hbody:∀(cdv:Value) (A:Around) (outer:List Env) (s:Shared) (H:Hp) (E:XK),gr k (A.deeper (envOfC qual (ak st) s.heap.objs.size fa cdv)) →
   ∃t,mI (GN P w K mg base N qual (ak st) fa cdv A outer s H E) (a8 st) t∧∀ds (Q:D→Prop),f ds Q→t { nx:=fun _=>Q .non,rt:=Q } (aJ N ds)) :
  oE P w K mg base (k + 1) x f:=by
 refine⟨fa,fd,ps,?_,hmg,F.kp,hb⟩
 obtain⟨oc,od,kV,doc,pm,an,cdv,ct,osl,rfl,lk,hcd⟩:=F.ex
 refine Gi lk hcd S (fun vs H Q E h=>?_) fun A outer s H vs Q E hr h=>?_
 ·obtain⟨F0,ds,P,_,hd,hf,_⟩:=h
  rw [← hd.length];exact hl ds _ hf
 ·obtain⟨F0,ds,P,fh,hd,hf,kk⟩:=h
  obtain⟨t,ht,hq⟩:=hbody cdv A outer s H E hr
  refine⟨_,d9,?_⟩
  have core:=ht _ (start N vs) F0 H (aJ N ds) _ (fS fh hd) (hq ds P hf)
  refine fR core (fun σ' H' ⟨F',env',r,q⟩=>?_) (fun v H' ⟨F',d',r,dd,q⟩=>?_) (fun _ _ ⟨_,_,_,q⟩=>q) (fun _ _ ⟨_,_,_,q⟩=>q)
  ·exact kk .non .non F' H' r.f0 r.h0 r.fh (fun p h1 h2=>r.nf p ⟨h1,h2⟩) jx q
  ·exact kk d' v F' H' r.f0 r.h0 r.fh (fun p h1 h2=>r.nf p ⟨h1,h2⟩) dd q
end
section
variable {X:Cx} {e:Expr} {es:List Expr} {t:TA} {ts:eI} {p pos:Pos} {x:Str} {k:Nat} {f:Fw} {fa:Addr} {fd:FuncData} {ps:List Str} {sp:Sp} {E:XK}
theorem AE (F:Ja X.prog X.w X.K X.mg X.base k fa fd ps sp) (hr:gr k X.A) (hg:Gl X x) (hm:X.mg x=some (.ref fa)) (hk:PySem.W.keepIn X.K (.ref fa)=true) (hb:Binds X.K fd ps []) (hx:Passes qD X E)
  (ha:PA X (e :: es) t) (hdb:(x == ("__debug__" : Str))=false:=by decide) (he:starEach (e :: es) X.env=(false,eval e X.env) :: starEach es X.env:=by rfl) (hpl:(backTo pos (starEach es X.env)).any (·.1)=false:=by rfl) :
  PE X (.Call (.Name x p) (e :: es) [] pos) (DW sp [] E t):=by
 intro pins s σ H Q I h
 refine wpAny_Call_Name_kw (hV I hg hm ?_ hdb)
 refine PySem.W.callWith_K (h₀:=X.base) I.ok.mod.kin hk (bP (ha pos pins s σ H _ I h) fun us s1 ⟨vs,H1,I1,r,q⟩=>⟨I1.qR,?_⟩) he hpl
 have r2:Vals (vs ++ []) (us ++ []):=r.append .nil
 have hl:(us ++ []).length=ps.length:=by rw [← r2.length];exact F.len _ _ _ _ q
 refine wpAny_call (codeAny_mono (F.run X.A X.stack s1 H1 ⟨us,[]⟩ (us ++ []) (vs ++ []) Q E hr I1.hW (hb s1 us I1.qR hl) r2 q) fun r s' hq=>?_)
 cases r with
 | error e=>exact hx pins σ H1 s1 e s' I1 hq
 | ok fl =>
  cases fl with
  | ret u=>exact I1.after hq
  | next=>exact False.elim hq
  | brk=>exact False.elim hq
  | cont=>exact False.elim hq
theorem Dr (h:oE X.prog X.w X.K X.mg X.base k x f) (hr:gr k X.A) (ha:QA X (e :: es) ts) (hg:Gl X x:=by rfl) (hdb:(x == ("__debug__" : Str))=false:=by decide)
  (he:starEach (e :: es) X.env=(false,eval e X.env) :: starEach es X.env:=by exact aR rfl) (hpl:(backTo pos (starEach es X.env)).any (·.1)=false:=by rfl):QE X (.Call (.Name x p) (e :: es) [] pos) (az f ts):=by
 refine⟨?_⟩
 intro B σ F H env Q rp hq
 obtain⟨fa,fd,ps,G,hm,hk,hb⟩:=h.ex
 refine bD (AE G hr hg hm hk hb zO js hdb he hpl) ?_
 refine cg (ha B σ F H env _ rp hq) fun vs H1 ⟨F1,ds,r1,s1,d1,hf⟩=>?_
 rw [List.append_nil]
 exact⟨F1,ds,Q,r1.fh,d1,hf,fun d v F' H' a b c n hd q=>⟨F',d,r1.ext a c b n,s1.trans a,hd,q⟩⟩
end
end L2.L3
namespace L2.L3
open PySem PySem.Spec PyProof.Rows
structure bB (K:PySem.W.Frag) (x:Str) (st:Stmt):Prop where
 ex:∃(f:Addr) (oc:Value) (od an:Option Addr) (sl:Array (Option Value)) (kV dc pm cd ct:Value),PySem.W.nsIn K mainGlobals x=some (some (.ref f)) ∧
  K.lookup f=some ⟨oc,od,.func (PySem.W.fnOf x x (c8 st) (a8 st) (ak st) .none kV dc pm an cd ct),sl⟩∧PySem.W.codeIn K cd x=true∧PySem.W.keepIn K (.ref f)=true
structure xl (K:PySem.W.Frag) (x:Str) (st:Stmt) (i:Int):Prop where
 ex:∃(f:Addr) (oc:Value) (od an:Option Addr) (sl:Array (Option Value)) (ta:Addr) (kV dc pm cd ct:Value) (tn:Nat) (ts:Array (Option Value)) (tt:Tok),PySem.W.nsIn K mainGlobals x=some (some (.ref f)) ∧
  K.lookup f=some ⟨oc,od,.func (PySem.W.fnOf x x (c8 st) (a8 st) (ak st) (.ref ta) kV dc pm an cd ct),sl⟩∧PySem.W.codeIn K cd x=true∧PySem.W.keepIn K (.ref f)=true ∧
  K.lookup ta=some ⟨.type "tuple",none,.seq #[.int i tt] tn,ts⟩
section
variable {K:PySem.W.Frag} {h:Heap} {mg:Str→Option Value} {x:Str} {st:Stmt} {i:Int}
theorem bB.get {ps:List Str} (D:bB K x st) (X:K.In h) (G:h.Ns mainGlobals mg)
  (hb:∀(kV doc pm:Value) (an:Option Addr) (cdv ct:Value) (us:List Value),us.length=ps.length→bindArgs (PySem.W.fnOf x x (c8 st) (a8 st) (ak st) .none kV doc pm an cdv ct) ⟨us,[]⟩=pure (ps.zip us)) :
  ∃fa fd,mX K x x st fa fd∧mg x=some (.ref fa)∧Binds K fd ps []:=by
 obtain⟨f,oc,od,an,sl,kV,dc,pm,cd,ct,a,l,c,k⟩:=D.ex
 have F:=AZ l c k
 exact⟨f,_,F,PySem.W.mg_of X G a,F.binds hb⟩
theorem xl.get {ps:List Str} (D:xl K x st i) (X:K.In h) (G:h.Ns mainGlobals mg)
  (hb:∀(ta:Addr) (tn:Nat) (ts:Array (Option Value)) (tt:Tok) (kV doc pm:Value) (an:Option Addr) (cdv ct:Value),K.lookup ta=some ⟨.type "tuple",none,.seq #[.int i tt] tn,ts⟩→Binds K (PySem.W.fnOf x x (c8 st) (a8 st) (ak st) (.ref ta) kV doc pm an cdv ct) ps [.int i tt]) :
  ∃fa fd tt,sI K x x st fa fd∧mg x=some (.ref fa)∧Binds K fd ps [.int i tt]:=by
 obtain⟨f,oc,od,an,sl,ta,kV,dc,pm,cd,ct,tn,ts,tt,a,l,c,k,dl⟩:=D.ex
 exact⟨f,_,tt,DF l c k,PySem.W.mg_of X G a,hb ta tn ts tt _ _ _ _ _ _ dl⟩
theorem bB.JW {fa:Addr} {p:Str} (D:bB K x st) (X:K.In h) (G:h.Ns mainGlobals mg) (hfa:mg x=some (.ref fa))
  (hb:∀(kV doc pm:Value) (an:Option Addr) (cdv ct:Value) (v:Value),bindArgs (PySem.W.fnOf x x (c8 st) (a8 st) (ak st) .none kV doc pm an cdv ct) ⟨[v],[]⟩=pure [(p,v)]) :
  ∃fd,mX K x x st fa fd∧∀(s:Shared) (v:Value),BindsTo s fd ⟨[v],[]⟩ [(p,v)]:=by
 obtain⟨f,oc,od,an,sl,kV,dc,pm,cd,ct,a,l,c,k⟩:=D.ex
 have e:=hfa.symm.trans (PySem.W.mg_of X G a)
 cases e
 exact⟨_,AZ l c k,fun s v=>.of_eq (hb kV dc pm an cd ct v)⟩
end
theorem zB {P:List Value→Prop} (h:∀a,P [a]):∀us:List Value,us.length=1→P us | [a],_=>h a
theorem zl {P:List Value→Prop} (h:∀a b,P [a,b]):∀us:List Value,us.length=2→P us | [a,b],_=>h a b
theorem IC {P:List Value→Prop} (h:∀a b c,P [a,b,c]):∀us:List Value,us.length=3→P us | [a,b,c],_=>h a b c
structure Df (K:PySem.W.Frag) (mg:Str→Option Value) (x:Str) (st:Stmt) (ps:List Str):Prop where
 ex:∃fa fd,mX K x x st fa fd∧mg x=some (.ref fa)∧Binds K fd ps []
structure ID (K:PySem.W.Frag) (mg:Str→Option Value) (x:Str) (st:Stmt) (ps:List Str) (i:Int):Prop where
 ex:∃fa fd tt,sI K x x st fa fd∧mg x=some (.ref fa)∧Binds K fd ps [.int i tt]
section
variable {P:Program} {w:World} {K:PySem.W.Frag} {mg:Str→Option Value} {base:Heap} {x:Str} {st:Stmt} {N ps:List Str} {k:Nat} {f:Fw} {fx:zz} {i:Int}
theorem Df.known (F:Df K mg x st ps) (S:aG N ps (ak st)) (hl:∀ds Q,f ds Q→ds.length=ps.length)
  (hbody:∀(fa:Addr) (cdv:Value) (A:Around) (outer:List Env) (s:Shared) (H:Hp) (E:XK),cY k (A.deeper (envOfC x (ak st) s.heap.objs.size fa cdv)) →
   ∃t,mI (fY qD P w K mg base N x (ak st) fa cdv A outer s H E).nF (a8 st) t∧∀ds (Q:D→Prop),f ds Q→t { nx:=fun _=>Q .non,rt:=Q } (aJ N ds)):Known P w K mg base (k + 1) x f :=
 let ⟨fa,_,F,m,b⟩:=F.ex;mX.known F S m b hl (hbody fa)
theorem ID.known (F:ID K mg x st ps i) (S:aG N ps (ak st)) (hl:∀ds Q,f ds Q→ds.length=ps.length)
  (hbody:∀(fa:Addr) (cdv:Value) (A:Around) (outer:List Env) (s:Shared) (H:Hp) (E:XK),cY k (A.deeper (envOfC x (ak st) s.heap.objs.size fa cdv)) →
   ∃t,mI (fY qD P w K mg base N x (ak st) fa cdv A outer s H E).nF (a8 st) t∧∀ds (Q:D→Prop),f ds Q→t { nx:=fun _=>Q .non,rt:=Q } (aJ N ds)):oY P w K mg base (k + 1) x f i :=
 let ⟨fa,_,_,F,m,b⟩:=F.ex;sI.known F S m b hl (hbody fa)
theorem Df.xx (F:Df K mg x st ps) (S:aG N ps (ak st)) (hl:∀ds Q,f ds Q→ds.length=ps.length)
  (hbody:∀(fa:Addr) (cdv:Value) (A:Around) (outer:List Env) (s:Shared) (H:Hp) (E:XK),gr k (A.deeper (envOfC x (ak st) s.heap.objs.size fa cdv)) →
   ∃t,mI (GN P w K mg base N x (ak st) fa cdv A outer s H E) (a8 st) t∧∀ds (Q:D→Prop),f ds Q→t { nx:=fun _=>Q .non,rt:=Q } (aJ N ds)):oE P w K mg base (k + 1) x f :=
 let ⟨fa,_,F,m,b⟩:=F.ex;mX.xx F S m b hl (hbody fa)
theorem Df.sP (F:Df K mg x st ps) (S:aG N ps (ak st)) (hl:∀ds Q R,fx ds Q R→ds.length=ps.length)
  (hbody:∀(fa:Addr) (cdv:Value) (A:Around) (outer:List Env) (s:Shared) (H:Hp) (E:XK),cY k (A.deeper (envOfC x (ak st) s.heap.objs.size fa cdv)) →
   ∃t,GL (fY (Dm P w) P w K mg base N x (ak st) fa cdv A outer s H E) (a8 st) t∧∀ds (Q:D→Prop) (R:Str→Prop),fx ds Q R→t { nx:=fun _=>Q .non,rt:=Q,xc:=R } (aJ N ds)):fP P w K mg base (k + 1) x fx :=
 let ⟨fa,_,F,m,b⟩:=F.ex;mX.sP F S m b hl (hbody fa)
theorem Df.xJ (F:Df K mg x st ps) (S:aG N ps (ak st)) (hl:∀ds Q R,fx ds Q R→ds.length=ps.length)
  (hbody:∀(fa:Addr) (cdv:Value) (A:Around) (outer:List Env) (s:Shared) (H:Hp) (E:XK),cY k (A.deeper (envOfC x (ak st) s.heap.objs.size fa cdv)) →
   ∃t,GJ (fY (Dm P w) P w K mg base N x (ak st) fa cdv A outer s H E) (a8 st) t∧∀ds (Q:D→Prop) (R:Str→Prop),fx ds Q R→t { nx:=fun _=>Q .non,rt:=Q,xc:=R } (aJ N ds)):fP P w K mg base (k + 1) x fx :=
 let ⟨fa,_,F,m,b⟩:=F.ex;mX.xJ F S m b hl (hbody fa)
end
end L2.L3
namespace L2.L3
open PySem
structure M4 where
 a:Int
 b:Int
 c:Int
 d:Int
 deriving DecidableEq
namespace M4
def toD (m:M4):D:=.tup [.int m.a,.int m.b,.int m.c,.int m.d]
def mul (m k:M4):M4:=⟨m.a * k.a + m.b * k.c,m.a * k.b + m.b * k.d,m.c * k.a + m.d * k.c,m.c * k.b + m.d * k.d⟩
def neg (m:M4):M4:=⟨-m.a,-m.b,-m.c,-m.d⟩
def det (m:M4):Int:=m.a * m.d - m.b * m.c
def zA (m:M4):Prop:=m.c < 0∨(m.c=0∧m.d < 0)
instance (m:M4):Decidable m.zA:=inferInstanceAs (Decidable (_∨_))
def up (m:M4):M4:=if m.zA then m.neg else m
def B (n:Nat) (m:M4):Prop:=cD n m.a∧cD n m.b∧cD n m.c∧cD n m.d
def T (m:M4):Prop:=m.det=1∧(0 < m.c∨(m.c=0∧m.d=1))
def one:M4:=⟨1,0,0,1⟩
theorem B.mul {n k:Nat} {m l:M4} (h:m.B n) (g:l.B k):(m.mul l).B (n + k + 1):=by
 obtain⟨h1,h2,h3,h4⟩:=h
 obtain⟨g1,g2,g3,g4⟩:=g
 have two:∀{x y u v:Int},cD n x→cD k y→cD n u→cD k v→cD (n + k + 1) (x * y + u * v):=fun hx hy hu hv=>by
  have:=bits_add (bits_mul hx hy) (bits_mul hu hv)
  rwa [Nat.max_self] at this
 exact⟨two h1 g1 h2 g3,two h1 g2 h2 g4,two h3 g1 h4 g3,two h3 g2 h4 g4⟩
theorem B.neg {n:Nat} {m:M4} (h:m.B n):m.neg.B n:=⟨bits_neg h.1,bits_neg h.2.1,bits_neg h.2.2.1,bits_neg h.2.2.2⟩
theorem Ap {m:M4} (h:m.zA):m.up=m.neg:=if_pos h
theorem B5 {m:M4} (h:¬ m.zA):m.up=m:=if_neg h
theorem B.up {n:Nat} {m:M4} (h:m.B n):m.up.B n:=by
 unfold M4.up;split
 ·exact h.neg
 ·exact h
theorem B.le {n k:Nat} {m:M4} (h:m.B n) (hk:n≤k):m.B k:=⟨bits_le h.1 hk,bits_le h.2.1 hk,bits_le h.2.2.1 hk,bits_le h.2.2.2 hk⟩
theorem CT (m:M4):m.neg.det=m.det:=by simp only [det,neg];rw [Int.neg_mul_neg,Int.neg_mul_neg]
theorem Fg (m:M4):m.up.det=m.det:=by
 unfold up;split
 ·exact CT m
 ·rfl
theorem nJ (m k:M4):(m.mul k).det=m.det * k.det:=by
 simp only [det,mul]
 grind
theorem Ip {m:M4} (h:m.det=1):m.up.T:=by
 refine⟨by rw [Fg];exact h,?_⟩
 unfold det at h
 unfold up
 have key:∀x y:Int,x * y=1→0≤y→y=1:=fun x y hxy hy=>Int.eq_one_of_dvd_one hy ⟨x,by rw [Int.mul_comm];exact hxy.symm⟩
 by_cases hl:m.zA
 ·rw [if_pos hl]
  rcases hl with hl | ⟨h0,h1⟩
  ·left;show 0 < -m.c;omega
  ·right
   refine⟨by show -m.c=0;omega,?_⟩
   show -m.d=1
   rw [h0,Int.mul_zero,Int.sub_zero] at h
   exact key (-m.a) (-m.d) (by rw [Int.neg_mul_neg];exact h) (by omega)
 ·rw [if_neg hl]
  unfold zA at hl
  by_cases hc:0 < m.c
  ·exact .inl hc
  ·right
   have h0:m.c=0:=by omega
   refine⟨h0,?_⟩
   rw [h0,Int.mul_zero,Int.sub_zero] at h
   exact key m.a m.d h (by omega)
theorem Ec {m k:M4} (h:m.T) (g:k.T):(m.mul k).up.T:=Ip (by rw [nJ,h.1,g.1];rfl)
end M4
def rH (x y:D) (Q:D→Prop):Prop:=∃(m k:M4) (n j:Nat),x=m.toD∧y=k.toD∧m.B n∧k.B j∧n + j≤1000000∧Q (m.mul k).up.toD
def bL:Fw:=F2 rH
def jt:bC:=(aF (lO (ag 0) (iG 4 (aZ (aP 2) (aZ (aP 3) (aZ (aP 4) (aZ (aP 5) iH)))))) (aF (lO (ag 1) (iG 4 (aZ (aP 6) (aZ (aP 7) (aZ (aP 8) (aZ (aP 9) iH)))))) (aF (aX 10 (bT (af (aC bM (aC fN (ag 2) (ag 6)) (aC fN (ag 3) (ag 8))) (af (aC bM (aC fN (ag 2) (ag 7)) (aC fN (ag 3) (ag 9))) (af (aC bM (aC fN (ag 4) (ag 6)) (aC fN (ag 5) (ag 8))) (af (aC bM (aC fN (ag 4) (ag 7)) (aC fN (ag 5) (ag 9))) av)))))) (aF (fX (AR (aM (aC wD (aC cz (ag 10) (cC (.int 2))) (cC (.int 0)))) (pA (aM (aC gI (aC cz (ag 10) (cC (.int 2))) (cC (.int 0)))) (aM (aC wD (aC cz (ag 10) (cC (.int 3))) (cC (.int 0)))))) (bo (az gz (af (fu (kN [] (ag 10) fg (aC fF (cC (.int 0)) (ag 0)))) av))) bq) (bo (ag 10))))))
theorem qf:∀ds Q,bL ds Q→ds.length=2:=je
theorem rO:∀ds (Q:D→Prop),bL ds Q→jt { nx:=fun _=>Q .non,rt:=Q } (aJ ["_law_one","_law_other","_law_a","_law_b","_law_c","_law_d","_law_e","_law_f","_law_g","_law_h","_law_found"] ds):=by
 rintro ds Q ⟨x,y,rfl,m,k,n,j,rfl,rfl,⟨h1,h2,h3,h4⟩,⟨g1,g2,g3,g4⟩,hs,h⟩
 simp_all_arith only [jt,M4.toD]
 refine⟨gv h1 g1 hs,gv h2 g3 hs,gv h1 g2 hs,gv h2 g4 hs,gv h3 g1 hs,gv h4 g3 hs,gv h3 g2 hs,gv h4 g4 hs,?_⟩
 refine⟨_,rfl,?_⟩
 simp_all_arith only [and_true]
 by_cases c1:m.c * k.a + m.d * k.c < 0
 ·rw [M4.Ap (show (m.mul k).zA from .inl c1)] at h
  rw [if_pos c1]
  simp_all_arith only [comps,dX,Int.zero_sub]
  exact h
 ·rw [if_neg c1]
  refine⟨_,rfl,?_⟩
  simp_all_arith only [and_true]
  by_cases c2:m.c * k.a + m.d * k.c=0
  ·rw [if_pos c2]
   refine⟨_,rfl,?_⟩
   simp_all_arith only [and_true]
   by_cases c3:m.c * k.b + m.d * k.d < 0
   ·rw [M4.Ap (show (m.mul k).zA from .inr ⟨c2,c3⟩)] at h
    rw [if_pos c3]
    simp_all_arith only [comps,dX,Int.zero_sub]
    exact h
   ·rw [M4.B5 (show ¬ (m.mul k).zA from by unfold M4.zA;simp only [M4.mul];omega)] at h
    rw [if_neg c3];exact h
  ·rw [M4.B5 (show ¬ (m.mul k).zA from by unfold M4.zA;simp only [M4.mul];omega)] at h
   rw [if_neg c2];exact h
def isLet (c:Nat):Prop:=c=115∨c=114∨c=113
def LW (z:Str):Prop:=∀c∈z.cps.toList,isLet c
def yS:List Nat→Prop
 | x :: y :: r=>((x=115)↔¬ (y=115))∧yS (y :: r)
 | _=>True
theorem qL:∀(xs:List Nat) (y:Nat),yS xs→(∀x,xs.getLast?=some x→((x=115)↔¬ (y=115)))→yS (xs ++ [y])
 | [],_,_,_=>trivial
 | [x],y,_,h=>⟨h x rfl,trivial⟩
 | x :: x' :: r,y,h,hl=>⟨h.1,qL (x' :: r) y h.2 (fun z hz=>hl z (by simpa [List.getLast?_cons_cons] using hz))⟩
def aQ (c:Nat):M4:=if c=115 then ⟨0,-1,1,0⟩ else if c=114 then ⟨0,-1,1,-1⟩ else ⟨1,-1,1,0⟩
theorem Ci (c:Nat):(aQ c).B 1:=by
 unfold aQ;split
 ·exact⟨dF _ _ (by decide),dF _ _ (by decide),dF _ _ (by decide),dF _ _ (by decide)⟩
 ·split
  ·exact⟨dF _ _ (by decide),dF _ _ (by decide),dF _ _ (by decide),dF _ _ (by decide)⟩
  ·exact⟨dF _ _ (by decide),dF _ _ (by decide),dF _ _ (by decide),dF _ _ (by decide)⟩
theorem Bh (c:Nat):(aQ c).det=1:=by
 unfold aQ;split
 ·rfl
 ·split <;> rfl
theorem snoc_ind {α:Type} {P:List α→Prop} (h0:P []) (hs:∀r c,P r→P (r ++ [c])) (xs:List α):P xs:=by
 have h:∀ys:List α,P ys.reverse:=fun ys=>by
  induction ys with
  | nil=>exact h0
  | cons y r ih=>rw [List.reverse_cons];exact hs _ _ ih
 simpa using h xs.reverse
def dD (cs:List Nat):M4:=cs.foldl (fun m c=>(m.mul (aQ c)).up) M4.one
theorem iw (cs:List Nat) (c:Nat):dD (cs ++ [c])=((dD cs).mul (aQ c)).up:=by
 unfold dD;rw [List.foldl_append];rfl
theorem yj (cs:List Nat):(dD cs).B (2 * cs.length + 1):=by
 refine snoc_ind (P:=fun cs=>(dD cs).B (2 * cs.length + 1)) ?_ ?_ cs
 ·exact⟨dF _ _ (by decide),dF _ _ (by decide),dF _ _ (by decide),dF _ _ (by decide)⟩
 ·intro r c ih
  rw [iw]
  exact ((ih.mul (Ci c)).up).le (by simp;omega)
theorem Dt (cs:List Nat):(dD cs).T:=by
 refine snoc_ind (P:=fun cs=>(dD cs).T) ?_ ?_ cs
 ·exact⟨rfl,.inr ⟨rfl,rfl⟩⟩
 ·intro r c ih
  rw [iw]
  exact M4.Ip (by rw [M4.nJ,ih.1,Bh];rfl)
def EH (x:D) (Q:D→Prop):Prop:=∃z:Str,x=.str z∧LW z∧z.length≤100000∧Q (dD z.cps.toList).toD
def aS:Fw:=F1 EH
def gB:bC:=(aF (aX 1 (bT (af (cC (.int 1)) (af (cC (.int 0)) (af (cC (.int 0)) (af (cC (.int 1)) av)))))) (aF (lZ (ag 0) (aP 2) (aX 1 (az bL (af (ag 1) (af (aC HW (qA [.inr "s",.inr "r",.inr "q"] (af (bT (af (cC (.int 0)) (af (qT iI (cC (.int 1))) (af (cC (.int 1)) (af (cC (.int 0)) av))))) (af (bT (af (cC (.int 0)) (af (qT iI (cC (.int 1))) (af (cC (.int 1)) (af (qT iI (cC (.int 1))) av))))) (af (bT (af (cC (.int 1)) (af (qT iI (cC (.int 1))) (af (cC (.int 1)) (af (cC (.int 0)) av))))) av)))) (ag 2)) av))))) (bo (ag 1))))
theorem m3:∀ds Q,aS ds Q→ds.length=1:=jc
theorem pO:∀ds (Q:D→Prop),aS ds Q→gB { nx:=fun _=>Q .non,rt:=Q } (aJ ["_law_word_here","_law_found","_law_letter"] ds):=by
 rintro ds Q ⟨x,rfl,z,rfl,hz,hl,h⟩
 simp_all_arith only [gB,cL]
 refine cf (fun i e=>∃k,e=[some (.d (.str z)),some (.d (dD (z.cps.toList.take i)).toD),k]) ?_ ?_ ⟨_,rfl⟩
 ·rintro i x env N hx ⟨k,rfl⟩ hN
  unfold cT at hx
  rw [List.getElem?_map] at hx
  cases hc:z.cps.toList[i]? with
  | none=>rw [hc] at hx;cases hx
  | some c =>
   rw [hc] at hx
   cases hx
   have hcl:=hz c (List.mem_of_getElem? hc)
   have hi:=(List.getElem?_eq_some_iff.mp hc).1
   have hzl:z.length=z.cps.toList.length:=by simp [Str.length]
   simp_all_arith only [bL,cU,HW,C9]
   have e:vH [Sum.inr (Str.ofString "s"),Sum.inr (Str.ofString "r"),Sum.inr (Str.ofString "q")] [D.tup [D.int 0,D.int (-1),D.int 1,D.int 0],D.tup [D.int 0,D.int (-1),D.int 1,D.int (-1)],D.tup [D.int 1,D.int (-1),D.int 1,D.int 0]] (Sum.inr ⟨#[c]⟩)=some (aQ c).toD:=by
    rcases hcl with rfl | rfl | rfl <;> rfl
   refine⟨_,_,rfl,e,?_⟩
   refine⟨_,_,_,_,rfl,rfl,yj _,Ci c,?_,hN _ ⟨some (.d (.str ⟨#[c]⟩)),?_⟩⟩
   ·rw [List.length_take];omega
   ·rw [List.take_succ,hc]
    simp only [Option.toList]
    rw [iw]
 ·rintro env ⟨k,rfl⟩
  simp_all_arith only [and_true]
  rw [List.take_of_length_le (by simp [cT])]
  exact h
end L2.L3
namespace L2.L3
open PySem
abbrev Z2:=Int×Int
def fE (x:Z2):D:=.tup [.int x.1,.int x.2]
def IM (x:Z2):Prop:=x.2 < 0∨(x.2=0∧x.1 < 0)
instance (x:Z2):Decidable (IM x):=inferInstanceAs (Decidable (_∨_))
theorem AD (m:M4):m.up=m∨m.up=m.neg:=by
 unfold M4.up;split
 ·exact .inr rfl
 ·exact .inl rfl
end L2.L3
namespace L2.L3
open PySem
def B2 (n:Nat) (x:Z2):Prop:=cD n x.1∧cD n x.2
theorem BA {n m:Nat} {x:Z2} (h:B2 n x) (hm:n≤m):B2 m x:=⟨bits_le h.1 hm,bits_le h.2 hm⟩
theorem HX:B2 1 ((1,0):Z2):=⟨dF _ _ (by decide),dF _ _ (by decide)⟩
end L2.L3
namespace L2.L3
open PySem
theorem Gb (x y:Z2):ba (fE x) (fE y)=decide (x=y):=by
 simp only [fE,ba,fB,Bool.and_true]
 rw [Bool.eq_iff_iff];simp [Prod.ext_iff]
theorem A0 (x:Z2):dep (fE x)=1:=by simp [fE,dep,cy]
theorem E6 {x y:Z2} {Q:D→Prop}:pT (fE x) (fE y) Q=Q (.bl (!decide (x=y))):=by
 unfold pT jS;rw [A0,A0,Gb];simp
end L2.L3
namespace L2.L3
open PySem
def G2 (P:D→D→(D→Prop)→(Str→Prop)→Prop):zz:=fun ds Q R=>∃x y,ds=[x,y]∧P x y Q R
theorem DY {P}:∀ds (Q:D→Prop) (R:Str→Prop),G2 P ds Q R→ds.length=2:=by rintro ds Q R ⟨x,y,rfl,_⟩;rfl
theorem Eu {P} {x y:D} {Q R}:G2 P [x,y] Q R=P x y Q R:=by
 unfold G2;apply propext;constructor
 ·rintro⟨x',y',e,h⟩;cases e;exact h
 ·intro h;exact⟨_,_,rfl,h⟩
end L2.L3
namespace L2.L3
open PySem
theorem nQ {m k:M4} (h1:m.a=k.a) (h2:m.b=k.b) (h3:m.c=k.c) (h4:m.d=k.d):m=k:=by cases m;cases k;simp_all
theorem vZ (m k:M4):m.neg.mul k=(m.mul k).neg:=by apply nQ <;> simp only [M4.mul,M4.neg] <;> grind
theorem vh (m k:M4):m.mul k.neg=(m.mul k).neg:=by apply nQ <;> simp only [M4.mul,M4.neg] <;> grind
theorem bz (m k l:M4):(m.mul k).mul l=m.mul (k.mul l):=by apply nQ <;> simp only [M4.mul] <;> grind
theorem jr (m:M4):M4.one.mul m=m:=by apply nQ <;> simp only [M4.mul,M4.one] <;> grind
theorem vA (m:M4):m.mul M4.one=m:=by apply nQ <;> simp only [M4.mul,M4.one] <;> grind
theorem kZ (m:M4):m.neg.neg=m:=by apply nQ <;> simp [M4.neg]
def Eqv (m k:M4):Prop:=m=k∨m=k.neg
theorem Eqv.refl (m:M4):Eqv m m:=.inl rfl
theorem Eqv.symm {m k:M4} (h:Eqv m k):Eqv k m:=by
 rcases h with rfl | rfl
 ·exact .inl rfl
 ·exact .inr (kZ k).symm
theorem Eqv.trans {m k l:M4} (h:Eqv m k) (g:Eqv k l):Eqv m l:=by
 rcases h with rfl | rfl
 ·exact g
 ·rcases g with rfl | rfl
  ·exact .inr rfl
  ·rw [kZ];exact .inl rfl
theorem Eqv.mul {m m' k k':M4} (h:Eqv m m') (g:Eqv k k'):Eqv (m.mul k) (m'.mul k'):=by
 rcases h with rfl | rfl <;> rcases g with rfl | rfl
 ·exact .inl rfl
 ·exact .inr (vh _ _)
 ·exact .inr (vZ _ _)
 ·rw [vZ,vh,kZ];exact .inl rfl
theorem Eqv.up (m:M4):Eqv m.up m:=AD m
def aA:List Nat→M4
 | []=>M4.one
 | c :: r=>(aQ c).mul (aA r)
theorem cB (cs:List Nat) (c:Nat):aA (cs ++ [c])=(aA cs).mul (aQ c):=by
 induction cs with
 | nil=>show (aQ c).mul M4.one=M4.one.mul (aQ c);rw [vA,jr]
 | cons x r ih=>show (aQ x).mul (aA (r ++ [c]))=((aQ x).mul (aA r)).mul (aQ c);rw [ih,bz]
theorem ra (cs:List Nat):Eqv (dD cs) (aA cs):=by
 refine snoc_ind (P:=fun cs=>Eqv (dD cs) (aA cs)) (.refl _) (fun r c ih=>?_) cs
 rw [iw,cB]
 exact (Eqv.up _).trans (ih.mul (.refl _))
def Ck (m:M4):Prop:=1≤m.a∧1≤m.d∧m.b≤0∧m.c≤0∧m.det=1
def FE (m:M4):Prop:=∃t:M4,Ck t∧(Eqv m t∨Eqv m (t.mul (aQ 115)))
def aN (cs:List Nat):Prop:=yS cs∧∀c∈cs,isLet c
theorem aN.tail {c:Nat} {r:List Nat} (h:aN (c :: r)):aN r:=by
 refine⟨?_,fun x hx=>h.2 x (List.mem_cons_of_mem _ hx)⟩
 cases r with
 | nil=>trivial
 | cons y s=>exact h.1.2
theorem DP {t:M4} (h:Ck t):Ck ((⟨1,-1,0,1⟩:M4).mul t)∧((⟨1,-1,0,1⟩:M4).mul t).b < 0:=by
 obtain⟨h1,h2,h3,h4,h5⟩:=h
 have hd:((⟨1,-1,0,1⟩:M4).mul t).det=1:=by rw [M4.nJ,h5];rfl
 refine⟨⟨?_,?_,?_,?_,hd⟩,?_⟩ <;> simp only [M4.mul] <;> omega
theorem Eb {t:M4} (h:Ck t):Ck ((⟨1,0,-1,1⟩:M4).mul t)∧((⟨1,0,-1,1⟩:M4).mul t).c < 0:=by
 obtain⟨h1,h2,h3,h4,h5⟩:=h
 have hd:((⟨1,0,-1,1⟩:M4).mul t).det=1:=by rw [M4.nJ,h5];rfl
 refine⟨⟨?_,?_,?_,?_,hd⟩,?_⟩ <;> simp only [M4.mul] <;> omega
theorem JC:Eqv ((aQ 115).mul (aQ 114)) ⟨1,-1,0,1⟩:=.inr (by decide)
theorem IJ:Eqv ((aQ 115).mul (aQ 113)) ⟨1,0,-1,1⟩:=.inr (by decide)
def o9 (m:M4):Prop:=∃t:M4,Ck t∧((Eqv m t∧(t.b < 0∨t.c < 0))∨Eqv m (t.mul (aQ 115)))
theorem o9.J1 {m:M4} (h:o9 m):FE m:=by
 obtain⟨t,p,h⟩:=h
 exact⟨t,p,h.imp (·.1) id⟩
theorem yq:Ck M4.one:=by unfold Ck;decide
theorem xZ:FE M4.one:=⟨M4.one,yq,.inl (.refl _)⟩
theorem qr {u m:M4} (hu:∀t,Ck t→Ck (u.mul t)∧((u.mul t).b < 0∨(u.mul t).c < 0)) (h:FE m):o9 (u.mul m):=by
 obtain⟨t,p,h⟩:=h
 refine⟨u.mul t,(hu t p).1,?_⟩
 rcases h with h | h
 ·exact .inl ⟨(Eqv.refl u).mul h,(hu t p).2⟩
 ·right;rw [bz];exact (Eqv.refl u).mul h
theorem o9.eqv {m k:M4} (h:o9 k) (e:Eqv m k):o9 m:=by
 obtain⟨t,p,h⟩:=h
 exact⟨t,p,h.imp (fun z=>⟨e.trans z.1,z.2⟩) fun z=>e.trans z⟩
theorem Bl:o9 (aQ 115):=⟨M4.one,yq,.inr (by rw [jr];exact .refl _)⟩
theorem nP:∀(cs:List Nat),aN cs→(cs=[]→FE (aA cs))∧(∀r,cs=115 :: r→o9 (aA cs))∧∀c r,cs=c :: r→c≠115→FE (aA r)
 | [],_=>⟨fun _=>xZ,fun r h=>by simp at h,fun c r h=>by simp at h⟩
 | [c],h=>by
  refine⟨fun e=>by simp at e,fun r e=>?_,fun x r e _=>?_⟩
  ·cases e;show o9 ((aQ 115).mul M4.one);rw [vA];exact Bl
  ·cases e;exact xZ
 | c :: y :: r,h=>by
  have ih:=nP (y :: r) h.tail
  have ih2:=nP r h.tail.tail
  refine⟨fun e=>by simp at e,fun r' e=>?_,fun x r' e hx=>?_⟩
  ·cases e
   have hy:y≠115:=h.1.1.mp rfl
   have hb:=ih.2.2 y r rfl hy
   have hl:isLet y:=h.2 y (by simp)
   show o9 ((aQ 115).mul ((aQ y).mul (aA r)))
   rw [← bz]
   rcases hl with z | z | z
   ·exact absurd z hy
   ·subst z
    exact (qr (fun t p=>⟨(DP p).1,.inl (DP p).2⟩) hb).eqv (JC.mul (.refl _))
   ·subst z
    exact (qr (fun t p=>⟨(Eb p).1,.inr (Eb p).2⟩) hb).eqv (IJ.mul (.refl _))
  ·cases e
   have hy:y=115:=by
    rcases Nat.decEq y 115 with z | z
    ·exact absurd (h.1.1.mpr z) hx
    ·exact z
   subst hy
   exact (ih.2.1 r rfl).J1
def gu (p q:Int):Prop:=(p < 0∧0 < q)∨(q < 0∧0 < p)
instance (p q:Int):Decidable (gu p q):=inferInstanceAs (Decidable (_∨_))
def upper (m:M4):Nat:=m.a.natAbs + m.b.natAbs
def lower (m:M4):Nat:=m.c.natAbs + m.d.natAbs
def ux (m:M4):Nat:=if upper m=lower m∨gu m.a m.c∨gu m.b m.d then 115 else if upper m < lower m then 114 else 113
theorem Dk (m:M4):ux m.neg=ux m:=by
 have e1:upper m.neg=upper m:=by unfold upper M4.neg;simp
 have e2:lower m.neg=lower m:=by unfold lower M4.neg;simp
 have d1:gu m.neg.a m.neg.c↔gu m.a m.c:=by unfold gu M4.neg;simp only;omega
 have d2:gu m.neg.b m.neg.d↔gu m.b m.d:=by unfold gu M4.neg;simp only;omega
 unfold ux
 rw [e1,e2]
 simp only [d1,d2]
theorem ib {m k:M4} (h:Eqv m k):ux m=ux k:=by
 rcases h with rfl | rfl
 ·rfl
 ·exact Dk k
theorem ic {m k:M4} (h:Eqv m k):(m.b≠0∨m.c≠0)↔(k.b≠0∨k.c≠0):=by
 rcases h with rfl | rfl
 ·exact Iff.rfl
 ·unfold M4.neg;simp only;omega
theorem Jx {m:M4} (h:o9 m):ux m=115∧(m.b≠0∨m.c≠0):=by
 obtain⟨t,⟨h1,h2,h3,h4,h5⟩,h⟩:=h
 rcases h with ⟨e,hn⟩ | e
 ·rw [ib e,ic e]
  refine⟨?_,by omega⟩
  unfold ux
  rw [if_pos]
  unfold gu
  right
  omega
 ·rw [ib e,ic e]
  have ee:t.mul (aQ 115)=⟨t.b,-t.a,t.d,-t.c⟩:=by apply nQ <;> simp [M4.mul,aQ]
  rw [ee]
  refine⟨?_,by simp only;omega⟩
  unfold ux upper lower gu
  rw [if_pos]
  simp only
  by_cases hb:t.b < 0
  ·right;left;left;omega
  ·by_cases hc:t.c < 0
   ·right;right;left;omega
   ·left
    have b0:t.b=0:=by omega
    have c0:t.c=0:=by omega
    unfold M4.det at h5
    rw [b0,c0,Int.mul_zero,Int.sub_zero] at h5
    have ha:t.a=1:=Int.eq_one_of_dvd_one (by omega) ⟨t.d,h5.symm⟩
    rw [ha,Int.one_mul] at h5
    rw [ha,h5,b0,c0]
    decide
theorem Jt {m:M4} (h:FE m):ux ((aQ 114).mul m)=114∧(((aQ 114).mul m).b≠0∨((aQ 114).mul m).c≠0):=by
 obtain⟨t,⟨h1,h2,h3,h4,h5⟩,h⟩:=h
 rcases h with e | e
 ·have e':=(Eqv.refl (aQ 114)).mul e
  rw [ib e',ic e']
  have ee:(aQ 114).mul t=⟨-t.c,-t.d,t.a - t.c,t.b - t.d⟩:=by apply nQ <;> simp [M4.mul,aQ] <;> omega
  rw [ee]
  unfold ux upper lower gu
  simp only
  refine⟨?_,by omega⟩
  rw [if_neg (by omega),if_pos (by omega)]
 ·have e':=(Eqv.refl (aQ 114)).mul e
  rw [ib e',ic e']
  have ee:(aQ 114).mul (t.mul (aQ 115))=⟨-t.d,t.c,t.b - t.d,t.c - t.a⟩:=by apply nQ <;> simp [M4.mul,aQ] <;> omega
  rw [ee]
  unfold ux upper lower gu
  simp only
  refine⟨?_,by omega⟩
  rw [if_neg (by omega),if_pos (by omega)]
theorem Jq {m:M4} (h:FE m):ux ((aQ 113).mul m)=113∧(((aQ 113).mul m).b≠0∨((aQ 113).mul m).c≠0):=by
 obtain⟨t,⟨h1,h2,h3,h4,h5⟩,h⟩:=h
 rcases h with e | e
 ·have e':=(Eqv.refl (aQ 113)).mul e
  rw [ib e',ic e']
  have ee:(aQ 113).mul t=⟨t.a - t.c,t.b - t.d,t.a,t.b⟩:=by apply nQ <;> simp [M4.mul,aQ] <;> omega
  rw [ee]
  unfold ux upper lower gu
  simp only
  refine⟨?_,by omega⟩
  rw [if_neg (by omega),if_neg (by omega)]
 ·have e':=(Eqv.refl (aQ 113)).mul e
  rw [ib e',ic e']
  have ee:(aQ 113).mul (t.mul (aQ 115))=⟨t.b - t.d,t.c - t.a,t.b,-t.a⟩:=by apply nQ <;> simp [M4.mul,aQ] <;> omega
  rw [ee]
  unfold ux upper lower gu
  simp only
  refine⟨?_,by omega⟩
  rw [if_neg (by omega),if_neg (by omega)]
theorem lE {c:Nat} {r:List Nat} {m:M4} (h:aN (c :: r)) (e:Eqv m (aA (c :: r))):ux m=c∧(m.b≠0∨m.c≠0):=by
 rw [ib e,ic e]
 have w:=nP (c :: r) h
 rcases h.2 c (by simp) with z | z | z
 ·subst z;exact Jx (w.2.1 r rfl)
 ·subst z;exact Jt (w.2.2 _ r rfl (by decide))
 ·subst z;exact Jq (w.2.2 _ r rfl (by decide))
def ny (c:Nat) (m:M4):M4:=if c=115 then ⟨-m.c,-m.d,m.a,m.b⟩ else if c=114 then ⟨m.a - m.c,m.b - m.d,m.a,m.b⟩ else ⟨-m.c,-m.d,m.a - m.c,m.b - m.d⟩
theorem uC (c:Nat) (hc:isLet c) (k:M4):Eqv (ny c ((aQ c).mul k)) k:=by
 rcases hc with z | z | z <;> subst z
 ·right;apply nQ <;> simp [ny,M4.mul,aQ,M4.neg]
 ·right;apply nQ <;> simp [ny,M4.mul,aQ,M4.neg] <;> omega
 ·right;apply nQ <;> simp [ny,M4.mul,aQ,M4.neg] <;> omega
theorem zS (c:Nat) (m:M4):ny c m.neg=(ny c m).neg:=by
 unfold ny;split
 ·simp [M4.neg]
 ·split
  ·apply nQ <;> simp [M4.neg] <;> omega
  ·apply nQ <;> simp [M4.neg] <;> omega
theorem l5 {c:Nat} {r:List Nat} {m:M4} (hc:isLet c) (e:Eqv m (aA (c :: r))):Eqv (ny c m) (aA r):=by
 rcases e with rfl | rfl
 ·exact uC c hc _
 ·rw [zS]
  rcases uC c hc (aA r) with z | z
  ·exact .inr (congrArg M4.neg z)
  ·left;show ((ny c ((aQ c).mul (aA r))).neg)=_;rw [z,kZ]
theorem o5 {m:M4} (e:Eqv m M4.one):m.b=0∧m.c=0:=by
 rcases e with rfl | rfl <;> decide
def GX (x y:D) (Q:D→Prop):Prop:=∃p q:Int,x=.int p∧y=.int q∧Q (.bl (decide (gu p q)))
def bp:Fw:=F2 GX
def eL:bC:=(bo (A9 (jY wD wD (ag 0) (cC (.int 0)) (ag 1)) (jY wD wD (ag 1) (cC (.int 0)) (ag 0))))
theorem j9:∀ds Q,bp ds Q→ds.length=2:=je
theorem kO:∀ds (Q:D→Prop),bp ds Q→eL { nx:=fun _=>Q .non,rt:=Q } (aJ ["p","q"] ds):=by
 rintro ds Q ⟨x,y,rfl,p,q,rfl,rfl,h⟩
 simp_arith! only [eL]
 have key:∀b:Bool,(b=true↔gu p q)→Q (.bl b):=fun b hb=>by
  have e:decide (gu p q)=b:=by rw [Bool.eq_iff_iff,hb];simp
  rwa [e] at h
 unfold gu at key
 split
 ·split
  ·exact key _ (by simp;omega)
  ·split
   ·exact key _ (by simp;omega)
   ·exact key _ (by simp;omega)
 ·split
  ·exact key _ (by simp;omega)
  ·exact key _ (by simp;omega)
def dG (c:Nat):Str:=⟨#[c]⟩
def FC (x:D) (Q:D→Prop):Prop:=∃m:M4,x=m.toD∧Q (.str (dG (ux m)))
def bW:Fw:=F1 FC
def fQ:bC:=(aF (lO (ag 0) (iG 4 (aZ (aP 1) (aZ (aP 2) (aZ (aP 3) (aZ (aP 4) iH)))))) (aF (aX 5 (aC bM (az my (af (ag 1) av)) (az my (af (ag 2) av)))) (aF (aX 6 (aC bM (az my (af (ag 3) av)) (az my (af (ag 4) av)))) (aF (fX (AR (aM (aC gI (ag 5) (ag 6))) (AR (aM (az bp (af (ag 1) (af (ag 3) av)))) (aM (az bp (af (ag 2) (af (ag 4) av)))))) (bo (cC (.str "s"))) bq) (bo (Hy (aM (aC wD (ag 5) (ag 6))) (cC (.str "r")) (cC (.str "q"))))))))
theorem lU:∀ds Q,bW ds Q→ds.length=1:=jc
theorem nz:∀ds (Q:D→Prop),bW ds Q→fQ { nx:=fun _=>Q .non,rt:=Q } (aJ ["one","a","b","c","d","upper","lower"] ds):=by
 rintro ds Q ⟨x,rfl,m,rfl,h⟩
 simp_arith! only [fQ,M4.toD,bp,cU,GX]
 have eu:((m.a.natAbs:Int) + m.b.natAbs)=(upper m:Nat):=by unfold upper;omega
 have el:((m.c.natAbs:Int) + m.d.natAbs)=(lower m:Nat):=by unfold lower;omega
 rw [eu,el]
 unfold ux at h
 by_cases h1:upper m=lower m
 ·rw [if_pos (by omega)];rw [if_pos (.inl h1)] at h;exact h
 ·rw [if_neg (by omega)]
  refine⟨_,_,rfl,rfl,?_⟩
  by_cases h2:gu m.a m.c
  ·rw [if_pos h2];rw [if_pos (.inr (.inl h2))] at h;exact h
  ·rw [if_neg h2]
   refine⟨_,_,rfl,rfl,?_⟩
   by_cases h3:gu m.b m.d
   ·rw [if_pos h3];rw [if_pos (.inr (.inr h3))] at h;exact h
   ·rw [if_neg h3]
    rw [if_neg (by rintro (z | z | z) <;> contradiction)] at h
    by_cases h4:upper m < lower m
    ·rw [if_pos (by omega)];rw [if_pos h4] at h;exact h
    ·rw [if_neg (by omega)];rw [if_neg h4] at h;exact h
def zI (x y:D) (Q:D→Prop):Prop:=∃(c:Nat) (m:M4),x=.str (dG c)∧isLet c∧y=m.toD∧Q (ny c m).toD
def et:Fw:=F2 zI
def lR:bC:=(aF (lO (ag 1) (iG 4 (aZ (aP 2) (aZ (aP 3) (aZ (aP 4) (aZ (aP 5) iH)))))) (aF (fX (aM (aC gI (ag 0) (cC (.str "s")))) (bo (bT (af (qT iI (ag 4)) (af (qT iI (ag 5)) (af (ag 2) (af (ag 3) av)))))) bq) (aF (fX (aM (aC gI (ag 0) (cC (.str "r")))) (bo (bT (af (aC fF (ag 2) (ag 4)) (af (aC fF (ag 3) (ag 5)) (af (ag 2) (af (ag 3) av)))))) bq) (bo (bT (af (qT iI (ag 4)) (af (qT iI (ag 5)) (af (aC fF (ag 2) (ag 4)) (af (aC fF (ag 3) (ag 5)) av)))))))))
theorem uG:∀ds Q,et ds Q→ds.length=2:=je
theorem xG:∀ds (Q:D→Prop),et ds Q→lR { nx:=fun _=>Q .non,rt:=Q } (aJ ["letter","one","a","b","c","d"] ds):=by
 rintro ds Q ⟨x,y,rfl,c,m,rfl,hc,rfl,h⟩
 simp_arith! only [lR,M4.toD]
 rcases hc with z | z | z <;> subst z
 ·rw [if_pos (by rfl)];exact h
 ·rw [if_neg (by decide),if_pos (by rfl)];exact h
 ·rw [if_neg (by decide),if_neg (by decide)];exact h
theorem yD (x y:Str):x ++ y=⟨x.cps ++ y.cps⟩:=rfl
theorem pJ:∀cs:List Nat,Str.join (Str.ofString "") (cs.map dG)=⟨cs.toArray⟩
 | []=>rfl
 | [c]=>rfl
 | c :: y :: r=>by
  have ih:=pJ (y :: r)
  show dG c ++ Str.ofString "" ++ Str.join (Str.ofString "") ((y :: r).map dG)=_
  rw [ih,yD,yD]
  show (⟨#[c] ++ (Str.ofString "").cps ++ (y :: r).toArray⟩:Str)=⟨(c :: y :: r).toArray⟩
  rw [show (Str.ofString "").cps=#[] from rfl]
  simp
theorem xh (cs:List Nat):Txt.join (Str.ofString "") (cs.map dG)=⟨cs.toArray⟩:=(StrLaws.glued_eq_join _ _).trans (pJ cs)
theorem oh:∀cs:List Nat,((cs.map dG).map (·.length)).sum=cs.length
 | []=>rfl
 | c :: r=>by
  have:=oh r
  simp only [List.map_cons,List.sum_cons,List.length_cons,this]
  rw [show (dG c).length=1 from rfl];omega
theorem uT {xs:List D} {x:D}:jN (xs ++ [x]) (-1)=some x:=by
 unfold jN r9
 rw [if_neg (by decide),if_pos (by simp;omega)]
 have e:((-1:Int) + ((xs ++ [x]).length:Nat)).toNat=xs.length:=by simp;omega
 show (xs ++ [x])[((-1:Int) + ((xs ++ [x]).length:Nat)).toNat]?=some x
 rw [e];simp
theorem Jl {m:M4} {Q:D→Prop}:cz m.toD (.int 1) Q=Q (.int m.b):=by
 apply propext;constructor
 ·rintro⟨v,e,h⟩;cases e;exact h
 ·intro h;exact⟨_,rfl,h⟩
theorem Ju {m:M4} {Q:D→Prop}:cz m.toD (.int 2) Q=Q (.int m.c):=by
 apply propext;constructor
 ·rintro⟨v,e,h⟩;cases e;exact h
 ·intro h;exact⟨_,rfl,h⟩
theorem aN.drop {cs:List Nat} (h:aN cs):∀k,aN (cs.drop k)
 | 0=>by simpa using h
 | k + 1=>by
  have:=aN.drop h k
  cases e:cs.drop k with
  | nil =>
   have:cs.drop (k + 1)=[]:=by
    rw [List.drop_eq_nil_iff] at e ⊢;omega
   rw [this];exact⟨trivial,fun c hc=>nomatch hc⟩
  | cons c r =>
   have e2:cs.drop (k + 1)=r:=by rw [← List.tail_drop,e];rfl
   rw [e2];rw [e] at this;exact this.tail
def m5 (c:Nat):D:=.str (dG c)
end L2.L3
namespace L2.L3
open PySem
theorem ei:∀(u v:List Nat),aN u→aN v→Eqv (aA u) (aA v)→u=v
 | [],[],_,_,_=>rfl
 | [],d :: s,_,hv,e=>by
  have h:=(lE hv (m:=aA []) e).2
  obtain⟨hb,hc⟩:=o5 (Eqv.refl M4.one)
  rcases h with h | h
  ·exact absurd hb h
  ·exact absurd hc h
 | c :: r,[],hu,_,e=>by
  have h:=(lE hu (m:=aA []) e.symm).2
  obtain⟨hb,hc⟩:=o5 (Eqv.refl M4.one)
  rcases h with h | h
  ·exact absurd hb h
  ·exact absurd hc h
 | c :: r,d :: s,hu,hv,e=>by
  have h1:=(lE hu (Eqv.refl _)).1
  have h2:=(lE hv e).1
  have hcd:c=d:=h1.symm.trans h2
  subst hcd
  have hc:isLet c:=hu.2 c List.mem_cons_self
  have e1:=l5 hc (Eqv.refl (aA (c :: r)))
  have e2:=l5 hc e
  rw [ei r s hu.tail hv.tail (e1.symm.trans e2)]
theorem pK:∀(r:List Nat) (c:Nat),yS (r ++ [c])→yS r∧∀x,r.getLast?=some x→((x=115)↔¬ (c=115))
 | [],_,_=>⟨trivial,fun x hx=>by simp at hx⟩
 | [x],c,a=>⟨trivial,fun y hy=>by simp at hy;subst hy;exact a.1⟩
 | x :: y :: r,c,a=>by
  have ih:=pK (y :: r) c a.2
  exact⟨⟨a.1,ih.1⟩,fun z hz=>ih.2 z (by simpa [List.getLast?_cons_cons] using hz)⟩
theorem yO {r:List Nat} {c:Nat} (h:aN (r ++ [c])):aN r∧(∀x,r.getLast?=some x→((x=115)↔¬ (c=115)))∧isLet c :=
 ⟨⟨(pK r c h.1).1,fun x hx=>h.2 x (List.mem_append_left _ hx)⟩,(pK r c h.1).2,h.2 c (by simp)⟩
theorem mR {r:List Nat} {c:Nat} (h:aN r) (hc:isLet c) (hl:∀x,r.getLast?=some x→((x=115)↔¬ (c=115))):aN (r ++ [c]):=by
 refine⟨qL r c h.1 hl,fun x hx=>?_⟩
 rcases List.mem_append.mp hx with hx | hx
 ·exact h.2 x hx
 ·rw [List.mem_singleton.mp hx];exact hc
def jL (x c:Nat):Option (List Nat) :=
 if x=115∧c=115 then some [] else if x=114∧c=114 then some [113] else if x=113∧c=113 then some [114] else if (x=114∧c=113)∨(x=113∧c=114) then some [] else none
theorem AU {x c:Nat} {w:List Nat} (h:jL x c=some w):Eqv ((aQ x).mul (aQ c)) (aA w)∧w.length≤1∧(w=[]∨∃y,w=[y]∧isLet y∧y≠115∧x≠115):=by
 unfold jL at h
 split at h
 ·rename_i z;obtain⟨rfl,rfl⟩:=z;cases h;exact⟨.inr (by decide),by decide,.inl rfl⟩
 ·split at h
  ·rename_i z;obtain⟨rfl,rfl⟩:=z;cases h;exact⟨by rw [show aA [113]=aQ 113 from by decide];exact .inr (by decide),by decide,.inr ⟨113,rfl,by unfold isLet;decide,by decide,by decide⟩⟩
  ·split at h
   ·rename_i z;obtain⟨rfl,rfl⟩:=z;cases h;exact⟨by rw [show aA [114]=aQ 114 from by decide];first | exact .inr (by decide) | exact .inl (by decide),by decide,.inr ⟨114,rfl,by unfold isLet;decide,by decide,by decide⟩⟩
   ·split at h
    ·rename_i z;cases h
     rcases z with ⟨rfl,rfl⟩ | ⟨rfl,rfl⟩
     ·exact⟨.inr (by decide),by decide,.inl rfl⟩
     ·exact⟨.inr (by decide),by decide,.inl rfl⟩
    ·cases h
theorem yP {x c:Nat} (hx:isLet x) (hc:isLet c) (h:jL x c=none):(x=115↔¬ (c=115)):=by
 rcases hx with z | z | z <;> rcases hc with y | y | y <;> subst z <;> subst y <;> first | (exact absurd h (by decide)) | decide
def fA (ls:List Nat) (c:Nat):List Nat:=match ls.getLast? with
 | none=>[c]
 | some x=>match jL x c with
  | some w=>ls.dropLast ++ w
  | none=>ls ++ [c]
theorem kd {ls:List Nat} {c:Nat} (h:aN ls) (hc:isLet c):aN (fA ls c)∧Eqv (aA (fA ls c)) (aA (ls ++ [c]))∧(fA ls c).length≤ls.length + 1:=by
 rcases List.eq_nil_or_concat ls with e | ⟨r,x,e⟩
 ·subst e
  exact⟨⟨trivial,fun y hy=>by rw [List.mem_singleton.mp hy];exact hc⟩,.refl _,by simp [fA]⟩
 ·rw [List.concat_eq_append] at e
  subst e
  obtain⟨hr,ha,hx⟩:=yO h
  unfold fA
  rw [List.getLast?_concat]
  simp only
  cases q:jL x c with
  | none =>
   simp only
   refine⟨mR h hc fun y hy=>?_,.refl _,by simp⟩
   rw [List.getLast?_concat] at hy;cases hy
   exact yP hx hc q
  | some w =>
   simp only
   rw [List.dropLast_concat]
   obtain⟨e1,e2,e3⟩:=AU q
   refine⟨?_,?_,by simp;omega⟩
   ·rcases e3 with rfl | ⟨y,rfl,hy,hy5,hx5⟩
    ·rw [List.append_nil];exact hr
    ·refine mR hr hy fun z hz=>?_
     have:=ha z hz
     constructor
     ·intro _;exact hy5
     ·intro _;exact this.mpr hx5
   ·rw [cB,cB,bz]
    have app:∀u v:List Nat,aA (u ++ v)=(aA u).mul (aA v):=fun u v=>by
     induction u with
     | nil=>show aA v=M4.one.mul (aA v);rw [jr]
     | cons a s ih=>show (aQ a).mul (aA (s ++ v))=((aQ a).mul (aA s)).mul (aA v);rw [ih,bz]
    rw [app]
    exact (Eqv.refl _).mul e1.symm
end L2.L3
namespace L2.L3
open PySem
theorem C6 {α:Type} (l:List α) (m:α) (j i:Nat) (hj:j≤l.length):(l.take j ++ m :: l.drop j)[i]?=if i < j then l[i]? else if i=j then some m else l[i - 1]?:=by
 have hl:(l.take j).length=j:=by rw [List.length_take];omega
 by_cases h1:i < j
 ·rw [if_pos h1,List.getElem?_append_left (by omega),List.getElem?_take_of_lt h1]
 ·rw [if_neg h1,List.getElem?_append_right (by omega),hl]
  by_cases h2:i=j
  ·rw [if_pos h2,h2,Nat.sub_self];rfl
  ·rw [if_neg h2,show i - j=(i - j - 1) + 1 by omega,List.getElem?_cons_succ,List.getElem?_drop]
   congr 1;omega
structure uD (k:Nat) (row:List Z2):Prop where
 len:row.length=k + 3
 first:row[0]?=some (-1,0)
 last:row[k + 2]?=some (1,0)
 det:∀(i:Nat) (p r:Z2),row[i]?=some p→row[i + 1]?=some r→p.1 * r.2 - p.2 * r.1 = -1
 low:∀(i:Nat) (p:Z2),row[i]?=some p→0 < i→i < k + 2→1≤p.2
 nought:∃i,0 < i∧i < k + 2∧row[i]?=some (0,1)
 bits:∀p∈row,B2 (k + 2) p
theorem IF:uD 0 [(-1,0),(0,1),(1,0)] where
 len:=rfl
 first:=rfl
 last:=rfl
 det:=fun i p r h1 h2=>by
  match i with
  | 0=>cases h1;cases h2;decide
  | 1=>cases h1;cases h2;decide
  | 2=>cases h2
  | i + 3=>cases h1
 low:=fun i p h h0 h1=>by
  have:i=1:=by omega
  subst this;cases h;decide
 nought:=⟨1,by decide,by decide,rfl⟩
 bits:=fun p hp=>by
  simp only [List.mem_cons,List.not_mem_nil,or_false] at hp
  rcases hp with rfl | rfl | rfl <;> exact⟨dF _ _ (by decide),dF _ _ (by decide)⟩
theorem Gx {k:Nat} {row:List Z2} (h:uD k row) {at_:Nat} (ha:at_ < k + 2) {p r:Z2} (hp:row[at_]?=some p) (hr:row[at_ + 1]?=some r) :
  uD (k + 1) (row.take (at_ + 1) ++ (p.1 + r.1,p.2 + r.2) :: row.drop (at_ + 1)):=by
 have hl:=h.len
 have g:=fun i=>C6 row (p.1 + r.1,p.2 + r.2) (at_ + 1) i (by omega)
 have hd:=h.det at_ p r hp hr
 have pl:0≤p.2:=by
  by_cases z:at_=0
  ·subst z;rw [h.first] at hp;cases hp;decide
  ·have:=h.low at_ p hp (by omega) ha;omega
 have rl:0≤r.2:=by
  by_cases z:at_ + 1=k + 2
  ·rw [z,h.last] at hr;cases hr;decide
  ·have:=h.low (at_ + 1) r hr (by omega) (by omega);omega
 have ne:¬ (p.2=0∧r.2=0):=fun⟨a,b⟩=>by rw [a,b] at hd;simp at hd
 refine⟨by simp;omega,?_,?_,fun i x y h1 h2=>?_,fun i x h1 h0 h2=>?_,?_,fun x hx=>?_⟩
 ·rw [g,if_pos (by omega)];exact h.first
 ·rw [g,if_neg (by omega),if_neg (by omega)];exact h.last
 ·rw [g] at h1 h2
  by_cases c1:i < at_
  ·rw [if_pos (by omega)] at h1 h2;exact h.det i x y h1 h2
  ·by_cases c2:i=at_
   ·subst c2
    rw [if_pos (by omega),hp] at h1
    rw [if_neg (by omega),if_pos rfl] at h2
    cases h1;cases h2
    show p.1 * (p.2 + r.2) - p.2 * (p.1 + r.1) = -1
    grind
   ·by_cases c3:i=at_ + 1
    ·subst c3
     rw [if_neg (by omega),if_pos rfl] at h1
     rw [if_neg (by omega),if_neg (by omega),Nat.add_sub_cancel,hr] at h2
     cases h1;cases h2
     show (p.1 + r.1) * r.2 - (p.2 + r.2) * r.1 = -1
     grind
    ·rw [if_neg (by omega),if_neg c3] at h1
     rw [if_neg (by omega),if_neg (by omega)] at h2
     exact h.det (i - 1) x y h1 (by rw [show i - 1 + 1=i + 1 - 1 by omega];exact h2)
 ·rw [g] at h1
  by_cases c1:i < at_ + 1
  ·rw [if_pos c1] at h1;exact h.low i x h1 h0 (by omega)
  ·rw [if_neg c1] at h1
   by_cases c2:i=at_ + 1
   ·rw [if_pos c2] at h1;cases h1
    show 1≤p.2 + r.2
    omega
   ·rw [if_neg c2] at h1;exact h.low (i - 1) x h1 (by omega) (by omega)
 ·obtain⟨i,h0,h1,h2⟩:=h.nought
  by_cases c1:i < at_ + 1
  ·exact⟨i,h0,by omega,by rw [g,if_pos c1];exact h2⟩
  ·exact⟨i + 1,by omega,by omega,by rw [g,if_neg (by omega),if_neg (by omega),Nat.add_sub_cancel];exact h2⟩
 ·have hm:∀y∈row,B2 (k + 1 + 2) y:=fun y hy=>BA (h.bits y hy) (by omega)
  rcases List.mem_append.mp hx with hx | hx
  ·exact hm x (List.mem_of_mem_take hx)
  ·rcases List.mem_cons.mp hx with rfl | hx
   ·have b1:=h.bits p (List.mem_of_getElem? hp)
    have b2:=h.bits r (List.mem_of_getElem? hr)
    have e:∀{x y:Int},cD (k + 2) x→cD (k + 2) y→cD (k + 1 + 2) (x + y):=fun hx hy=>by
     have:=bits_add hx hy
     rw [Nat.max_self] at this
     exact bits_le this (by omega)
    exact⟨e b1.1 b2.1,e b1.2 b2.2⟩
   ·exact hm x (List.mem_of_mem_drop hx)
structure bI (n:Nat) (fs:List Z2):Prop where
 len:fs.length=n
 two:2≤n
 most:n≤22
 first:fs[0]?=some (1,0)
 det0:∀p,fs[1]?=some p→p.2=1
 det:∀(i:Nat) (p r:Z2),0 < i→fs[i]?=some p→fs[i + 1]?=some r→p.1 * r.2 - p.2 * r.1 = -1
 last:∀p,fs[n - 1]?=some p→p.2=1
 low:∀(i:Nat) (p:Z2),fs[i]?=some p→0 < i→1≤p.2
 nought:(0,1)∈fs
 bits:∀p∈fs,B2 30 p
theorem Ba {k:Nat} {row:List Z2} (h:uD k row) (hk:k≤20):bI (k + 2) ((1,0) :: (row.drop 1).take (k + 1)):=by
 have hl:=h.len
 have g:∀i,0 < i→i < k + 2→((1,0) :: (row.drop 1).take (k + 1))[i]?=row[i]?:=fun i h0 h1=>by
  rw [show i=(i - 1) + 1 by omega,List.getElem?_cons_succ,List.getElem?_take_of_lt (by omega),List.getElem?_drop]
  congr 1;omega
 have len:((1,0) :: (row.drop 1).take (k + 1)).length=k + 2:=by simp;omega
 have lt:∀(i:Nat) (p:Z2),((1,0) :: (row.drop 1).take (k + 1))[i]?=some p→i < k + 2:=fun i p hp=>by
  have:=(List.getElem?_eq_some_iff.mp hp).1
  omega
 refine⟨len,by omega,by omega,rfl,fun p hp=>?_,fun i p r h0 h1 h2=>?_,fun p hp=>?_,fun i p hp h0=>?_,?_,fun p hp=>?_⟩
 ·rw [g 1 (by omega) (by omega)] at hp
  have:=h.det 0 _ p h.first hp
  simp at this;omega
 ·rw [g i h0 (lt _ _ h1)] at h1
  rw [g (i + 1) (by omega) (lt _ _ h2)] at h2
  exact h.det i p r h1 h2
 ·rw [show k + 2 - 1=k + 1 by omega,g (k + 1) (by omega) (by omega)] at hp
  have:=h.det (k + 1) p _ hp h.last
  simp at this;omega
 ·have:=lt _ _ hp
  rw [g i h0 this] at hp
  exact h.low i p hp h0 this
 ·obtain⟨i,h0,h1,h2⟩:=h.nought
  exact List.mem_of_getElem? (i:=i) (by rw [g i h0 h1];exact h2)
 ·rcases List.mem_cons.mp hp with rfl | hp
  ·exact BA HX (by decide)
  ·exact BA (h.bits p (List.mem_of_mem_drop (List.mem_of_mem_take hp))) (by omega)
theorem gp {α:Type} (f:α→D) (l:List α) (i:Nat) (x:α) (h:l[i]?=some x):jN (l.map f) (i:Int)=some (f x):=by
 rw [tN (by omega) (by have:=(List.getElem?_eq_some_iff.mp h).1;simp;omega)]
 simp [h]
theorem ya {x:Z2} {Q:D→Prop}:cz (fE x) (.int 0) Q=Q (.int x.1):=by
 apply propext;constructor
 ·rintro⟨v,e,h⟩;cases e;exact h
 ·intro h;exact⟨_,rfl,h⟩
theorem yE {x:Z2} {Q:D→Prop}:cz (fE x) (.int 1) Q=Q (.int x.2):=by
 apply propext;constructor
 ·rintro⟨v,e,h⟩;cases e;exact h
 ·intro h;exact⟨_,rfl,h⟩
inductive Mk where
 | half | a5 | gap (j:Nat)
 deriving DecidableEq
def lG:Mk→D
 | .half=>.str "half"
 | .a5=>.str "third"
 | .gap j=>.int j
structure pz (n:Nat) (ms:List Mk):Prop where
 len:ms.length=n
 pair:∀(i j:Nat),ms[i]?=some (Mk.gap j)→j≠i∧ms[j]?=some (Mk.gap i)
 few:n=2→Mk.a5∈ms∧∀(i j:Nat),ms[i]?≠some (Mk.gap j)
structure gy (n:Nat) (left:List Nat) (ms:List Mk):Prop where
 len:ms.length=n
 nd:left.Nodup
 lt:∀i∈left,i < n
 free:∀i∈left,ms[i]?=some Mk.half
 pair:∀(i j:Nat),ms[i]?=some (Mk.gap j)→j≠i∧ms[j]?=some (Mk.gap i)
theorem gy.a5 {n g:Nat} {left:List Nat} {ms:List Mk} (h:gy n (g :: left) ms):gy n left (ms.set g .a5):=by
 have hg:=h.free g List.mem_cons_self
 have hnd:=List.nodup_cons.mp h.nd
 refine⟨by rw [List.length_set];exact h.len,hnd.2,fun i hi=>h.lt i (List.mem_cons_of_mem _ hi),fun i hi=>?_,fun i j hij=>?_⟩
 ·rw [List.getElem?_set_ne (fun z=>by subst z;exact hnd.1 hi)];exact h.free i (List.mem_cons_of_mem _ hi)
 ·have hig:g≠i:=fun z=>by
   subst z
   rw [List.getElem?_set_self (by rw [h.len];exact h.lt _ List.mem_cons_self)] at hij;cases hij
  rw [List.getElem?_set_ne hig] at hij
  obtain⟨h1,h2⟩:=h.pair i j hij
  refine⟨h1,?_⟩
  have:g≠j:=fun z=>by subst z;rw [hg] at h2;cases h2
  rw [List.getElem?_set_ne this];exact h2
theorem gy.skip {n g:Nat} {left:List Nat} {ms:List Mk} (h:gy n (g :: left) ms):gy n left ms :=
 ⟨h.len,(List.nodup_cons.mp h.nd).2,fun i hi=>h.lt i (List.mem_cons_of_mem _ hi),fun i hi=>h.free i (List.mem_cons_of_mem _ hi),h.pair⟩
theorem gy.two {n g o k:Nat} {left:List Nat} {ms:List Mk} (h:gy n (g :: left) ms) (ho:left[k]?=some o):gy n (left.eraseIdx k) ((ms.set g (.gap o)).set o (.gap g)):=by
 have hg:=h.free g List.mem_cons_self
 have hnd:=List.nodup_cons.mp h.nd
 have om:o∈left:=List.mem_of_getElem? ho
 have hoh:=h.free o (List.mem_cons_of_mem _ om)
 have ne:g≠o:=fun z=>hnd.1 (z▸om)
 have gl:g < ms.length:=by rw [h.len];exact h.lt _ List.mem_cons_self
 have ol:o < ms.length:=by rw [h.len];exact h.lt _ (List.mem_cons_of_mem _ om)
 have sub:∀i∈left.eraseIdx k,i∈left∧i≠o:=fun i hi=>by
  refine⟨List.mem_of_mem_eraseIdx hi,fun z=>?_⟩
  subst z
  obtain⟨j,hj1,hj2⟩:=List.mem_eraseIdx_iff_getElem?.mp hi
  obtain⟨hk,ek⟩:=List.getElem?_eq_some_iff.mp ho
  obtain⟨hj,ej⟩:=List.getElem?_eq_some_iff.mp hj2
  exact hj1 ((List.getElem_inj (h₀:=hj) (h₁:=hk) hnd.2).mp (by rw [ej,ek]))
 have get:∀i,((ms.set g (.gap o)).set o (.gap g))[i]?=if i=o then some (.gap g) else if i=g then some (.gap o) else ms[i]?:=fun i=>by
  by_cases c1:i=o
  ·subst c1;rw [if_pos rfl,List.getElem?_set_self (by rw [List.length_set];exact ol)]
  ·rw [if_neg c1,List.getElem?_set_ne (Ne.symm c1)]
   by_cases c2:i=g
   ·subst c2;rw [if_pos rfl,List.getElem?_set_self gl]
   ·rw [if_neg c2,List.getElem?_set_ne (Ne.symm c2)]
 refine⟨by rw [List.length_set,List.length_set];exact h.len,hnd.2.eraseIdx k,fun i hi=>h.lt i (List.mem_cons_of_mem _ (sub i hi).1),fun i hi=>?_,fun i j hij=>?_⟩
 ·obtain⟨h1,h2⟩:=sub i hi
  rw [get,if_neg h2,if_neg (fun z=>by subst z;exact hnd.1 h1)]
  exact h.free i (List.mem_cons_of_mem _ h1)
 ·rw [get] at hij
  by_cases c1:i=o
  ·rw [if_pos c1] at hij;cases hij
   subst c1
   exact⟨ne,by rw [get,if_neg ne,if_pos rfl]⟩
  ·rw [if_neg c1] at hij
   by_cases c2:i=g
   ·rw [if_pos c2] at hij;cases hij
    subst c2
    exact⟨Ne.symm ne,by rw [get,if_pos rfl]⟩
   ·rw [if_neg c2] at hij
    obtain⟨h1,h2⟩:=h.pair i j hij
    refine⟨h1,?_⟩
    rw [get,if_neg (fun z=>by subst z;rw [hoh] at h2;cases h2),if_neg (fun z=>by subst z;rw [hg] at h2;cases h2)]
    exact h2
theorem Aa {α β:Type} (f:α→β):∀(l:List α) (k:Nat),(l.map f).eraseIdx k=(l.eraseIdx k).map f
 | [],_=>rfl
 | _ :: _,0=>rfl
 | a :: l,k + 1=>by show f a :: (l.map f).eraseIdx k=f a :: (l.eraseIdx k).map f;rw [Aa f l k]
theorem DB (ms:List Mk):cy (ms.map lG)=0:=by
 induction ms with
 | nil=>rfl
 | cons m r ih=>rw [List.map_cons];simp only [cy,ih];cases m <;> rfl
theorem q0 (l:List Nat):cy (l.map fun (i:Nat)=>D.int i)=0:=by
 induction l with
 | nil=>rfl
 | cons m r ih=>rw [List.map_cons];simp only [cy,ih,dep];rfl
theorem zp (ms:List Mk):((ms.map lG).any fun e=>ba e (.str "third"))=decide (Mk.a5∈ms):=by
 induction ms with
 | nil=>rfl
 | cons m r ih =>
  rw [List.map_cons,List.any_cons,ih]
  cases m with
  | half =>
   rw [show ba (lG .half) (.str "third")=false by decide]
   simp
  | a5=>rw [show ba (lG .a5) (.str "third")=true by decide];simp
  | gap j=>rw [show ba (lG (.gap j)) (.str "third")=false from rfl];simp
def bG (l:List Nat):List D:=l.map fun (i:Nat)=>D.int i
structure kU (fs:List Z2) (ms:List Mk):Prop where
 fr:bI fs.length fs
 mar:pz fs.length ms
def qb (fs:List Z2) (ms:List Mk):D:=.tup [.tup (fs.map fE),.tup (ms.map lG)]
end L2.L3
namespace L2.L3
open PySem
section
variable {fs:List Z2} {n:Nat} {g:Nat}
end
theorem A6 {α:Type} {f:α→D} {l:List α} {i:Nat} {x:α} {Q:D→Prop} (h:l[i]?=some x) (q:Q (f x)):cz (.tup (l.map f)) (.int (i:Int)) Q:=⟨_,gp f l i x h,q⟩
end L2.L3
namespace L2.L3
open PySem
end L2.L3
namespace L2.L3
open PySem L2
def dY (u v:Z2):Int:=u.1 * v.2 - u.2 * v.1
theorem vF (u v w:Z2):dY u w * v.2=dY u v * w.2 + dY v w * u.2:=by unfold dY;grind
theorem vV {a b:Int} (h:a * b < 0) (hb:0 < b):a < 0:=by
 by_cases c:a < 0
 ·exact c
 ·have:=Int.mul_nonneg (show 0≤a by omega) (Int.le_of_lt hb)
  omega
theorem nU {a b:Int} (h:a * b = -1) (hb:0 < b):b=1 :=
 Int.eq_one_of_dvd_one (Int.le_of_lt hb) ⟨-a,by rw [Int.mul_neg,Int.mul_comm,h];rfl⟩
theorem bI.lt {n:Nat} {fs:List Z2} (h:bI n fs):∀(k i:Nat) (u w:Z2),0 < i→fs[i]?=some u→fs[i + k + 1]?=some w→dY u w < 0
 | 0,i,u,w,h0,hu,hw=>by
  have:=h.det i u w h0 hu hw
  unfold dY;omega
 | k + 1,i,u,w,h0,hu,hw=>by
  have hl:=(List.getElem?_eq_some_iff.mp hw).1
  obtain⟨v,hv⟩:∃v,fs[i + k + 1]?=some v:=⟨fs[i + k + 1]'(by omega),List.getElem?_eq_getElem _⟩
  have h1:=bI.lt h k i u v h0 hu hv
  have h2:dY v w = -1:=h.det (i + k + 1) v w (by omega) hv hw
  have qu:=h.low i u hu h0
  have qv:=h.low _ v hv (by omega)
  have qw:=h.low _ w hw (by omega)
  have e:=vF u v w
  rw [h2] at e
  have a1:dY u v * w.2 < 0:=Int.mul_neg_of_neg_of_pos h1 (by omega)
  have a2:dY u w * v.2 < 0:=by rw [e];omega
  exact vV a2 (by omega)
theorem bI.inj {n:Nat} {fs:List Z2} (h:bI n fs) {i j:Nat} {u:Z2} (hi:fs[i]?=some u) (hj:fs[j]?=some u):i=j:=by
 have self:dY u u=0:=by unfold dY;rw [Int.mul_comm];omega
 have top:∀k:Nat,0 < k→fs[k]?≠some (1,0):=fun k hk e=>by have:=h.low k _ e hk;simp at this
 rcases Nat.lt_trichotomy i j with c | c | c
 ·exfalso
  by_cases z:0 < i
  ·have:=h.lt (j - i - 1) i u u z hi (by rw [show i + (j - i - 1) + 1=j by omega];exact hj)
   omega
  ·have z':i=0:=by omega
   subst z'
   rw [h.first] at hi;cases hi
   exact top j (by omega) hj
 ·exact c
 ·exfalso
  by_cases z:0 < j
  ·have:=h.lt (i - j - 1) j u u z hj (by rw [show j + (i - j - 1) + 1=i by omega];exact hi)
   omega
  ·have z':j=0:=by omega
   subst z'
   rw [h.first] at hj;cases hj
   exact top i (by omega) hi
structure GI (n:Nat) (fs:List Z2) (i:Nat) (u v w:Z2):Prop where
 i0:0 < i
 il:i < n
 near:fs[i - 1]?=some u
 mid:fs[i]?=some v
 far:fs[(i + 1) % n]?=some w
 ne:v≠(0,1)
 one:(dY u w).natAbs=1
theorem ym {n:Nat} {fs:List Z2} (h:bI n fs) (m:Nat):∀k,k≤n→0 < k→(∀i,0 < i→i < k→∀p,fs[i]?=some p→p.2≤m)∨∃i p,0 < i∧i < k∧fs[i]?=some p∧(m:Int) < p.2∧∀j,0 < j→j < k→∀r,fs[j]?=some r→r.2≤p.2
 | 0,_,h0=>absurd h0 (by decide)
 | 1,_,_=>.inl fun i hi h1=>by omega
 | k + 2,hk,_=>by
  have hl:=h.len
  obtain⟨p,hp⟩:∃p,fs[k + 1]?=some p:=⟨fs[k + 1]'(by omega),List.getElem?_eq_getElem _⟩
  rcases ym h m (k + 1) (by omega) (by omega) with a | ⟨i,r,i0,il,hr,hm,a⟩
  ·by_cases c:p.2≤m
   ·refine .inl fun i h0 h1 r hr=>?_
    rcases Nat.lt_succ_iff_lt_or_eq.mp h1 with z | z
    ·exact a i h0 z r hr
    ·subst z;rw [hp] at hr;cases hr;exact c
   ·refine .inr ⟨k + 1,p,by omega,by omega,hp,by omega,fun j h0 h1 r hr=>?_⟩
    rcases Nat.lt_succ_iff_lt_or_eq.mp h1 with z | z
    ·have:=a j h0 z r hr;omega
    ·subst z;rw [hp] at hr;cases hr;exact Int.le_refl _
  ·by_cases c:p.2≤r.2
   ·refine .inr ⟨i,r,i0,by omega,hr,hm,fun j h0 h1 q hq=>?_⟩
    rcases Nat.lt_succ_iff_lt_or_eq.mp h1 with z | z
    ·exact a j h0 z q hq
    ·subst z;rw [hp] at hq;cases hq;exact c
   ·refine .inr ⟨k + 1,p,by omega,by omega,hp,by omega,fun j h0 h1 q hq=>?_⟩
    rcases Nat.lt_succ_iff_lt_or_eq.mp h1 with z | z
    ·have:=a j h0 z q hq;omega
    ·subst z;rw [hp] at hq;cases hq;exact Int.le_refl _
theorem EB {n:Nat} {fs:List Z2} (h:bI n fs) (hn:2 < n):∃i u v w,GI n fs i u v w:=by
 have hl:=h.len
 have at_:∀i,i < n→∃p,fs[i]?=some p:=fun i hi=>⟨fs[i]'(by omega),List.getElem?_eq_getElem _⟩
 rcases ym h 1 n (Nat.le_refl _) (by omega) with a | ⟨i,v,i0,il,hv,hm,a⟩
 ·
  obtain⟨p1,h1⟩:=at_ 1 (by omega)
  obtain⟨p2,h2⟩:=at_ 2 hn
  obtain⟨pl,hpl⟩:=at_ (n - 1) (by omega)
  obtain⟨pk,hpk⟩:=at_ (n - 2) (by omega)
  have q2:p2.2=1:=by have:=a 2 (by omega) hn p2 h2;have:=h.low 2 p2 h2 (by omega);omega
  have qk:pk.2=1:=by have:=a (n - 2) (by omega) (by omega) pk hpk;have:=h.low _ pk hpk (by omega);omega
  by_cases c:p1=(0,1)
  ·have cl:pl≠(0,1):=fun e=>by
    have:=h.inj (i:=1) (j:=n - 1) (u:=(0,1)) (by rw [h1,c]) (by rw [hpl,e])
    omega
   refine⟨n - 1,pk,pl,(1,0),by omega,by omega,by rw [show n - 1 - 1=n - 2 by omega];exact hpk,hpl,?_,cl,?_⟩
   ·rw [show n - 1 + 1=n by omega,Nat.mod_self];exact h.first
   ·unfold dY;show (pk.1 * 0 - pk.2 * 1).natAbs=1;rw [qk];simp
  ·refine⟨1,(1,0),p1,p2,by omega,by omega,h.first,h1,?_,c,?_⟩
   ·rw [Nat.mod_eq_of_lt (by omega)];exact h2
   ·unfold dY;show (1 * p2.2 - 0 * p2.1).natAbs=1;rw [q2];simp
 ·
  have i1:1 < i:=by
   rcases Nat.lt_or_ge 1 i with c | c
   ·exact c
   ·have:i=1:=by omega
    subst this
    have:=h.det0 v hv;omega
  have i2:i + 1 < n:=by
   rcases Nat.lt_or_ge (i + 1) n with c | c
   ·exact c
   ·have:i=n - 1:=by omega
    subst this
    have:=h.last v hv;omega
  obtain⟨u,hu⟩:=at_ (i - 1) (by omega)
  obtain⟨w,hw⟩:=at_ (i + 1) i2
  have d1:dY u v = -1:=h.det (i - 1) u v (by omega) hu (by rw [show i - 1 + 1=i by omega];exact hv)
  have d2:dY v w = -1:=h.det i v w i0 hv hw
  have qu:=h.low _ u hu (by omega)
  have qw:=h.low _ w hw (by omega)
  have mu:=a (i - 1) (by omega) (by omega) u hu
  have mw:=a (i + 1) (by omega) i2 w hw
  have e:=vF u v w
  rw [d1,d2] at e
  refine⟨i,u,v,w,i0,il,hu,hv,by rw [Nat.mod_eq_of_lt i2];exact hw,fun z=>by rw [z] at hm;simp at hm,?_⟩
  have nu:u.2≠v.2:=fun z=>by
   unfold dY at d1
   rw [z,Int.mul_comm v.2] at d1
   have:(u.1 - v.1) * v.2 = -1:=by rw [Int.sub_mul];exact d1
   have:=nU this (by omega)
   omega
  have nw:w.2≠v.2:=fun z=>by
   unfold dY at d2
   rw [z,Int.mul_comm v.2] at d2
   have:(v.1 - w.1) * v.2 = -1:=by rw [Int.sub_mul];exact d2
   have:=nU this (by omega)
   omega
  have lo:dY u w * v.2 < 0:=by rw [e];omega
  have hi:-(2 * v.2) < dY u w * v.2:=by rw [e];omega
  have l1:dY u w < 0:=vV lo (by omega)
  have l2:-2 < dY u w:=by
   by_cases c:-2 < dY u w
   ·exact c
   ·have:=Int.mul_le_mul_of_nonneg_right (show dY u w≤-2 by omega) (show 0≤v.2 by omega)
    omega
  omega
theorem tq {α:Type} (l:List α) (i j:Nat):(l.eraseIdx i)[j]?=if j < i then l[j]? else l[j + 1]?:=List.getElem?_eraseIdx ..
theorem bI.cut {n:Nat} {fs:List Z2} (h:bI n fs) (hn:2 < n) {i:Nat} {u v w:Z2} (e:GI n fs i u v w):bI (n - 1) (fs.eraseIdx i):=by
 have hl:=h.len
 have i0:=e.i0
 have il:=e.il
 have hu:=e.near
 have hw:=e.far
 have one:=e.one
 have g:=fun j=>tq fs i j
 have sub:∀p,p∈fs.eraseIdx i→p∈fs:=fun p hp=>List.mem_of_mem_eraseIdx hp
 refine⟨by rw [List.length_eraseIdx,if_pos (by omega)];omega,by omega,by have:=h.most;omega,?_,fun p hp=>?_,fun j p r j0 hp hr=>?_,fun p hp=>?_,fun j p hp j0=>?_,?_,fun p hp=>h.bits p (sub p hp)⟩
 ·rw [g,if_pos i0];exact h.first
 ·rw [g] at hp
  by_cases c:1 < i
  ·rw [if_pos c] at hp;exact h.det0 p hp
  ·have:i=1:=by omega
   subst this
   rw [if_neg c] at hp
   rw [Nat.mod_eq_of_lt (by omega)] at hw
   rw [hw] at hp;cases hp
   rw [h.first] at hu;cases hu
   have:=h.low _ w hw (by omega)
   unfold dY at one
   simp at one;omega
 ·rw [g] at hp hr
  by_cases c:j + 1 < i
  ·rw [if_pos (by omega)] at hp
   rw [if_pos c] at hr
   exact h.det j p r j0 hp hr
  ·rw [if_neg c] at hr
   by_cases c2:j + 1=i
   ·rw [if_pos (by omega)] at hp
    rw [show i - 1=j by omega,hp] at hu;cases hu
    have:=(List.getElem?_eq_some_iff.mp hr).1
    rw [Nat.mod_eq_of_lt (by omega),← c2,hr] at hw;cases hw
    have:=h.lt 1 j _ _ j0 hp hr
    show dY _ _ = -1
    omega
   ·rw [if_neg (by omega)] at hp
    exact h.det (j + 1) p r (by omega) hp hr
 ·rw [g] at hp
  by_cases c:i=n - 1
  ·rw [if_pos (by omega),show n - 1 - 1=i - 1 by omega,hu] at hp;cases hp
   rw [c,show n - 1 + 1=n by omega,Nat.mod_self,h.first] at hw;cases hw
   have:=h.low _ u hu (by omega)
   unfold dY at one
   simp at one;omega
  ·rw [if_neg (by omega),show n - 1 - 1 + 1=n - 1 by omega] at hp
   exact h.last p hp
 ·rw [g] at hp
  by_cases c:j < i
  ·rw [if_pos c] at hp;exact h.low j p hp j0
  ·rw [if_neg c] at hp;exact h.low (j + 1) p hp (by omega)
 ·obtain⟨k,hk⟩:=List.getElem?_of_mem h.nought
  have hk':=(List.getElem?_eq_some_iff.mp hk).1
  have ne:k≠i:=fun z=>by rw [z,e.mid] at hk;exact e.ne (Option.some.inj hk)
  by_cases c:k < i
  ·exact List.mem_of_getElem? (i:=k) (by rw [g,if_pos c];exact hk)
  ·exact List.mem_of_getElem? (i:=k - 1) (by rw [g,if_neg (by omega),show k - 1 + 1=k by omega];exact hk)
abbrev rW:=Z2×Z2
def nx (n i:Nat):Nat:=if i + 1=n then 0 else i + 1
def Bd (row:List Z2) (e:rW):Prop:=∃i,row[i]?=some e.1∧row[nx row.length i]?=some e.2
def Inj (row:List Z2):Prop:=∀(i j:Nat) (u:Z2),row[i]?=some u→row[j]?=some u→i=j
theorem Aw {n i:Nat} (h:i < n):(i + 1) % n=nx n i:=by
 unfold nx
 by_cases c:i + 1=n
 ·rw [if_pos c,c,Nat.mod_self]
 ·rw [if_neg c,Nat.mod_eq_of_lt (by omega)]
theorem A2 {row:List Z2} (hi:Inj row) {i:Nat} {u v w:Z2} (i0:0 < i) (h2:2 < row.length)
  (hu:row[i - 1]?=some u) (hv:row[i]?=some v) (hw:row[nx row.length i]?=some w) (e:rW) :
  Bd (row.eraseIdx i) e↔e=(u,w)∨(Bd row e∧e.1≠v∧e.2≠v):=by
 have il:=(List.getElem?_eq_some_iff.mp hv).1
 have hl:(row.eraseIdx i).length=row.length - 1:=by rw [List.length_eraseIdx,if_pos il]
 have g:=fun j=>tq row i j
 have gap:(row.eraseIdx i)[i - 1]?=some u∧(row.eraseIdx i)[nx (row.length - 1) (i - 1)]?=some w:=by
  refine⟨by rw [g,if_pos (by omega)];exact hu,?_⟩
  rw [g]
  by_cases c:i + 1=row.length
  ·have e1:nx (row.length - 1) (i - 1)=0:=by unfold nx;rw [if_pos (by omega)]
   have e2:nx row.length i=0:=by unfold nx;rw [if_pos c]
   rw [e2] at hw
   rw [e1,if_pos i0];exact hw
  ·have e1:nx (row.length - 1) (i - 1)=i:=by unfold nx;rw [if_neg (by omega)];omega
   have e2:nx row.length i=i + 1:=by unfold nx;rw [if_neg c]
   rw [e2] at hw
   rw [e1,if_neg (by omega)];exact hw
 have nv:∀j x,row[j]?=some x→j≠i→x≠v:=fun j x hj hne z=>hne (hi j i v (z▸hj) hv)
 constructor
 ·rintro⟨j,ha,hb⟩
  rw [hl] at hb
  by_cases c1:j + 1=i
  ·have:j=i - 1:=by omega
   subst this
   left
   rw [gap.1] at ha;rw [gap.2] at hb
   exact Prod.ext (Option.some.inj ha).symm (Option.some.inj hb).symm
  ·right
   rw [g] at ha hb
   by_cases c2:j < i
   ·have e1:nx (row.length - 1) j=j + 1:=by unfold nx;rw [if_neg (by omega)]
    have e2:nx row.length j=j + 1:=by unfold nx;rw [if_neg (by omega)]
    rw [if_pos c2] at ha
    rw [e1,if_pos (by omega)] at hb
    exact⟨⟨j,ha,by rw [e2];exact hb⟩,nv j _ ha (by omega),nv (j + 1) _ hb (by omega)⟩
   ·rw [if_neg c2] at ha
    by_cases c3:j + 1=row.length - 1
    ·have e1:nx (row.length - 1) j=0:=by unfold nx;rw [if_pos c3]
     have e2:nx row.length (j + 1)=0:=by unfold nx;rw [if_pos (by omega)]
     rw [e1,if_pos i0] at hb
     exact⟨⟨j + 1,ha,by rw [e2];exact hb⟩,nv _ _ ha (by omega),nv 0 _ hb (by omega)⟩
    ·have e1:nx (row.length - 1) j=j + 1:=by unfold nx;rw [if_neg c3]
     have e2:nx row.length (j + 1)=j + 2:=by unfold nx;rw [if_neg (by omega)]
     rw [e1,if_neg (by omega)] at hb
     exact⟨⟨j + 1,ha,by rw [e2];exact hb⟩,nv _ _ ha (by omega),nv _ _ hb (by omega)⟩
 ·rintro (rfl | ⟨⟨j,ha,hb⟩,h1,h2'⟩)
  ·exact⟨i - 1,gap.1,by rw [hl];exact gap.2⟩
  ·have j1:j≠i:=fun z=>h1 (by rw [z,hv] at ha;exact (Option.some.inj ha).symm)
   have j2:nx row.length j≠i:=fun z=>h2' (by rw [z,hv] at hb;exact (Option.some.inj hb).symm)
   have jl:=(List.getElem?_eq_some_iff.mp ha).1
   by_cases c:j < i
   ·have e2:nx row.length j=j + 1:=by unfold nx;rw [if_neg (by omega)]
    rw [e2] at hb j2
    refine⟨j,by rw [g,if_pos c];exact ha,?_⟩
    have e1:nx (row.length - 1) j=j + 1:=by unfold nx;rw [if_neg (by omega)]
    rw [hl,e1,g,if_pos (by omega)];exact hb
   ·refine⟨j - 1,by rw [g,if_neg (by omega),show j - 1 + 1=j by omega];exact ha,?_⟩
    rw [hl,g]
    by_cases c3:j + 1=row.length
    ·have e1:nx (row.length - 1) (j - 1)=0:=by unfold nx;rw [if_pos (by omega)]
     have e2:nx row.length j=0:=by unfold nx;rw [if_pos c3]
     rw [e2] at hb
     rw [e1,if_pos i0];exact hb
    ·have e1:nx (row.length - 1) (j - 1)=j:=by unfold nx;rw [if_neg (by omega)];omega
     have e2:nx row.length j=j + 1:=by unfold nx;rw [if_neg c3]
     rw [e2] at hb
     rw [e1,if_neg (by omega)];exact hb
end L2.L3
namespace L2.L3
open PySem L2
abbrev fc:=Z2×Z2×Z2
def te (t:fc):List rW:=[(t.1,t.2.1),(t.2.1,t.2.2),(t.2.2,t.1)]
def d7 (ts:List fc):List rW:=ts.flatMap te
def rv (e:rW):rW:=(e.2,e.1)
def mM:rW:=((1,0),(0,1))
def v9:rW:=((0,1),(1,0))
inductive eT:List Z2→List fc→Prop
 | done {row:List Z2}:row.length=2→eT row []
 | cut {row:List Z2} {i:Nat} {u v w:Z2} {ts:List fc}:2 < row.length→GI row.length row i u v w→eT (row.eraseIdx i) ts→eT row ((u,v,w) :: ts)
theorem bX {t:fc} {ts:List fc} {e:rW}:e∈d7 (t :: ts)↔e=(t.1,t.2.1)∨e=(t.2.1,t.2.2)∨e=(t.2.2,t.1)∨e∈d7 ts:=by
 unfold d7 te
 simp only [List.flatMap_cons,List.mem_append,List.mem_cons,List.not_mem_nil,or_false,or_assoc]
theorem Bd.next {row:List Z2} (hi:Inj row) {a b c:Z2} (h1:Bd row (a,b)) (h2:Bd row (a,c)):b=c:=by
 obtain⟨i,a1,b1⟩:=h1
 obtain⟨j,a2,b2⟩:=h2
 have:=hi i j a a1 a2
 subst this
 rw [b1] at b2
 exact Option.some.inj b2
theorem Bd.back {row:List Z2} (hi:Inj row) (hl:2 < row.length) {a b:Z2} (h1:Bd row (a,b)) (h2:Bd row (b,a)):False:=by
 obtain⟨i,a1,b1⟩:=h1
 obtain⟨j,b2,a2⟩:=h2
 have e1:=hi _ _ _ b1 b2
 have e2:=hi _ _ _ a1 a2
 have l1:=(List.getElem?_eq_some_iff.mp a1).1
 have l2:=(List.getElem?_eq_some_iff.mp b2).1
 unfold nx at e1 e2
 split at e1 <;> split at e2 <;> omega
theorem Bd.mem {row:List Z2} {e:rW} (h:Bd row e):e.1∈row∧e.2∈row:=by
 obtain⟨i,a,b⟩:=h
 exact⟨List.mem_of_getElem? a,List.mem_of_getElem? b⟩
structure Cut (row row':List Z2) (u v w:Z2):Prop where
 inj:Inj row
 inj':Inj row'
 more:2 < row.length
 one:Bd row (u,v)
 two:Bd row (v,w)
 bd:∀e,Bd row' e↔e=(u,w)∨(Bd row e∧e.1≠v∧e.2≠v)
 off:v∉row'
 ne0:v≠(0,1)
 ne1:v≠(1,0)
 uv:u≠v
 vw:v≠w
 uw:u≠w
 sub:∀p∈row',p∈row
 mu:u∈row
 mv:v∈row
 mw:w∈row
theorem bI.Hb {row:List Z2} (h:bI row.length row) (hn:2 < row.length) {i:Nat} {u v w:Z2} (e:GI row.length row i u v w):Cut row (row.eraseIdx i) u v w:=by
 have i0:=e.i0
 have il:=e.il
 have hi:Inj row:=fun _ _ _=>h.inj
 have hw:=e.far
 rw [Aw il] at hw
 have hc:=h.cut hn e
 have n1:nx row.length (i - 1)=i:=by unfold nx;rw [if_neg (by omega)];omega
 have b1:Bd row (u,v):=⟨i - 1,e.near,by rw [n1];exact e.mid⟩
 have b2:Bd row (v,w):=⟨i,e.mid,hw⟩
 have uv:u≠v:=fun z=>by
  have:=hi _ _ _ e.near (z▸e.mid);omega
 refine⟨hi,fun _ _ _=>hc.inj,hn,b1,b2,A2 hi i0 hn e.near e.mid hw,fun hm=>?_,e.ne,fun z=>?_,uv,fun z=>?_,fun z=>?_,fun p hp=>List.mem_of_mem_eraseIdx hp,b1.mem.1,b1.mem.2,b2.mem.2⟩
 ·obtain⟨j,hj⟩:=List.getElem?_of_mem hm
  rw [tq] at hj
  by_cases c:j < i
  ·rw [if_pos c] at hj
   have:=hi _ _ _ hj e.mid;omega
  ·rw [if_neg c] at hj
   have:=hi _ _ _ hj e.mid;omega
 ·have:=hi _ _ _ h.first (z▸e.mid);omega
 ·have:=hi _ _ _ (z▸e.mid) hw
  unfold nx at this;split at this <;> omega
 ·have:=hi _ _ _ (z▸e.near) hw
  unfold nx at this;split at this <;> omega
theorem bI.pair {row:List Z2} (h:bI row.length row) (h2:row.length=2):row=[(1,0),(0,1)]:=by
 match row,h2,h.first,h.nought with
 | [a,b],_,f,m =>
  cases (Option.some.inj f:a=(1,0))
  simp at m
  rw [← m]
theorem tZ (e:rW):Bd [(1,0),(0,1)] e↔e=mM∨e=v9:=by
 constructor
 ·rintro⟨i,a,b⟩
  match i with
  | 0=>exact .inl (Prod.ext (Option.some.inj a).symm (Option.some.inj b).symm)
  | 1=>exact .inr (Prod.ext (Option.some.inj a).symm (Option.some.inj b).symm)
  | i + 2=>cases a
 ·rintro (rfl | rfl)
  ·exact⟨0,rfl,rfl⟩
  ·exact⟨1,rfl,rfl⟩
structure dS (row:List Z2) (ts:List fc):Prop where
 inn:∀e∈d7 ts,e.1∈row∧e.2∈row
 ne:∀e∈d7 ts,e.1≠e.2
 none:∀e,Bd row e→rv e∉d7 ts
 dif:(d7 ts).Nodup
 a:mM∈d7 ts↔¬ Bd row v9
 b:v9∈d7 ts↔¬ Bd row mM
 c:∀e,Bd row e→e≠mM→e≠v9→e∈d7 ts
 d:∀e∈d7 ts,¬ Bd row e→e≠mM→e≠v9→rv e∈d7 ts
 e:∀S:rW→Prop,(∀t∈ts,(S (t.1,t.2.1)→S (t.2.1,t.2.2))∧(S (t.2.1,t.2.2)→S (t.2.2,t.1))∧(S (t.2.2,t.1)→S (t.1,t.2.1)))→(∀e∈d7 ts,¬ Bd row e→S e→S (rv e))→(mM∈d7 ts→S mM)→(v9∈d7 ts→S v9)→∀e∈d7 ts,S e
theorem y6:dS [(1,0),(0,1)] [] where
 inn:=fun e h=>by cases h
 ne:=fun e h=>by cases h
 none:=fun e _ h=>by cases h
 dif:=List.nodup_nil
 a:=⟨fun h=>absurd h (by simp [d7]),fun h=>absurd ((tZ _).mpr (.inr rfl)) h⟩
 b:=⟨fun h=>absurd h (by simp [d7]),fun h=>absurd ((tZ _).mpr (.inl rfl)) h⟩
 c:=fun e h h1 h2=>((tZ e).mp h).elim (fun z=>absurd z h1) (fun z=>absurd z h2)
 d:=fun e h=>by cases h
 e:=fun S _ _ _ _ e h=>by cases h
theorem qO {row row':List Z2} {u v w:Z2} {ts:List fc} (k:Cut row row' u v w) (h:dS row' ts) {x y:rW} (hr:rv x=y) (hx:x.1≠v∧x.2≠v)
  (h':x∈d7 ts↔¬ Bd row' y):x∈d7 ((u,v,w) :: ts)↔¬ Bd row y:=by
 subst hr
 rw [bX]
 by_cases c:x=(w,u)
 ·subst c
  refine⟨fun _ hb=>?_,fun _=>.inr (.inr (.inl rfl))⟩
  exact k.vw (Bd.next k.inj k.one hb)
 ·have:Bd row' (rv x)↔Bd row (rv x):=by
   rw [k.bd]
   refine⟨?_,fun hb=>.inr ⟨hb,hx.2,hx.1⟩⟩
   rintro (z | z)
   ·exact absurd (by have:=congrArg rv z;exact this) c
   ·exact z.1
  rw [← this,← h']
  refine⟨?_,fun m=>.inr (.inr (.inr m))⟩
  rintro (z | z | z | z)
  ·exact absurd (by rw [z]) hx.2
  ·exact absurd (by rw [z]) hx.1
  ·exact absurd z c
  ·exact z
theorem AH {row row':List Z2} {u v w:Z2} {ts:List fc} (k:Cut row row' u v w) (h:dS row' ts):dS row ((u,v,w) :: ts):=by
 have novert:∀e∈d7 ts,e.1≠v∧e.2≠v:=fun e he=>⟨fun z=>k.off (z▸(h.inn e he).1),fun z=>k.off (z▸(h.inn e he).2)⟩
 have buw:Bd row' (u,w):=(k.bd _).mpr (.inl rfl)
 have nuw:¬ Bd row (u,w):=fun hb=>k.vw (Bd.next k.inj k.one hb)
 have nwu:(w,u)∉d7 ts:=h.none (u,w) buw
 refine⟨fun e he=>?_,fun e he=>?_,fun e hb he=>?_,?_,qO k h rfl ⟨fun z=>k.ne1 z.symm,fun z=>k.ne0 z.symm⟩ h.a,qO k h rfl ⟨fun z=>k.ne0 z.symm,fun z=>k.ne1 z.symm⟩ h.b,fun e hb n1 n2=>?_,fun e he hb n1 n2=>?_,fun S hr hv h1 h2=>?_⟩
 ·rcases bX.mp he with rfl | rfl | rfl | m
  ·exact⟨k.mu,k.mv⟩
  ·exact⟨k.mv,k.mw⟩
  ·exact⟨k.mw,k.mu⟩
  ·exact⟨k.sub _ (h.inn e m).1,k.sub _ (h.inn e m).2⟩
 ·rcases bX.mp he with rfl | rfl | rfl | m
  ·exact k.uv
  ·exact k.vw
  ·exact fun z=>k.uw z.symm
  ·exact h.ne e m
 ·rcases bX.mp he with z | z | z | m
  ·have:e=(v,u):=congrArg rv z
   exact Bd.back k.inj k.more k.one (this▸hb)
  ·have:e=(w,v):=congrArg rv z
   exact Bd.back k.inj k.more k.two (this▸hb)
  ·have:e=(u,w):=congrArg rv z
   exact nuw (this▸hb)
  ·have nv:=novert _ m
   exact h.none e ((k.bd e).mpr (.inr ⟨hb,nv.2,nv.1⟩)) m
 ·show (te (u,v,w) ++ d7 ts).Nodup
  refine List.nodup_append.mpr ⟨?_,h.dif,?_⟩
  ·unfold te
   simp only [List.nodup_cons,List.mem_cons,List.not_mem_nil,or_false,not_or,Prod.mk.injEq,not_and,not_false_eq_true,List.nodup_nil,and_true]
   exact⟨⟨fun z=>absurd z k.uv,fun z=>absurd z k.uw⟩,fun z=>absurd z k.vw⟩
  ·intro a ha b hb z
   subst z
   have nv:=novert _ hb
   unfold te at ha
   simp only [List.mem_cons,List.not_mem_nil,or_false] at ha
   rcases ha with rfl | rfl | rfl
   ·exact nv.2 rfl
   ·exact nv.1 rfl
   ·exact nwu hb
 ·by_cases c:e.1=v
  ·have:e=(v,w):=Prod.ext c (Bd.next k.inj (show Bd row (v,e.2) by rw [← c];exact hb) k.two)
   exact bX.mpr (.inr (.inl this))
  ·by_cases c2:e.2=v
   ·obtain⟨i,a1,b1⟩:=hb
    obtain⟨j,a2,b2⟩:=k.one
    have il:=(List.getElem?_eq_some_iff.mp a1).1
    have jl:=(List.getElem?_eq_some_iff.mp a2).1
    have:=k.inj _ _ v (c2▸b1) b2
    have ij:i=j:=by unfold nx at this;split at this <;> split at this <;> omega
    subst ij
    rw [a1] at a2
    exact bX.mpr (.inl (Prod.ext (Option.some.inj a2) c2))
   ·exact bX.mpr (.inr (.inr (.inr (h.c e ((k.bd e).mpr (.inr ⟨hb,c,c2⟩)) n1 n2))))
 ·rcases bX.mp he with z | z | z | m
  ·exact absurd (z▸k.one) hb
  ·exact absurd (z▸k.two) hb
  ·have:rv e=(u,w):=congrArg rv z
   rw [this]
   refine bX.mpr (.inr (.inr (.inr (h.c _ buw (fun q=>n2 ?_) (fun q=>n1 ?_)))))
   ·rw [z];exact congrArg rv q
   ·rw [z];exact congrArg rv q
  ·by_cases c:Bd row' e
   ·rcases (k.bd e).mp c with rfl | ⟨q,_⟩
    ·exact bX.mpr (.inr (.inr (.inl rfl)))
    ·exact absurd q hb
   ·exact bX.mpr (.inr (.inr (.inr (h.d e m c n1 n2))))
 ·have old:∀e∈d7 ts,S e:=h.e S (fun t ht=>hr t (List.mem_cons_of_mem _ ht)) (fun e he hb=>by
    refine hv e (bX.mpr (.inr (.inr (.inr he)))) fun q=>hb ?_
    have nv:=novert e he
    exact (k.bd e).mpr (.inr ⟨q,nv.1,nv.2⟩)) (fun m=>h1 (bX.mpr (.inr (.inr (.inr m))))) (fun m=>h2 (bX.mpr (.inr (.inr (.inr m)))))
  have r:=hr (u,v,w) (List.mem_cons_self ..)
  have last:S (w,u):=by
   by_cases c1:(u,w)=mM
   ·have:(w,u)=v9:=congrArg rv c1
    rw [this];exact h2 (bX.mpr (.inr (.inr (.inl this.symm))))
   ·by_cases c2:(u,w)=v9
    ·have:(w,u)=mM:=congrArg rv c2
     rw [this];exact h1 (bX.mpr (.inr (.inr (.inl this.symm))))
    ·have m:=h.c _ buw c1 c2
     exact hv (u,w) (bX.mpr (.inr (.inr (.inr m)))) nuw (old _ m)
  intro e he
  rcases bX.mp he with rfl | rfl | rfl | m
  ·exact r.2.2 last
  ·exact r.1 (r.2.2 last)
  ·exact last
  ·exact old e m
theorem uM {row:List Z2} {ts:List fc} (t:eT row ts):bI row.length row→dS row ts:=by
 induction t with
 | done h2=>intro h;rw [h.pair h2];exact y6
 | cut hn e _ ih =>
  rename_i row i u v w ts _
  intro h
  have hc:=h.cut hn e
  have hl:(row.eraseIdx i).length=row.length - 1:=by rw [List.length_eraseIdx,if_pos e.il]
  exact AH (h.Hb hn e) (ih (by rw [hl];exact hc))
end L2.L3
namespace L2.L3
open PySem L2
inductive bQ where
 | gap (i:Nat) | edge (e:rW)
 deriving DecidableEq
def bg (fs:List Z2) (i:Nat):rW:=(fs.getD i (1,0),fs.getD (nx fs.length i) (1,0))
theorem B9 {n i:Nat} (h:i < n):nx n i < n:=by unfold nx;split <;> omega
section
variable {fs:List Z2} {ms:List Mk} {ts:List fc} {ha th:bQ→Option bQ}
theorem kM {l:List Z2} {i:Nat} (h:i < l.length):l[i]?=some (l.getD i (1,0)):=by
 rw [List.getD_eq_getElem?_getD,List.getElem?_eq_getElem h];rfl
theorem yH {i:Nat} (h:i < fs.length):Bd fs (bg fs i):=⟨i,kM h,kM (B9 h)⟩
theorem sO {e:rW} (h:Bd fs e):∃i,i < fs.length∧e=bg fs i:=by
 obtain⟨i,h1,h2⟩:=h
 have hi:=(List.getElem?_eq_some_iff.mp h1).1
 rw [kM hi] at h1
 rw [kM (B9 hi)] at h2
 exact⟨i,hi,Prod.ext (Option.some.inj h1).symm (Option.some.inj h2).symm⟩
theorem nS (h:bI fs.length fs) {i j:Nat} (hi:i < fs.length) (hj:j < fs.length) (e:bg fs i=bg fs j):i=j :=
 h.inj (kM hi) (by rw [kM hj];exact congrArg some (congrArg Prod.fst e).symm)
structure Links (fs:List Z2) (ms:List Mk) (ts:List fc) (ha th:bQ→Option bQ):Prop where
 rot:∀t∈ts,th (.edge (t.1,t.2.1))=some (.edge (t.2.1,t.2.2))∧th (.edge (t.2.1,t.2.2))=some (.edge (t.2.2,t.1))∧th (.edge (t.2.2,t.1))=some (.edge (t.1,t.2.1))
 thg:∀i,ms[i]?=some Mk.a5→th (.gap i)=some (.gap i)
 hag:∀i,ms[i]?=some Mk.a5→ha (.gap i)=some (.edge (bg fs i))∧ha (.edge (bg fs i))=some (.gap i)
 hah:∀i,ms[i]?=some Mk.half→ha (.edge (bg fs i))=some (.edge (bg fs i))
 ham:∀i j,ms[i]?=some (Mk.gap j)→ha (.edge (bg fs i))=some (.edge (bg fs j))
 hai:∀e∈d7 ts,¬ Bd fs e→ha (.edge e)=some (.edge (rv e))
def p0 (ms:List Mk) (ts:List fc):bQ→Prop
 | .gap i=>ms[i]?=some Mk.a5
 | .edge e=>e∈d7 ts
theorem kF {e:rW} (h:e∈d7 ts):∃t∈ts,e∈te t:=List.mem_flatMap.mp h
theorem Az {t:fc} (h:t∈ts) {e:rW} (he:e∈te t):e∈d7 ts:=List.mem_flatMap.mpr ⟨t,h,he⟩
theorem j4 (h:bI fs.length fs) (hn:2 < fs.length) (k:dS fs ts) {i:Nat} (hi:i < fs.length):bg fs i∈d7 ts:=by
 have hb:=yH hi
 have inj:Inj fs:=fun _ _ _=>h.inj
 by_cases c1:bg fs i=mM
 ·rw [c1] at hb ⊢
  exact k.a.mpr fun h2=>Bd.back inj hn hb h2
 ·by_cases c2:bg fs i=v9
  ·rw [c2] at hb ⊢
   exact k.b.mpr fun h2=>Bd.back inj hn h2 hb
  ·exact k.c _ hb c1 c2
theorem HY (k:dS fs ts) {e:rW} (he:e∈d7 ts) (hb:¬ Bd fs e):rv e∈d7 ts:=by
 by_cases c1:e=mM
 ·subst c1;exact k.b.mpr hb
 ·by_cases c2:e=v9
  ·subst c2;exact k.a.mpr hb
  ·exact k.d e he hb c1 c2
theorem tD (m:pz fs.length ms) {i:Nat} (hi:i < fs.length):ms[i]?=some Mk.half∨ms[i]?=some Mk.a5∨∃j,j < fs.length∧ms[i]?=some (Mk.gap j):=by
 have hl:=m.len
 have:ms[i]?=some (ms[i]'(by omega)):=List.getElem?_eq_getElem _
 cases e:ms[i]'(by omega) with
 | half=>rw [e] at this;exact .inl this
 | a5=>rw [e] at this;exact .inr (.inl this)
 | gap j =>
  rw [e] at this
  have q:=(List.getElem?_eq_some_iff.mp (m.pair i j this).2).1
  exact .inr (.inr ⟨j,by omega,this⟩)
theorem df (m:pz fs.length ms) {i:Nat} {x:Mk} (h:ms[i]?=some x):i < fs.length:=by
 have:=(List.getElem?_eq_some_iff.mp h).1;have:=m.len;omega
theorem iR (h:kU fs ms) (hn:2 < fs.length) (k:dS fs ts) (l:Links fs ms ts ha th) {p:bQ} (hp:p0 ms ts p):∃q,ha p=some q∧p0 ms ts q∧ha q=some p:=by
 cases p with
 | gap i =>
  have hp':ms[i]?=some Mk.a5:=hp
  exact⟨_,(l.hag i hp').1,j4 h.fr hn k (df h.mar hp'),(l.hag i hp').2⟩
 | edge e =>
  have he:e∈d7 ts:=hp
  by_cases hb:Bd fs e
  ·obtain⟨i,hi,rfl⟩:=sO hb
   rcases tD h.mar hi with c | c | ⟨j,hj,c⟩
   ·exact⟨_,l.hah i c,he,l.hah i c⟩
   ·exact⟨_,(l.hag i c).2,c,(l.hag i c).1⟩
   ·exact⟨_,l.ham i j c,j4 h.fr hn k hj,l.ham j i (h.mar.pair i j c).2⟩
  ·have r:=HY k he hb
   refine⟨_,l.hai e he hb,r,?_⟩
   have nb:¬ Bd fs (rv e):=fun q=>k.none _ q he
   exact l.hai (rv e) r nb
theorem uu (l:Links fs ms ts ha th) {p:bQ} (hp:p0 ms ts p):∃q,th p=some q∧p0 ms ts q:=by
 cases p with
 | gap i=>exact⟨_,l.thg i hp,hp⟩
 | edge e =>
  obtain⟨t,ht,he⟩:=kF hp
  have r:=l.rot t ht
  have m:∀x∈te t,x∈d7 ts:=fun x hx=>Az ht hx
  unfold te at he m
  simp only [List.mem_cons,List.not_mem_nil,or_false] at he
  rcases he with rfl | rfl | rfl
  ·exact⟨_,r.1,m _ (by simp)⟩
  ·exact⟨_,r.2.1,m _ (by simp)⟩
  ·exact⟨_,r.2.2,m _ (by simp)⟩
theorem ER (h:kU fs ms) (hn:2 < fs.length) (k:dS fs ts) (l:Links fs ms ts ha th) {p:bQ} (hp:p0 ms ts p):ha p=some p↔∃i,ms[i]?=some Mk.half∧p=.edge (bg fs i):=by
 constructor
 ·intro hf
  cases p with
  | gap i=>rw [(l.hag i hp).1] at hf;cases hf
  | edge e =>
   have he:e∈d7 ts:=hp
   by_cases hb:Bd fs e
   ·obtain⟨i,hi,rfl⟩:=sO hb
    rcases tD h.mar hi with c | c | ⟨j,hj,c⟩
    ·exact⟨i,c,rfl⟩
    ·rw [(l.hag i c).2] at hf;cases hf
    ·rw [l.ham i j c] at hf
     have:=nS h.fr hj hi (by injection hf with q;injection q)
     exact absurd this (h.mar.pair i j c).1
   ·rw [l.hai e he hb] at hf
    have q:rv e=e:=by injection hf with q;injection q
    exact absurd (congrArg Prod.fst q).symm (k.ne e he)
 ·rintro⟨i,c,rfl⟩
  exact l.hah i c
theorem Fn (k:dS fs ts) (l:Links fs ms ts ha th) {p:bQ} (hp:p0 ms ts p):th p=some p↔∃i,ms[i]?=some Mk.a5∧p=.gap i:=by
 constructor
 ·intro hf
  cases p with
  | gap i=>exact⟨i,hp,rfl⟩
  | edge e =>
   exfalso
   have hp':e∈d7 ts:=hp
   obtain⟨t,ht,he⟩:=kF hp'
   have r:=l.rot t ht
   have ne:=k.ne e hp'
   unfold te at he
   simp only [List.mem_cons,List.not_mem_nil,or_false] at he
   rcases he with rfl | rfl | rfl
   ·rw [r.1] at hf;injection hf with q;injection q with q;exact ne (congrArg Prod.fst q).symm
   ·rw [r.2.1] at hf;injection hf with q;injection q with q;exact ne (congrArg Prod.fst q).symm
   ·rw [r.2.2] at hf;injection hf with q;injection q with q;exact ne (congrArg Prod.fst q).symm
 ·rintro⟨i,c,rfl⟩
  exact l.thg i c
def rR (fs:List Z2) (ts:List fc) (ha:bQ→Option bQ) (f:bQ):Prop:=(mM∈d7 ts∧f=.edge mM)∨(mM∉d7 ts∧ha (.edge (bg fs (fs.length - 1)))=some f)
theorem Cc (h:bI fs.length fs) (hb:Bd fs v9):bg fs (fs.length - 1)=v9:=by
 obtain⟨i,hi,e⟩:=sO hb
 have h2:fs[nx fs.length i]?=some (1,0):=by
  rw [kM (B9 hi)]
  exact congrArg some (congrArg Prod.snd e).symm
 have:=h.inj h2 h.first
 unfold nx at this
 split at this
 ·have:i=fs.length - 1:=by omega
  rw [← this];exact e.symm
 ·omega
theorem BP (h:kU fs ms) (hn:2 < fs.length) (k:dS fs ts) (l:Links fs ms ts ha th) {f:bQ} (hf:rR fs ts ha f):p0 ms ts f:=by
 rcases hf with ⟨a,rfl⟩ | ⟨_,b⟩
 ·exact a
 ·obtain⟨q,h1,h2,_⟩:=iR (p:=.edge (bg fs (fs.length - 1))) h hn k l (j4 h.fr hn k (by omega))
  rw [b] at h1;cases h1;exact h2
theorem reach (h:kU fs ms) (hn:2 < fs.length) (k:dS fs ts) (l:Links fs ms ts ha th) {f:bQ} (hf:rR fs ts ha f) {S:bQ→Prop} (s0:S f) (s1:∀p q,S p→ha p=some q→S q) (s2:∀p q,S p→th p=some q→S q):∀p,p0 ms ts p→S p:=by
 have both:(mM∈d7 ts→S (.edge mM))∧(v9∈d7 ts→S (.edge v9)):=by
  rcases hf with ⟨a,rfl⟩ | ⟨na,b⟩
  ·refine⟨fun _=>s0,fun m=>?_⟩
   exact s1 _ _ s0 (l.hai mM a (k.b.mp m))
  ·refine⟨fun m=>absurd m na,fun _=>?_⟩
   have hb:Bd fs v9:=Classical.byContradiction fun q=>na (k.a.mpr q)
   obtain⟨q,h1,h2,h3⟩:=iR (p:=.edge (bg fs (fs.length - 1))) h hn k l (j4 h.fr hn k (by omega))
   rw [b] at h1;cases h1
   rw [Cc h.fr hb] at h3
   exact s1 _ _ s0 h3
 have edges:∀e∈d7 ts,S (.edge e):=k.e (fun e=>S (.edge e)) (fun t ht=>⟨fun q=>s2 _ _ q (l.rot t ht).1,fun q=>s2 _ _ q (l.rot t ht).2.1,fun q=>s2 _ _ q (l.rot t ht).2.2⟩) (fun e he hb q=>s1 _ _ q (l.hai e he hb)) both.1 both.2
 intro p hp
 cases p with
 | edge e=>exact edges e hp
 | gap i =>
  have hp':ms[i]?=some Mk.a5:=hp
  exact s1 _ _ (edges _ (j4 h.fr hn k (df h.mar hp'))) (l.hag i hp').2
end
theorem y2 {α β:Type} [DecidableEq α] {met:List α} {is:List β} {g:β→α} (P:α→Bool) (nd:met.Nodup) (gi:∀i∈is,∀j∈is,g i=g j→i=j) (ni:is.Nodup) (hP:∀p∈met,P p=true↔∃i∈is,p=g i) (hm:∀i∈is,g i∈met):(met.filter P).length=is.length:=by
 have n1:(met.filter P).Nodup:=nd.filter P
 have n2:(is.map g).Nodup:=by
  rw [List.nodup_iff_pairwise_ne,List.pairwise_map]
  exact (List.nodup_iff_pairwise_ne.mp ni).imp_of_mem fun ha hb ne e=>ne (gi _ ha _ hb e)
 have perm:(met.filter P).Perm (is.map g):=(List.perm_ext_iff_of_nodup n1 n2).mpr fun a=>by
  rw [List.mem_filter,List.mem_map]
  constructor
  ·rintro⟨h1,h2⟩
   obtain⟨i,hi,e⟩:=(hP a h1).mp h2
   exact⟨i,hi,e.symm⟩
  ·rintro⟨i,hi,rfl⟩
   exact⟨hm i hi,(hP _ (hm i hi)).mpr ⟨i,hi,rfl⟩⟩
 rw [perm.length_eq,List.length_map]
end L2.L3
namespace K55
open PySem L2 L2.L3
def IA (t:fc):D:=.tup [fE t.1,fE t.2.1,fE t.2.2]
theorem zc {α β:Type} (f:α→β) (l:List α) (i:Nat):(l.map f).eraseIdx i=(l.eraseIdx i).map f:=by
 apply List.ext_getElem?
 intro j
 simp only [tq,List.getElem?_map]
 split <;> rfl
def B7 (x:D) (Q:D→Prop):Prop:=∃fs,x=.tup (fs.map fE)∧bI fs.length fs∧∀ts,eT fs ts→ts.length≤fs.length→Q (.lst (ts.map IA))
def dm:Fw:=F1 B7
def iE:bC:=(jP CC (af (cC (.int 1)) (af (eO 1) av)) (aP 3) (aF (aX 4 (de 1 (aC fF (ag 3) (cC (.int 1))))) (aF (aX 5 (de 1 (aC oV (aC bM (ag 3) (cC (.int 1))) (eO 1)))) (fX (pA (aM (aC pT (de 1 (ag 3)) (bT (af (cC (.int 0)) (af (cC (.int 1)) av))))) (aM (aC gI (az my (af (aC fF (aC fN (aC cz (ag 4) (cC (.int 0))) (aC cz (ag 5) (cC (.int 1)))) (aC fN (aC cz (ag 4) (cC (.int 1))) (aC cz (ag 5) (cC (.int 0))))) av)) (cC (.int 1))))) (aF (ir 2 (bT (af (ag 4) (af (de 1 (ag 3)) (af (ag 5) av))))) (aF (uV 1 (ag 3)) n6)) bq))))
def iX:bC:=(aF (c7 1 (nC (af (ag 0) av))) (aF (c7 2 (vG av)) (aF (gV (aM (aC DH (eO 1) (cC (.int 2)))) iE) (fG 2 (bo (ag 2))))))
theorem pY:∀ds Q,dm ds Q→ds.length=1:=jc
theorem sk:∀ds (Q:D→Prop),dm ds Q→iX { nx:=fun _=>Q .non,rt:=Q } (aJ ["_law_fractions_here","_law_row_here","_law_tiles_here","_law_i","_law_near","_law_far"] ds):=by
 rintro ds Q ⟨x,rfl,fs,rfl,hf,h⟩
 simp_arith only [iX,gV,uV]
 refine⟨fun e=>∃(row:List Z2) (acc:List fc) (k3 k4 k5:Option Lo),e=[some (.d (.tup (fs.map fE))),some (.own (row.map fE)),some (.own (acc.map IA)),k3,k4,k5]∧bI row.length row∧(∀rest,eT row rest→eT fs (acc ++ rest))∧acc.length + row.length=fs.length,
  fun e=>match e with | [_,some (.own l),_,_,_,_]=>l.length | _=>0,⟨fs,[],none,none,none,rfl,hf,fun rest t=>t,by simp⟩,?_⟩
 rintro env ⟨row,acc,k3,k4,k5,rfl,hr,ht,hlen⟩
 have two:=hr.two
 have most:=hf.most
 refine⟨_,rfl,?_⟩
 by_cases c:2 < row.length
 ·rw [if_pos (by rw [List.length_map];omega)]
  simp_arith only [iE,uV,List.length_map]
  refine⟨by omega,by omega,?_⟩
  refine cf (fun i e=>∃k3 k4 k5:Option Lo,e=[some (.d (.tup (fs.map fE))),some (.own (row.map fE)),some (.own (acc.map IA)),k3,k4,k5]∧∀j u v w,j < i + 1→¬ GI row.length row j u v w) ?_ ?_ ⟨k3,k4,k5,rfl,fun j u v w hj e=>by have:=e.i0;omega⟩
  ·rintro i x env N hx ⟨k3,k4,k5,rfl,hno⟩ hN
   have hi:i < row.length - 1:=by
    have:=(List.getElem?_eq_some_iff.mp hx).1
    simp [a9] at this;omega
   have hxe:x=.int ((i + 1:Nat):Int):=by
    unfold a9 at hx
    rw [List.getElem?_map,List.getElem?_range (by omega)] at hx
    cases hx;simp
    try omega
   subst hxe
   have hu:row[i]?=some row[i]:=List.getElem?_eq_getElem (by omega)
   have hv:row[i + 1]?=some row[i + 1]:=List.getElem?_eq_getElem (by omega)
   have hm:(i + 1 + 1) % row.length < row.length:=Nat.mod_lt _ (by omega)
   have hw:row[(i + 1 + 1) % row.length]?=some (row[(i + 1 + 1) % row.length]):=List.getElem?_eq_getElem hm
   generalize row[i]=u at hu
   generalize row[i + 1]=v at hv
   generalize row[(i + 1 + 1) % row.length]=w at hw
   have e1:jN (row.map fE) (((i + 1:Nat):Int) - 1)=some (fE u):=by rw [show ((i + 1:Nat):Int) - 1=(i:Int) by omega];exact gp _ _ i _ hu
   have e2:jN (row.map fE) ((i + 1:Nat):Int)=some (fE v):=gp _ _ (i + 1) _ hv
   have e3:jN (row.map fE) ((((i + 1:Nat):Int) + 1).fmod (row.length:Int))=some (fE w):=by
    have:(((i + 1:Nat):Int) + 1).fmod (row.length:Int)=(((i + 1 + 1) % row.length:Nat):Int):=by
     rw [Int.fmod_eq_emod_of_nonneg _ (by omega),Int.natCast_emod,show (((i + 1 + 1:Nat)):Int)=((i + 1:Nat):Int) + 1 by omega]
    rw [this];exact gp _ _ _ _ hw
   have bu:=hr.bits u (List.mem_of_getElem? hu)
   have bw:=hr.bits w (List.mem_of_getElem? hw)
   simp_arith only [uV,List.length_map]
   refine⟨_,_,rfl,e1,by show (row.length:Int)≠0;omega,_,_,rfl,e3,_,_,rfl,e2,?_⟩
   rw [show (D.tup [D.int 0,D.int 1])=fE (0,1) from rfl,E6]
   refine⟨_,rfl,?_⟩
   by_cases c0:v=(0,1)
   ·rw [decide_eq_true c0]
    refine hN _ ⟨_,_,_,rfl,fun j a b d hj e=>?_⟩
    rcases Nat.lt_succ_iff_lt_or_eq.mp hj with z | z
    ·exact hno j a b d z e
    ·subst z
     have:=e.mid
     rw [hv] at this
     exact e.ne ((Option.some.inj this).symm.trans c0)
   ·rw [decide_eq_false c0]
    show cz (fE u) (.int 0) _
    rw [ya,yE]
    simp_arith only [and_true]
    refine⟨gv bu.1 bw.2 (by decide),?_⟩
    rw [yE,ya]
    simp_arith only [and_true]
    refine⟨gv bu.2 bw.1 (by decide),?_⟩
    by_cases c1:((u.1 * w.2 - u.2 * w.1).natAbs:Int)=1
    ·rw [if_pos c1]
     have ear:GI row.length row (i + 1) u v w:=⟨by omega,by omega,by rw [show i + 1 - 1=i by omega];exact hu,hv,hw,c0,by show (u.1 * w.2 - u.2 * w.1).natAbs=1;omega⟩
     have cut:=hr.cut c ear
     have hle:(row.eraseIdx (i + 1)).length=row.length - 1:=by rw [List.length_eraseIdx,if_pos (by omega)]
     refine⟨by omega,_,_,rfl,e2,i + 1,rfl,by omega,by omega,⟨row.eraseIdx (i + 1),acc ++ [(u,v,w)],_,_,_,zc .. ,by rw [List.map_append];rfl,rfl,rfl,rfl,by rw [hle];exact cut,fun rest t=>?_,?_⟩,?_⟩
     ·have:=ht ((u,v,w) :: rest) (.cut c ear t)
      rw [List.append_assoc];exact this
     ·rw [hle,List.length_append];simp;omega
     ·rw [List.length_eraseIdx,if_pos (by simp;omega),List.length_map];omega
    ·rw [if_neg c1]
     refine hN _ ⟨_,_,_,rfl,fun j a b d hj e=>?_⟩
     rcases Nat.lt_succ_iff_lt_or_eq.mp hj with z | z
     ·exact hno j a b d z e
     ·subst z
      have q1:=e.near
      have q2:=e.far
      rw [show i + 1 - 1=i by omega,hu] at q1
      rw [hw] at q2
      cases q1;cases q2
      have:=e.one
      unfold dY at this
      exact c1 (by omega)
  ·rintro env ⟨k3,k4,k5,rfl,hno⟩
   exfalso
   obtain⟨i,u,v,w,e⟩:=EB hr c
   have el:(a9 1 ((row.length:Int) - 1).toNat).length=row.length - 1:=by simp [a9] <;> omega
   rw [el] at hno
   exact hno i u v w (by have:=e.il;omega) e
 ·rw [if_neg (by rw [List.length_map];omega)]
  refine⟨_,rfl,_,rfl,?_⟩
  have t:=ht [] (.done (by omega))
  rw [List.append_nil] at t
  exact h acc t (by omega)
def cQ:bQ→D
 | .gap i=>.int i
 | .edge e=>.tup [fE e.1,fE e.2]
theorem bJ (p:bQ):aY (cQ p)=true∧dep (cQ p)≤8:=by
 cases p with
 | gap i=>exact⟨rfl,by simp [cQ,dep]⟩
 | edge e=>exact⟨by simp [cQ,fE,aY,iD],by simp [cQ,fE,dep,cy]⟩
theorem yt {x y:Z2} (h:fE x=fE y):x=y:=by
 unfold fE at h
 simp only [D.tup.injEq,List.cons.injEq,D.int.injEq,and_true] at h
 exact Prod.ext h.1 h.2
theorem yA {p q:bQ} (h:cQ p=cQ q):p=q:=by
 cases p with
 | gap i=>cases q with
  | gap j=>simp only [cQ,D.int.injEq] at h;rw [show i=j by omega]
  | edge e=>simp only [cQ] at h;cases h
 | edge e=>cases q with
  | gap j=>simp only [cQ] at h;cases h
  | edge d =>
   simp only [cQ,D.tup.injEq,List.cons.injEq,and_true] at h
   rw [show e=d from Prod.ext (yt h.1) (yt h.2)]
theorem w6 (p q:bQ):ba (cQ p) (cQ q)=decide (p=q):=by
 rw [Bool.eq_iff_iff,Ds (bJ p).1 (bJ q).1,decide_eq_true_eq]
 exact⟨yA,fun h=>h▸rfl⟩
structure fD (kvs:List (D×D)) (f:bQ→Option bQ):Prop where
 ok:cS kvs
 get:∀p,iK kvs (cQ p)=(f p).map cQ
 key:∀kv∈kvs,∃p,kv.1=cQ p
def pV (f:bQ→Option bQ) (p q:bQ):bQ→Option bQ:=fun x=>if x=p then some q else f x
theorem bO {f:bQ→Option bQ} {p q:bQ}:pV f p q p=some q:=if_pos rfl
theorem br {f:bQ→Option bQ} {p q x:bQ} (h:x≠p):pV f p q x=f x:=if_neg h
theorem fD.nil:fD [] (fun _=>none):=⟨cS.nil,fun _=>rfl,fun kv h=>absurd h List.not_mem_nil⟩
theorem fD.put {kvs:List (D×D)} {f:bQ→Option bQ} (h:fD kvs f) (p q:bQ):fD (putN kvs (cQ p) (cQ q)) (pV f p q):=by
 refine⟨h.ok.put (bJ p).1 (bJ p).2,fun x=>?_,fun kv m=>?_⟩
 ·rw [Bk h.ok (bJ p).1 (bJ x).1,w6,h.get]
  unfold pV
  by_cases c:p=x
  ·rw [if_pos (decide_eq_true c),if_pos c.symm];rfl
  ·rw [if_neg (by simpa using c),if_neg (fun z=>c z.symm)]
 ·unfold putN at m
  split at m
  ·obtain⟨kw,m',rfl⟩:=List.mem_map.mp m
   obtain⟨z,hz⟩:=h.key kw m'
   refine⟨z,?_⟩
   split <;> exact hz
  ·rcases List.mem_append.mp m with m | m
   ·exact h.key kv m
   ·rw [List.mem_singleton] at m;subst m;exact⟨p,rfl⟩
theorem fD.any {kvs:List (D×D)} {f:bQ→Option bQ} (h:fD kvs f) (p:bQ):(kvs.any fun kv=>ba kv.1 (cQ p))=(f p).isSome:=by
 rw [BZ,h.get,Option.isSome_map]
theorem fD.mem {kvs:List (D×D)} {f:bQ→Option bQ} (h:fD kvs f) (p:bQ):cQ p∈kvs.map (·.1)↔(f p).isSome=true:=by
 rw [← h.any,List.any_eq_true,List.mem_map]
 constructor
 ·rintro⟨kv,m,e⟩;exact⟨kv,m,by rw [e];exact fH _ (bJ p).1⟩
 ·rintro⟨kv,m,e⟩
  obtain⟨z,hz⟩:=h.key kv m
  rw [hz,w6,decide_eq_true_eq] at e
  exact⟨kv,m,by rw [hz,e]⟩
def pR (fs:List Z2) (ms:List Mk) (ha th:bQ→Option bQ) (f:bQ):Prop :=
 (2 < fs.length∧∃ts,dS fs ts∧eT fs ts∧ts.length≤fs.length∧Links fs ms ts ha th∧rR fs ts ha f) ∨
 (fs.length=2∧(∀i,ms[i]?=some Mk.a5→th (.gap i)=some (.gap i)∧ha (.gap i)=some (.gap (if ms[1 - i]?=some Mk.a5 then 1 - i else i)))∧f=.gap (if ms[1]?=some Mk.a5 then 1 else 0))
def AS (x:D) (Q:D→Prop):Prop:=∃fs ms,x=qb fs ms∧kU fs ms∧∀hk tk ha th f,fD hk ha→fD tk th→pR fs ms ha th f→Q (.tup [.obj (tI hk),.obj (tI tk),cQ f])
structure uW (ts:List fc) (th:bQ→Option bQ):Prop where
 rot:∀t∈ts,th (.edge (t.1,t.2.1))=some (.edge (t.2.1,t.2.2))∧th (.edge (t.2.1,t.2.2))=some (.edge (t.2.2,t.1))∧th (.edge (t.2.2,t.1))=some (.edge (t.1,t.2.1))
 only:∀e,(th (.edge e)).isSome=true→e∈d7 ts
 gaps:∀i,th (.gap i)=none
theorem uW.nil:uW [] (fun _=>none):=⟨fun t h=>absurd h List.not_mem_nil,fun e h=>(by cases h),fun _=>rfl⟩
theorem vB (ts:List fc) (t:fc):d7 (ts ++ [t])=d7 ts ++ te t:=by unfold d7;simp
theorem uW.snoc {ts:List fc} {th:bQ→Option bQ} (h:uW ts th) {t:fc} (nd:(d7 (ts ++ [t])).Nodup) :
  uW (ts ++ [t]) (pV (pV (pV th (.edge (t.1,t.2.1)) (.edge (t.2.1,t.2.2))) (.edge (t.2.1,t.2.2)) (.edge (t.2.2,t.1))) (.edge (t.2.2,t.1)) (.edge (t.1,t.2.1))):=by
 rw [vB,List.nodup_append] at nd
 obtain⟨n1,n2,n3⟩:=nd
 unfold te at n2 n3
 simp only [List.nodup_cons,List.mem_cons,List.not_mem_nil,or_false,not_or] at n2
 obtain⟨⟨a12,a13⟩,a23,_⟩:=n2
 have e12:(bQ.edge (t.1,t.2.1))≠.edge (t.2.1,t.2.2):=fun z=>a12 (by injection z)
 have e13:(bQ.edge (t.1,t.2.1))≠.edge (t.2.2,t.1):=fun z=>a13 (by injection z)
 have e23:(bQ.edge (t.2.1,t.2.2))≠.edge (t.2.2,t.1):=fun z=>a23 (by injection z)
 have old:∀e∈d7 ts,pV (pV (pV th (.edge (t.1,t.2.1)) (.edge (t.2.1,t.2.2))) (.edge (t.2.1,t.2.2)) (.edge (t.2.2,t.1))) (.edge (t.2.2,t.1)) (.edge (t.1,t.2.1)) (.edge e)=th (.edge e):=fun e he=>by
  have q:=fun x hx (z:bQ.edge e=.edge x)=>n3 e he x hx (by injection z)
  rw [br (q _ (by simp)),br (q _ (by simp)),br (q _ (by simp))]
 refine⟨fun u hu=>?_,fun e he=>?_,fun i=>?_⟩
 ·rcases List.mem_append.mp hu with hu | hu
  ·have m:∀x∈te u,x∈d7 ts:=fun x hx=>Az hu hx
   unfold te at m
   have r:=h.rot u hu
   exact⟨by rw [old _ (m _ (by simp))];exact r.1,by rw [old _ (m _ (by simp))];exact r.2.1,by rw [old _ (m _ (by simp))];exact r.2.2⟩
  ·rw [List.mem_singleton] at hu;subst hu
   exact⟨by rw [br e13,br e12,bO],by rw [br e23,bO],bO⟩
 ·rw [vB]
  by_cases c:e∈te t
  ·exact List.mem_append.mpr (.inr c)
  ·refine List.mem_append.mpr (.inl (h.only e ?_))
   unfold te at c
   simp only [List.mem_cons,List.not_mem_nil,or_false,not_or] at c
   have q:∀x,e≠x→bQ.edge e≠.edge x:=fun x hx z=>hx (by injection z)
   rw [br (q _ c.2.2),br (q _ c.2.1),br (q _ c.1)] at he
   exact he
 ·rw [br (by simp),br (by simp),br (by simp)];exact h.gaps i
structure Bj (fs:List Z2) (ms:List Mk) (ts:List fc) (j:Nat) (ha th:bQ→Option bQ):Prop where
 rot:∀t∈ts,th (.edge (t.1,t.2.1))=some (.edge (t.2.1,t.2.2))∧th (.edge (t.2.1,t.2.2))=some (.edge (t.2.2,t.1))∧th (.edge (t.2.2,t.1))=some (.edge (t.1,t.2.1))
 only:∀e,(th (.edge e)).isSome=true→e∈d7 ts
 thg:∀i,i < j→ms[i]?=some Mk.a5→th (.gap i)=some (.gap i)
 hag:∀i,i < j→ms[i]?=some Mk.a5→ha (.gap i)=some (.edge (bg fs i))∧ha (.edge (bg fs i))=some (.gap i)
 hah:∀i,i < j→ms[i]?=some Mk.half→ha (.edge (bg fs i))=some (.edge (bg fs i))
 ham:∀i k,i < j→ms[i]?=some (Mk.gap k)→ha (.edge (bg fs i))=some (.edge (bg fs k))
 hai:∀e∈d7 ts,(∀i,i < j→e≠bg fs i)→ha (.edge e)=some (.edge (rv e))
theorem Bj.more {fs:List Z2} {ms:List Mk} {ts:List fc} {j:Nat} {ha th ha' th':bQ→Option bQ} (hf:bI fs.length fs) (hj:j < fs.length) (h:Bj fs ms ts j ha th)
  (h1:∀x,x≠.gap j→x≠.edge (bg fs j)→ha' x=ha x) (h2:∀x,x≠.gap j→th' x=th x)
  (h3:ms[j]?=some Mk.a5→th' (.gap j)=some (.gap j)∧ha' (.gap j)=some (.edge (bg fs j))∧ha' (.edge (bg fs j))=some (.gap j))
  (h4:ms[j]?=some Mk.half→ha' (.edge (bg fs j))=some (.edge (bg fs j))) (h5:∀k,ms[j]?=some (Mk.gap k)→ha' (.edge (bg fs j))=some (.edge (bg fs k))):Bj fs ms ts (j + 1) ha' th':=by
 have ne:∀i,i < j→bQ.edge (bg fs i)≠.edge (bg fs j):=fun i hi z=>by
  have:=nS (i:=i) (j:=j) hf (by omega) hj (by injection z);omega
 have ng:∀i,i < j→bQ.gap i≠.gap j:=fun i hi z=>by injection z with z;omega
 refine⟨fun t ht=>?_,fun e he=>?_,fun i hi hm=>?_,fun i hi hm=>?_,fun i hi hm=>?_,fun i k hi hm=>?_,fun e he hn=>?_⟩
 ·rw [h2 _ (by simp),h2 _ (by simp),h2 _ (by simp)];exact h.rot t ht
 ·rw [h2 _ (by simp)] at he;exact h.only e he
 ·rcases Nat.lt_succ_iff_lt_or_eq.mp hi with z | z
  ·rw [h2 _ (ng i z)];exact h.thg i z hm
  ·subst z;exact (h3 hm).1
 ·rcases Nat.lt_succ_iff_lt_or_eq.mp hi with z | z
  ·rw [h1 _ (ng i z) (by simp),h1 _ (by simp) (ne i z)];exact h.hag i z hm
  ·subst z;exact (h3 hm).2
 ·rcases Nat.lt_succ_iff_lt_or_eq.mp hi with z | z
  ·rw [h1 _ (by simp) (ne i z)];exact h.hah i z hm
  ·subst z;exact h4 hm
 ·rcases Nat.lt_succ_iff_lt_or_eq.mp hi with z | z
  ·rw [h1 _ (by simp) (ne i z)];exact h.ham i k z hm
  ·subst z;exact h5 k hm
 ·rw [h1 _ (by simp) (fun z=>hn j (by omega) (by injection z))]
  exact h.hai e he fun i hi=>hn i (by omega)
theorem qJ {fs:List Z2} {i:Nat} (h:i < fs.length) {Q:D→Prop} (q:Q (cQ (.edge (bg fs i)))):cz (.lst ((List.range fs.length).map fun i=>cQ (.edge (bg fs i)))) (.int (i:Int)) Q :=
 ⟨_,gp (fun i=>cQ (.edge (bg fs i))) (List.range fs.length) i i (by rw [List.getElem?_range h]),q⟩
section
variable {a b:D} {Q:D→Prop}
theorem Cy:cz (.tup [a,b]) (.int 0) Q=Q a:=propext ⟨fun⟨v,e,q⟩=>by have:some a=some v:=e;cases this;exact q,fun q=>⟨a,rfl,q⟩⟩
theorem DC:cz (.tup [a,b]) (.int 1) Q=Q b:=propext ⟨fun⟨v,e,q⟩=>by have:some b=some v:=e;cases this;exact q,fun q=>⟨b,rfl,q⟩⟩
theorem EN:cz (.lst [a,b]) (.int 0) Q=Q a:=propext ⟨fun⟨v,e,q⟩=>by have:some a=some v:=e;cases this;exact q,fun q=>⟨a,rfl,q⟩⟩
theorem Ft:cz (.lst [a,b]) (.int 1) Q=Q b:=propext ⟨fun⟨v,e,q⟩=>by have:some b=some v:=e;cases this;exact q,fun q=>⟨b,rfl,q⟩⟩
end
theorem xI {z z':Str} {Q:D→Prop}:pT (.str z) (.str z') Q=Q (.bl (!(z == z'))):=by
 unfold pT jS;simp only [dep,ba,Nat.zero_le,and_self,true_and]
theorem Gs {i:Int} {z:Str} {Q:D→Prop}:gI (.int i) (.str z) Q=Q (.bl false):=by
 unfold gI jS
 simp [dep,ba]
def ua (fs:List Z2):List D:=(List.range fs.length).map fun i=>cQ (.edge (bg fs i))
def c4:bC:=(aF (aX 11 (bT (af (bT (af (cC (.int 1)) (af (cC (.int 0)) av))) (af (bT (af (cC (.int 0)) (af (cC (.int 1)) av))) av)))) (aF (dU 4 (fX (aM (aC gI (az iN (af (ag 1) av)) (cC (.int 2)))) (aF (aX 11 (aC cz (gA (af (cC (.int 1)) (af (cC (.int 0)) av))) (az pG (af (aC pT (aC cz (ag 2) (cC (.int 1))) (cC (.str "third"))) av)))) (lZ (gA (af (cC (.int 0)) (af (cC (.int 1)) av))) (aP 9) (fX (aM (aC gI (aC cz (ag 2) (ag 9)) (cC (.str "third")))) (a6 8 (ag 9) (aC cz (gA (af (ag 9) (af (aC fF (cC (.int 1)) (ag 9)) av))) (az pG (af (aC gI (aC cz (ag 2) (aC fF (cC (.int 1)) (ag 9))) (cC (.str "third"))) av)))) bq))) (fX (aM (aC (Hf true) (ag 11) (ag 4))) (aX 11 (lF 8 (aC cz (ag 3) (qT iI (cC (.int 1)))))) bq))) (dU 8 (bo (bT (af (ag 8) (af (ag 4) (af (ag 11) av))))))))
def cW:bC:=(aF (uR (af (ag 2) av) (iG 2 (aZ (aP 9) (aZ (aP 10) iH))) (fX (aM (aC gI (ag 10) (cC (.str "third")))) (aF (a6 4 (ag 9) (ag 9)) (aF (a6 8 (ag 9) (aC cz (ag 3) (ag 9))) (a6 8 (aC cz (ag 3) (ag 9)) (ag 9)))) (fX (aM (aC gI (ag 10) (cC (.str "half")))) (a6 8 (aC cz (ag 3) (ag 9)) (aC cz (ag 3) (ag 9))) (a6 8 (aC cz (ag 3) (ag 9)) (aC cz (ag 3) (ag 10)))))) c4)
def e7:bC:=(aF (jG 8) (aF (nD 4 (iG 2 (aZ (aP 5) (aZ (aP 7) iH))) (a6 8 (bT (af (ag 5) (af (ag 7) av))) (bT (af (ag 7) (af (ag 5) av))))) cW))
theorem wa {fs:List Z2} {ms:List Mk} {Q:D→Prop} (hf:kU fs ms) (h:∀hk tk ha th f,fD hk ha→fD tk th→pR fs ms ha th f→Q (.tup [.obj (tI hk),.obj (tI tk),cQ f])) :
  ∀(ts:List fc) (tk:List (D×D)) (th:bQ→Option bQ) (k5 k6 k7:Option Lo),eT fs ts→ts.length≤fs.length→fD tk th→uW ts th→tk.length≤3 * ts.length →
  e7 { nx:=fun _=>Q .non,rt:=Q } [some (.d (qb fs ms)),some (.d (.tup (fs.map fE))),some (.d (.tup (ms.map lG))),some (.d (.lst (ua fs))),some (.dic tk),k5,k6,k7,none,none,none,none]:=by
 have two:=hf.fr.two
 have most:=hf.fr.most
 intro ts tk th k5 k6 k7 htl hlen hd ht hl
 have ok:=uM htl hf.fr
 have rest6:∀(hk:List (D×D)) (ha:bQ→Option bQ) (k5 k7:Option Lo),fD hk ha→(∀e∈d7 ts,ha (.edge e)=some (.edge (rv e)))→(∀i,ha (.gap i)=none)→hk.length≤tk.length →
   cW { nx:=fun _=>Q .non,rt:=Q } [some (.d (qb fs ms)),some (.d (.tup (fs.map fE))),some (.d (.tup (ms.map lG))),some (.d (.lst (ua fs))),some (.dic tk),k5,k6,k7,some (.dic hk),none,none,none]:=by
  intro hk ha k5 k7 hd2 hrv hg hl2
  have rest7:∀(hk tk:List (D×D)) (ha th:bQ→Option bQ) (k9 k10:Option Lo),fD hk ha→fD tk th→Bj fs ms ts fs.length ha th→hk.length≤1000 →
    c4 { nx:=fun _=>Q .non,rt:=Q } [some (.d (qb fs ms)),some (.d (.tup (fs.map fE))),some (.d (.tup (ms.map lG))),some (.d (.lst (ua fs))),some (.dic tk),k5,k6,k7,some (.dic hk),k9,k10,none]:=by
   intro hk tk ha th k9 k10 e1 e2 hh hl
   have ed:(D.tup [D.tup [D.int 1,D.int 0],D.tup [D.int 0,D.int 1]])=cQ (.edge mM):=rfl
   simp_arith only [c4,dU,Lo.dic.injEq,List.length_map]
   rw [ed]
   by_cases c:fs.length=2
   ·rw [if_pos (by omega)]
    obtain⟨t3,ngap⟩:=hf.mar.few c
    have ml:=hf.mar.len
    have at_:∀i,i < 2→ms[i]?=some Mk.a5∨ms[i]?=some Mk.half:=fun i hi=>by
     rcases tD hf.mar (i:=i) (by omega) with z | z | ⟨j,_,z⟩
     ·exact .inr z
     ·exact .inl z
     ·exact absurd z (ngap i j)
    have sz2:=PySem.sizeLine_eq
    have kg0:=bJ (.gap 0)
    have kg1:=bJ (.gap 1)
    obtain⟨m0,m1,rfl⟩:∃m0 m1,ms=[m0,m1]:=by
     match ms,(show ms.length=2 by omega) with
     | [a,b],_=>exact⟨a,b,rfl⟩
    have b0:=at_ 0 (by omega)
    have b1:=at_ 1 (by omega)
    simp only [List.getElem?_cons_zero,List.getElem?_cons_succ,Option.some.injEq] at b0 b1
    have q1:(Str.ofString "half" == Str.ofString "third")=false:=by decide
    have q2:(Str.ofString "third" == Str.ofString "third")=true:=by decide
    rcases b0 with rfl | rfl <;> rcases b1 with rfl | rfl
    ·have a1:=e1.put (.gap 0) (.gap 1)
     have a2:=a1.put (.gap 1) (.gap 0)
     have n1:=cX (kvs:=hk) (k:=cQ (.gap 0)) (v:=cQ (.gap 1))
     simp_arith only [turns,lG,xI,q1,q2,a6,dU,Lo.dic.injEq,Cy,DC,EN,Ft]
     refine⟨kg0.1,kg0.2,e1.ok,by omega,kg1.1,kg1.2,a1.ok,Nat.lt_of_le_of_lt n1 (by omega),h _ _ _ _ (.gap 1) a2 e2 (.inr ⟨c,fun i hi=>⟨hh.thg i (df hf.mar hi) hi,?_⟩,rfl⟩)⟩
     match i,hi with
     | 0,_=>rw [br (by simp),bO];rfl
     | 1,_=>rw [bO];rfl
    ·have a1:=e1.put (.gap 0) (.gap 0)
     simp_arith only [turns,lG,xI,q1,q2,a6,dU,Lo.dic.injEq,Cy,DC,EN,Ft]
     refine⟨kg0.1,kg0.2,e1.ok,by omega,h _ _ _ _ (.gap 0) a1 e2 (.inr ⟨c,fun i hi=>⟨hh.thg i (df hf.mar hi) hi,?_⟩,rfl⟩)⟩
     match i,hi with
     | 0,_=>rw [bO];rfl
     | 1,hi=>simp at hi
    ·have a1:=e1.put (.gap 1) (.gap 1)
     simp_arith only [turns,lG,xI,q1,q2,a6,dU,Lo.dic.injEq,Cy,DC,EN,Ft]
     refine⟨kg1.1,kg1.2,e1.ok,by omega,h _ _ _ _ (.gap 1) a1 e2 (.inr ⟨c,fun i hi=>⟨hh.thg i (df hf.mar hi) hi,?_⟩,rfl⟩)⟩
     match i,hi with
     | 0,hi=>simp at hi
     | 1,_=>rw [bO];rfl
    ·simp at t3
   ·rw [if_neg (by omega)]
    have hn:2 < fs.length:=by omega
    have lk:Links fs ms ts ha th:=⟨hh.rot,fun i hi=>hh.thg i (df hf.mar hi) hi,fun i hi=>hh.hag i (df hf.mar hi) hi,fun i hi=>hh.hah i (df hf.mar hi) hi,fun i k hi=>hh.ham i k (df hf.mar hi) hi,fun e he hb=>hh.hai e he fun i hi z=>hb (z▸yH hi)⟩
    have in1:(th (.edge mM)).isSome=true↔mM∈d7 ts:=⟨hh.only mM,fun m=>by
     obtain⟨q,hq,_⟩:=uu (p:=.edge mM) lk m
     rw [hq];rfl⟩
    simp only [Hf]
    have ke:=bJ (.edge mM)
    refine⟨tk,rfl,ke.1,ke.2,e2.ok,_,rfl,?_⟩
    rw [if_pos trivial,e2.any]
    by_cases m:mM∈d7 ts
    ·rw [in1.mpr m]
     exact h hk tk ha th _ e1 e2 (.inl ⟨hn,ts,ok,htl,hlen,lk,.inl ⟨m,rfl⟩⟩)
    ·have nm:(th (.edge mM)).isSome=false:=by
      cases z:(th (.edge mM)).isSome with
      | false=>rfl
      | true=>exact absurd (in1.mp z) m
     rw [nm]
     obtain⟨f,hf1,hf2,hf3⟩:=iR (p:=.edge (bg fs (fs.length - 1))) hf hn ok lk (j4 hf.fr hn ok (by omega))
     have kl:=bJ (.edge (bg fs (fs.length - 1)))
     have al:jN (ua fs) (-1)=some (cQ (.edge (bg fs (fs.length - 1)))):=by
      have lg:(ua fs).length=fs.length:=by simp [ua]
      have ix:r9 (ua fs).length (-1)=some (fs.length - 1):=by
       unfold r9
       rw [lg,if_neg (by decide),if_pos (by omega)]
       congr 1;omega
      unfold jN
      rw [ix]
      show (ua fs)[fs.length - 1]?=_
      unfold ua
      rw [List.getElem?_map,List.getElem?_range (by omega)];rfl
     show lF 8 _ _ _
     simp_arith only [lF,Lo.dic.injEq]
     refine⟨_,al,cQ f,kl.1,kl.2,e1.ok,by rw [e1.get,hf1];rfl,?_⟩
     exact h hk tk ha th f e1 e2 (.inl ⟨hn,ts,ok,htl,hlen,lk,.inr ⟨m,hf1⟩⟩)
  simp_arith only [cW,uR,Lo.dic.injEq]
  refine⟨_,_,rfl,rfl,?_⟩
  have ml:=hf.mar.len
  have sz:=PySem.sizeLine_eq
  refine cf (fun j e=>∃(hk tk:List (D×D)) (ha th:bQ→Option bQ) (k9 k10:Option Lo),e=[some (.d (qb fs ms)),some (.d (.tup (fs.map fE))),some (.d (.tup (ms.map lG))),some (.d (.lst (ua fs))),some (.dic tk),k5,k6,k7,some (.dic hk),k9,k10,none]∧fD hk ha∧fD tk th∧Bj fs ms ts j ha th∧hk.length≤100 + 2 * j∧tk.length≤100 + j) ?_ ?_ ⟨hk,tk,ha,th,none,none,rfl,hd2,hd,⟨ht.rot,ht.only,fun i hi=>absurd hi (Nat.not_lt_zero _),fun i hi=>absurd hi (Nat.not_lt_zero _),fun i hi=>absurd hi (Nat.not_lt_zero _),fun i k hi=>absurd hi (Nat.not_lt_zero _),fun e he _=>hrv e he⟩,by omega,by omega⟩
  ·rintro j x env N hx ⟨hk,tk,ha,th,k9,k10,rfl,e1,e2,hh,l1,l2⟩ hN
   obtain⟨m,hm,rfl⟩:∃m,ms[j]?=some m∧x=.tup [.int (j:Int),lG m]:=by
    obtain⟨y,hy,rfl⟩:=uJ hx
    rw [List.getElem?_map] at hy
    obtain⟨m,hm,rfl⟩:=Option.map_eq_some_iff.mp hy
    exact⟨m,hm,rfl⟩
   have hj:=df hf.mar hm
   have kg:=bJ (.gap j)
   have ke:=bJ (.edge (bg fs j))
   cases m with
   | a5 =>
    have a1:=e2.put (.gap j) (.gap j)
    have a2:=e1.put (.gap j) (.edge (bg fs j))
    have a3:=a2.put (.edge (bg fs j)) (.gap j)
    have n1:=cX (kvs:=tk) (k:=cQ (.gap j)) (v:=cQ (.gap j))
    have n2:=cX (kvs:=hk) (k:=cQ (.gap j)) (v:=cQ (.edge (bg fs j)))
    have n3:=cX (kvs:=putN hk (cQ (.gap j)) (cQ (.edge (bg fs j)))) (k:=cQ (.edge (bg fs j))) (v:=cQ (.gap j))
    simp_arith only [lG,a6,Lo.dic.injEq,ua]
    rw [if_pos (beq_self_eq_true _)]
    refine⟨kg.1,kg.2,e2.ok,by omega,qJ hj ⟨kg.1,kg.2,e1.ok,by omega,qJ hj ⟨ke.1,ke.2,a2.ok,Nat.lt_of_le_of_lt n2 (by omega),hN _ ⟨_,_,_,_,_,_,rfl,a3,a1,?_,Nat.le_trans n3 (by omega),Nat.le_trans n1 (by omega)⟩⟩⟩⟩
    refine hh.more hf.fr hj (fun x x1 x2=>by rw [br x2,br x1]) (fun x x1=>br x1) (fun _=>⟨bO,by rw [br (by simp),bO],bO⟩) (fun z=>by rw [hm] at z;cases z) (fun k z=>by rw [hm] at z;cases z)
   | half =>
    have a1:=e1.put (.edge (bg fs j)) (.edge (bg fs j))
    have n1:=cX (kvs:=hk) (k:=cQ (.edge (bg fs j))) (v:=cQ (.edge (bg fs j)))
    simp_arith only [lG,a6,Lo.dic.injEq,ua]
    rw [if_neg (by decide),if_pos (beq_self_eq_true _)]
    refine qJ hj (qJ hj ⟨ke.1,ke.2,e1.ok,by omega,hN _ ⟨_,_,_,_,_,_,rfl,a1,e2,?_,Nat.le_trans n1 (by omega),by omega⟩⟩)
    exact hh.more hf.fr hj (fun x x1 x2=>br x2) (fun x x1=>rfl) (fun z=>by rw [hm] at z;cases z) (fun _=>bO) (fun k z=>by rw [hm] at z;cases z)
   | gap k =>
    have hk':k < fs.length:=df hf.mar (hf.mar.pair j k hm).2
    have a1:=e1.put (.edge (bg fs j)) (.edge (bg fs k))
    have n1:=cX (kvs:=hk) (k:=cQ (.edge (bg fs j))) (v:=cQ (.edge (bg fs k)))
    simp_arith only [lG,a6,Lo.dic.injEq,ua,Gs]
    refine qJ hk' (qJ hj ⟨ke.1,ke.2,e1.ok,by omega,hN _ ⟨_,_,_,_,_,_,rfl,a1,e2,?_,Nat.le_trans n1 (by omega),by omega⟩⟩)
    exact hh.more hf.fr hj (fun x x1 x2=>br x2) (fun x x1=>rfl) (fun z=>by rw [hm] at z;cases z) (fun z=>by rw [hm] at z;cases z) (fun k' z=>by rw [hm] at z;cases z;exact bO)
  ·rintro env ⟨hk,tk,ha,th,k9,k10,rfl,e1,e2,hh,l1,l2⟩
   have el:(mO (ms.map lG)).length=fs.length:=by rw [mz,List.length_map,ml]
   rw [el] at hh l1
   exact rest7 hk tk ha th k9 k10 e1 e2 hh (by omega)
 simp_arith only [e7,jG,nD,Lo.dic.injEq]
 intro p
 have sz:=PySem.sizeLine_eq
 refine cf (fun i e=>∃(hk:List (D×D)) (ha:bQ→Option bQ) (k5 k7:Option Lo),e=[some (.d (qb fs ms)),some (.d (.tup (fs.map fE))),some (.d (.tup (ms.map lG))),some (.d (.lst (ua fs))),some (.d (.obj (GD p))),k5,k6,k7,some (.dic hk),none,none,none]∧fD hk ha∧(∀e,cQ (.edge e)∈(tk.map (·.1)).take i→ha (.edge e)=some (.edge (rv e)))∧(∀i,ha (.gap i)=none)∧hk.length≤i) ?_ ?_ ⟨[],_,k5,k7,rfl,fD.nil,fun e he=>by simp at he,fun _=>rfl,by simp⟩
 ·rintro i x env N hx ⟨hk,ha,k5,k7,rfl,hd2,hr,hg,hl2⟩ hN
  have hi:i < tk.length:=by have:=(List.getElem?_eq_some_iff.mp hx).1;simpa using this
  have hm:=List.mem_of_getElem? hx
  obtain⟨kv,hkv,rfl⟩:=List.mem_map.mp hm
  obtain⟨q,hq⟩:=hd.key kv hkv
  rw [hq] at hm hx ⊢
  have hs:=(hd.mem q).mp hm
  cases q with
  | gap g=>rw [ht.gaps g] at hs;cases hs
  | edge e =>
   have k1:=bJ (.edge e)
   have d1:=hd2.put (.edge e) (.edge (rv e))
   have l1:=cX (kvs:=hk) (k:=cQ (.edge e)) (v:=cQ (.edge (rv e)))
   have tke:(tk.map (·.1)).take (i + 1)=(tk.map (·.1)).take i ++ [cQ (.edge e)]:=by rw [List.take_succ,hx];rfl
   simp only [cQ,rv] at l1
   simp_arith only [cQ,a6,Lo.dic.injEq]
   refine⟨k1.1,k1.2,hd2.ok,by omega,hN _ ⟨_,_,_,_,rfl,d1,fun d hdm=>?_,fun g=>?_,by omega⟩⟩
   ·by_cases c:d=e
    ·subst c;exact bO
    ·rw [br (fun z=>c (by injection z))]
     rw [tke] at hdm
     rcases List.mem_append.mp hdm with z | z
     ·exact hr d z
     ·rw [List.mem_singleton] at z
      exact absurd (by have:=yA z;injection this) c
   ·rw [br (by simp)];exact hg g
 ·rintro env ⟨hk,ha,k5,k7,rfl,hd2,hr,hg,hl2⟩
  refine⟨rfl,?_⟩
  rw [List.length_map] at hr hl2
  refine rest6 hk ha k5 k7 hd2 (fun e he=>hr e ?_) hg hl2
  rw [List.take_of_length_le (by simp),hd.mem]
  obtain⟨t,htt,het⟩:=kF he
  have r:=ht.rot t htt
  unfold te at het
  simp only [List.mem_cons,List.not_mem_nil,or_false] at het
  rcases het with rfl | rfl | rfl
  ·rw [r.1];rfl
  ·rw [r.2.1];rfl
  ·rw [r.2.2];rfl
end K55
namespace K55
open PySem L2 L2.L3
end K55
namespace K55
open PySem L2 L2.L3
end K55
namespace K55
open PySem L2 L2.L3
theorem oi {α:Type} [DecidableEq α]:∀(l m:List α),l.Nodup→(∀x∈l,x∈m)→l.length≤m.length
 | [],m,_,_=>Nat.zero_le _
 | x :: l,m,nd,h=>by
  rw [List.nodup_cons] at nd
  have hx:=h x List.mem_cons_self
  have ih:=oi l (m.erase x) nd.2 fun y hy=>(List.mem_erase_of_ne (a:=y) (b:=x) (fun e=>nd.1 (by rw [← e];exact hy))).mpr (h y (List.mem_cons_of_mem _ hy))
  rw [List.length_erase_of_mem hx] at ih
  have:0 < m.length:=List.length_pos_of_mem hx
  simp only [List.length_cons];omega
structure Sys (ha th:bQ→Option bQ) (f:bQ) (isP:bQ→Prop) (all:List bQ):Prop where
 f0:isP f
 h1:∀p,isP p→∃q,ha p=some q∧isP q
 t1:∀p,isP p→∃q,th p=some q∧isP q
 hh:∀p q,isP p→ha p=some q→ha q=some p
 t3:∀p,isP p→∃q r,th p=some q∧th q=some r∧th r=some p
 al:∀p,isP p→p∈all
 few:all.length≤500
 re:∀S:bQ→Prop,S f→(∀p q,S p→ha p=some q→S q)→(∀p q,S p→th p=some q→S q)→∀p,isP p→S p
section
variable {ha th:bQ→Option bQ} {f:bQ} {isP:bQ→Prop} {all met:List bQ} {at_:Nat}
end
structure kE (a b:List Nat):Prop where
 len:b.length=a.length
 al:∀(i x:Nat),a[i]?=some x→x < a.length
 bl:∀(i x:Nat),b[i]?=some x→x < a.length
 aa:∀(i x:Nat),a[i]?=some x→a[x]?=some i
 bbb:∀(i x y:Nat),b[i]?=some x→b[x]?=some y→b[y]?=some i
def Fd (fs:List Z2) (ms:List Mk) (ha th:bQ→Option bQ) (isP:bQ→Prop):Prop :=
 (2 < fs.length∧∃ts,dS fs ts∧eT fs ts∧Links fs ms ts ha th∧∀p,isP p↔p0 ms ts p) ∨
 (fs.length=2∧(∀i,ms[i]?=some Mk.a5→th (.gap i)=some (.gap i)∧ha (.gap i)=some (.gap (if ms[1 - i]?=some Mk.a5 then 1 - i else i)))∧∀p,isP p↔∃i,ms[i]?=some Mk.a5∧p=.gap i)
theorem qP [DecidableEq Mk] (x:Mk):∀ms:List Mk,((List.range ms.length).filter fun i=>decide (ms[i]?=some x)).length=ms.count x
 | []=>rfl
 | m :: ms=>by
  have ih:=qP x ms
  rw [List.length_cons,List.range_succ_eq_map,List.filter_cons,List.count_cons,← ih,List.filter_map,List.getElem?_cons_zero]
  have e:((fun i=>decide ((m :: ms)[i]?=some x))∘Nat.succ)=fun i=>decide (ms[i]?=some x):=by funext i;rfl
  rw [e]
  by_cases c:m=x
  ·subst c;simp
  ·have c':¬ (m == x)=true:=by simpa using c
   simp [c]
theorem jH {met:List bQ} {ms:List Mk} (x:Mk) (g:Nat→bQ) (P:bQ→Bool) (nd:met.Nodup) (gi:∀i j,ms[i]?=some x→ms[j]?=some x→g i=g j→i=j) (hP:∀p∈met,P p=true↔∃i,ms[i]?=some x∧p=g i) (hm:∀i,ms[i]?=some x→g i∈met):(met.filter P).length=ms.count x:=by
 rw [← qP]
 have mem:∀i,i∈((List.range ms.length).filter fun i=>decide (ms[i]?=some x))↔ms[i]?=some x:=fun i=>by
  rw [List.mem_filter,List.mem_range,decide_eq_true_eq]
  exact⟨fun z=>z.2,fun z=>⟨(List.getElem?_eq_some_iff.mp z).1,z⟩⟩
 refine y2 (g:=g) P nd (fun i hi j hj e=>gi i j ((mem i).mp hi) ((mem j).mp hj) e) (List.nodup_range.filter _) (fun p hp=>?_) (fun i hi=>hm i ((mem i).mp hi))
 rw [hP p hp]
 exact⟨fun⟨i,a,b⟩=>⟨i,(mem i).mpr a,b⟩,fun⟨i,a,b⟩=>⟨i,(mem i).mp a,b⟩⟩
theorem yb:∀ts:List fc,(d7 ts).length=3 * ts.length
 | []=>rfl
 | t :: ts=>by
  have:=yb ts
  show (te t ++ d7 ts).length=_
  rw [List.length_append,this]
  unfold te
  simp;omega
theorem EM {fs:List Z2} {ms:List Mk} {ha th:bQ→Option bQ} {f:bQ} (hf:kU fs ms) (h:pR fs ms ha th f):∃isP all,Sys ha th f isP all∧Fd fs ms ha th isP ∧
  ∀met:List bQ,met.Nodup→(∀p,isP p↔p∈met)→(met.filter fun p=>decide (ha p=some p)).length=ms.count .half∧(met.filter fun p=>decide (th p=some p)).length=ms.count .a5:=by
 have most:=hf.fr.most
 have ml:=hf.mar.len
 rcases h with ⟨hn,ts,ok,htl,hlen,lk,fo⟩ | ⟨c,hl,rfl⟩
 ·refine⟨p0 ms ts,(d7 ts).map .edge ++ (List.range fs.length).map .gap,⟨BP hf hn ok lk fo,fun p hp=>?_,fun p hp=>uu lk hp,fun p q hp hq=>?_,fun p hp=>?_,fun p hp=>?_,?_,fun S s0 s1 s2=>reach hf hn ok lk fo s0 s1 s2⟩,.inl ⟨hn,ts,ok,htl,lk,fun _=>Iff.rfl⟩,fun met nd hm=>⟨?_,?_⟩⟩
  ·obtain⟨q,a,b,_⟩:=iR hf hn ok lk hp
   exact⟨q,a,b⟩
  ·obtain⟨q',a,_,c⟩:=iR hf hn ok lk hp
   rw [hq] at a;cases a;exact c
  ·cases p with
   | gap i=>exact⟨_,_,lk.thg i hp,lk.thg i hp,lk.thg i hp⟩
   | edge e =>
    obtain⟨t,ht,he⟩:=kF hp
    have r:=lk.rot t ht
    unfold te at he
    simp only [List.mem_cons,List.not_mem_nil,or_false] at he
    rcases he with rfl | rfl | rfl
    ·exact⟨_,_,r.1,r.2.1,r.2.2⟩
    ·exact⟨_,_,r.2.1,r.2.2,r.1⟩
    ·exact⟨_,_,r.2.2,r.1,r.2.1⟩
  ·cases p with
   | edge e=>exact List.mem_append.mpr (.inl (List.mem_map.mpr ⟨e,hp,rfl⟩))
   | gap i=>exact List.mem_append.mpr (.inr (List.mem_map.mpr ⟨i,List.mem_range.mpr (df hf.mar hp),rfl⟩))
  ·rw [List.length_append,List.length_map,List.length_map,yb,List.length_range];omega
  ·refine jH .half (fun i=>.edge (bg fs i)) _ nd (fun i j hi hj e=>nS hf.fr (df hf.mar hi) (df hf.mar hj) (by injection e)) (fun p hp=>?_) (fun i hi=>?_)
   ·rw [decide_eq_true_eq];exact ER hf hn ok lk ((hm p).mpr hp)
   ·exact (hm _).mp (j4 hf.fr hn ok (df hf.mar hi))
  ·refine jH .a5 (fun i=>.gap i) _ nd (fun i j hi hj e=>by injection e) (fun p hp=>?_) (fun i hi=>(hm _).mp hi)
   rw [decide_eq_true_eq];exact Fn ok lk ((hm p).mpr hp)
 ·obtain⟨t3,ngap⟩:=hf.mar.few c
  have lt2:∀i x,ms[i]?=some x→i < 2:=fun i x hi=>by have:=(List.getElem?_eq_some_iff.mp hi).1;omega
  have two:∀i,i < 2→ms[i]?=some Mk.a5∨ms[i]?=some Mk.half:=fun i hi=>by
   rcases tD hf.mar (i:=i) (by omega) with z | z | ⟨j,_,z⟩
   ·exact .inr z
   ·exact .inl z
   ·exact absurd z (ngap i j)
  have one3:ms[1]?≠some Mk.a5→ms[0]?=some Mk.a5:=fun z=>by
   obtain⟨i,hi⟩:=List.getElem?_of_mem t3
   have:=lt2 i _ hi
   have:i≠1:=fun w=>z (w▸hi)
   have:i=0:=by omega
   exact this▸hi
  refine⟨fun p=>∃i,ms[i]?=some Mk.a5∧p=.gap i,[.gap 0,.gap 1],⟨?_,?_,?_,?_,?_,?_,by simp,fun S s0 s1 s2=>?_⟩,.inr ⟨c,hl,fun _=>Iff.rfl⟩,fun met nd hm=>⟨?_,?_⟩⟩
  ·by_cases z:ms[1]?=some Mk.a5
   ·rw [if_pos z];exact⟨1,z,rfl⟩
   ·rw [if_neg z];exact⟨0,one3 z,rfl⟩
  ·rintro p ⟨i,hi,rfl⟩
   refine⟨_,(hl i hi).2,?_⟩
   by_cases z:ms[1 - i]?=some Mk.a5
   ·rw [if_pos z];exact⟨1 - i,z,rfl⟩
   ·rw [if_neg z];exact⟨i,hi,rfl⟩
  ·rintro p ⟨i,hi,rfl⟩
   exact⟨_,(hl i hi).1,i,hi,rfl⟩
  ·rintro p q ⟨i,hi,rfl⟩ hq
   have l2:=lt2 i _ hi
   rw [(hl i hi).2] at hq
   by_cases z:ms[1 - i]?=some Mk.a5
   ·rw [if_pos z] at hq
    cases hq
    rw [(hl _ z).2,show 1 - (1 - i)=i by omega,if_pos hi]
   ·rw [if_neg z] at hq
    cases hq
    rw [(hl i hi).2,if_neg z]
  ·rintro p ⟨i,hi,rfl⟩
   exact⟨_,_,(hl i hi).1,(hl i hi).1,(hl i hi).1⟩
  ·rintro p ⟨i,hi,rfl⟩
   have:=lt2 i _ hi
   match i,this with
   | 0,_=>simp
   | 1,_=>simp
  ·rintro p ⟨i,hi,rfl⟩
   by_cases z:ms[1]?=some Mk.a5
   ·rw [if_pos z] at s0
    have:=lt2 i _ hi
    match i,this with
    | 1,_=>exact s0
    | 0,_ =>
     have q:=(hl 1 z).2
     rw [if_pos (show ms[1 - 1]?=some Mk.a5 from hi)] at q
     exact s1 _ _ s0 q
   ·rw [if_neg z] at s0
    have:=lt2 i _ hi
    have:i≠1:=fun w=>z (w▸hi)
    have:i=0:=by omega
    subst this;exact s0
  ·refine jH .half (fun i=>.gap (1 - i)) _ nd (fun i j hi hj e=>by
    have:=lt2 i _ hi
    have:=lt2 j _ hj
    injection e with e
    omega) (fun p hp=>?_) (fun i hi=>?_)
   ·obtain⟨i,hi,rfl⟩:=(hm p).mpr hp
    have l2:=lt2 i _ hi
    rw [decide_eq_true_eq,(hl i hi).2]
    by_cases z:ms[1 - i]?=some Mk.a5
    ·rw [if_pos z]
     refine⟨fun w=>?_,fun⟨k,hk,w⟩=>?_⟩
     ·injection w with w;injection w with w;omega
     ·injection w with w
      have:=lt2 k _ hk
      have:k=1 - i:=by omega
      rw [this,z] at hk;cases hk
    ·rw [if_neg z]
     refine⟨fun _=>⟨1 - i,?_,by rw [show 1 - (1 - i)=i by omega]⟩,fun _=>rfl⟩
     rcases two (1 - i) (by omega) with w | w
     ·exact absurd w z
     ·exact w
   ·have l2:=lt2 i _ hi
    refine (hm _).mp ⟨1 - i,?_,rfl⟩
    rcases two (1 - i) (by omega) with w | w
    ·exact w
    ·exfalso
     obtain⟨k,hk⟩:=List.getElem?_of_mem t3
     have:=lt2 k _ hk
     have:k=i∨k=1 - i:=by omega
     rcases this with v | v
     ·rw [v,hi] at hk;cases hk
     ·rw [v,w] at hk;cases hk
  ·refine jH .a5 (fun i=>.gap i) _ nd (fun i j hi hj e=>by injection e) (fun p hp=>?_) (fun i hi=>(hm _).mp ⟨i,hi,rfl⟩)
   obtain⟨i,hi,rfl⟩:=(hm p).mpr hp
   rw [decide_eq_true_eq]
   exact⟨fun _=>⟨i,hi,rfl⟩,fun _=>(hl i hi).1⟩
end K55
namespace K55
open PySem L2 L2.L3
open Classical in
theorem getD_at {l:List Nat} {i:Nat} (h:i < l.length):l[i]?=some (l.getD i 0):=by
 rw [List.getD_eq_getElem?_getD,List.getElem?_eq_getElem h];rfl
end K55
namespace K55
open PySem L2 L2.L3
end K55
namespace K55
open PySem L2 L2.L3
def lp (a b:List Nat) (p c:Nat):Nat:=if c=115 then a.getD p 0 else if c=114 then b.getD p 0 else b.getD (b.getD p 0) 0
def lw (a b:List Nat) (cs:List Nat) (p:Nat):Nat:=cs.foldl (lp a b) p
theorem BH (a b u v:List Nat) (p:Nat):lw a b (u ++ v) p=lw a b v (lw a b u p):=List.foldl_append
theorem hJ (a b u:List Nat) (c p:Nat):lw a b (u ++ [c]) p=lp a b (lw a b u p) c:=BH a b u [c] p
section
variable {a b:List Nat} (t:kE a b)
include t
theorem DO {p:Nat} (h:p < a.length):a.getD p 0 < a.length:=t.al _ _ (getD_at h)
theorem nV {p:Nat} (h:p < a.length):b.getD p 0 < a.length:=t.bl _ _ (getD_at (l:=b) (by rw [t.len];exact h))
theorem FU {p:Nat} (h:p < a.length):a.getD (a.getD p 0) 0=p:=by
 have h2:=t.aa _ _ (getD_at h)
 rw [getD_at (DO t h)] at h2
 exact Option.some.inj h2
theorem n9 {p:Nat} (h:p < a.length):b.getD (b.getD (b.getD p 0) 0) 0=p:=by
 have e:=t.len
 have l1:=nV t h
 have l2:=nV t l1
 have h3:=t.bbb _ _ _ (getD_at (l:=b) (i:=p) (by omega)) (getD_at (l:=b) (by omega))
 rw [getD_at (l:=b) (by omega)] at h3
 exact Option.some.inj h3
theorem HU {p:Nat} (h:p < a.length) (c:Nat):lp a b p c < a.length:=by
 unfold lp;split
 ·exact DO t h
 ·split
  ·exact nV t h
  ·exact nV t (nV t h)
theorem Ce {p:Nat} (h:p < a.length) (cs:List Nat):lw a b cs p < a.length:=by
 refine snoc_ind (P:=fun cs=>lw a b cs p < a.length) h (fun r c ih=>?_) cs
 rw [hJ];exact HU t ih c
theorem Dp {x c:Nat} {w:List Nat} (h:jL x c=some w) {p:Nat} (hp:p < a.length):lp a b (lp a b p x) c=lw a b w p:=by
 unfold jL at h
 split at h
 ·rename_i z;obtain⟨rfl,rfl⟩:=z;cases h;exact FU t hp
 ·split at h
  ·rename_i z;obtain⟨rfl,rfl⟩:=z;cases h;rfl
  ·split at h
   ·rename_i z;obtain⟨rfl,rfl⟩:=z;cases h
    show b.getD (b.getD (b.getD (b.getD p 0) 0) 0) 0=b.getD p 0
    rw [n9 t hp]
   ·split at h
    ·rename_i z;cases h
     rcases z with ⟨rfl,rfl⟩ | ⟨rfl,rfl⟩
     ·exact n9 t hp
     ·exact n9 t hp
    ·cases h
theorem CI {ls:List Nat} {c p:Nat} (hp:p < a.length):lw a b (fA ls c) p=lw a b (ls ++ [c]) p:=by
 rcases List.eq_nil_or_concat ls with e | ⟨r,x,e⟩
 ·subst e;rfl
 ·rw [List.concat_eq_append] at e
  subst e
  unfold fA
  rw [List.getLast?_concat]
  simp only
  cases q:jL x c with
  | none=>rfl
  | some w =>
   simp only
   rw [List.dropLast_concat,BH,hJ,hJ]
   exact (Dp t q (Ce t hp r)).symm
theorem vC (cs:List Nat) (h:∀c∈cs,isLet c):∃v,aN v∧Eqv (aA v) (aA cs)∧∀p,p < a.length→lw a b v p=lw a b cs p:=by
 revert h
 refine snoc_ind (P:=fun cs=>(∀c∈cs,isLet c)→∃v,aN v∧Eqv (aA v) (aA cs)∧∀p,p < a.length→lw a b v p=lw a b cs p) (fun _=>⟨[],⟨trivial,fun c hc=>nomatch hc⟩,.refl _,fun _ _=>rfl⟩) (fun r c ih h=>?_) cs
 obtain⟨v,hv,ve,vl⟩:=ih fun x hx=>h x (List.mem_append_left _ hx)
 obtain⟨g1,g2,_⟩:=kd hv (h c (by simp))
 refine⟨fA v c,g1,g2.trans ?_,fun p hp=>?_⟩
 ·rw [cB,cB]
  exact ve.mul (.refl _)
 ·rw [CI t hp,hJ,hJ,vl p hp]
theorem CO {u v:List Nat} (hu:∀c∈u,isLet c) (hv:∀c∈v,isLet c) (e:Eqv (aA u) (aA v)) {p:Nat} (hp:p < a.length):lw a b u p=lw a b v p:=by
 obtain⟨u',h1,h2,h3⟩:=vC t u hu
 obtain⟨v',g1,g2,g3⟩:=vC t v hv
 have:u'=v':=ei u' v' h1 g1 (h2.trans (e.trans g2.symm))
 subst this
 rw [← h3 p hp,g3 p hp]
end
def dP (k:Nat) (w:List Nat):List Nat:=(List.replicate k w).flatten
end K55
namespace KR
open PySem L2 L2.L3 K55
def bK:Fw:=F2 yK
def jM:bC:=(aF (fX (aM (aC wD (ag 1) (az iN (af (ag 0) av)))) (bo (aC cz (ag 0) (ag 1))) bq) (bo (cC (.int 0))))
theorem mY:∀ds Q,bK ds Q→ds.length=2:=je
theorem oS:∀ds (Q:D→Prop),bK ds Q→jM { nx:=fun _=>Q .non,rt:=Q } (aJ ["_law_script","_law_k"] ds):=by
 exact vK
def sx (x y:D) (Q:D→Prop):Prop:=∃m:Int,x=.obj ef∧y=.int m∧0 < m∧m≤1000000000000∧∀d:Int,0≤d→d < m→Q (.int d)
def aw:Fw:=F2 sx
def i9:bC:=(aF (aX 2 (aC oV (yI (ag 0)) (ag 1))) (aF (nW (ag 0) (aC yy (yI (ag 0)) (ag 1))) (bo (ag 2))))
theorem pU:∀ds Q,aw ds Q→ds.length=2:=je
theorem tO:∀ds (Q:D→Prop),aw ds Q→i9 { nx:=fun _=>Q .non,rt:=Q } (aJ ["_law_rest","_law_many","_law_digit_here"] ds):=by
 rintro ds Q ⟨x,y,rfl,m,rfl,rfl,h0,h1,h⟩
 simp_arith only [i9,yI,nW]
 intro r
 have f:=gW (a:=r) (b:=m) h0
 have hm:m.natAbs < 2 ^ 256:=Nat.lt_of_le_of_lt (show m.natAbs≤1000000000000 by omega) (by decide)
 refine⟨kh _ (by omega),fun r2=>⟨tF _ ⟨by omega,hm⟩,?_⟩⟩
 exact h _ f.1 f.2
def HH (x y:D) (Q:D→Prop):Prop:=∃n:Nat,x=.obj ef∧y=.int (n:Int)∧2≤n∧n≤22∧∀fs,bI n fs→Q (.tup (fs.map fE))
def bY:Fw:=F2 HH
def fq:bC:=(aF (c7 2 (vG (af (bT (af (qT iI (cC (.int 1))) (af (cC (.int 0)) av))) (af (bT (af (cC (.int 0)) (af (cC (.int 1)) av))) (af (bT (af (cC (.int 1)) (af (cC (.int 0)) av))) av))))) (aF (jP jK (af (aC fF (ag 1) (cC (.int 2))) av) (aP 3) (aF (aX 4 (az aw (af (ag 0) (af (aC fF (eO 2) (cC (.int 1))) av)))) (t9 2 (aC bM (ag 4) (cC (.int 1))) (bT (af (aC bM (aC cz (de 2 (ag 4)) (cC (.int 0))) (aC cz (de 2 (aC bM (ag 4) (cC (.int 1)))) (cC (.int 0)))) (af (aC bM (aC cz (de 2 (ag 4)) (cC (.int 1))) (aC cz (de 2 (aC bM (ag 4) (cC (.int 1)))) (cC (.int 1)))) av)))))) (fG 2 (bo (az gz (af (aC bM (gA (af (bT (af (cC (.int 1)) (af (cC (.int 0)) av))) av)) (Hg (ag 2) (kS (cC (.int 1))) (kS (aC fF (az iN (af (ag 2) av)) (cC (.int 1)))))) av))))))
theorem kr:∀ds Q,bY ds Q→ds.length=2:=je
theorem lQ:∀ds (Q:D→Prop),bY ds Q→fq { nx:=fun _=>Q .non,rt:=Q } (aJ ["_law_rest","_law_many","_law_row","_law_k","_law_at"] ds):=by
 rintro ds Q ⟨x,y,rfl,n,rfl,rfl,h2,h22,h⟩
 simp_arith only [fq]
 refine⟨by omega,by omega,?_⟩
 refine cf (fun i e=>∃(row:List Z2) (k1 k2:Option Lo),e=[some (.d (.obj ef)),some (.d (.int n)),some (.own (row.map fE)),k1,k2]∧uD i row) ?_ ?_ ⟨[(-1,0),(0,1),(1,0)],_,_,rfl,IF⟩
 ·rintro i x env N hx ⟨row,k1,k2,rfl,hr⟩ hN
  have hi:i < n - 2:=by
   have:=(List.getElem?_eq_some_iff.mp hx).1
   simp [a9] at this;omega
  have hxe:x=.int (i:Int):=by
   unfold a9 at hx
   rw [List.getElem?_map,List.getElem?_range (by omega)] at hx
   cases hx;simp
  subst hxe
  have hl:=hr.len
  simp_arith only [List.length_map,aw,cU,sx]
  have hk:((row.length:Int) - 1)=((i + 2:Nat):Int):=by omega
  rw [hk]
  refine⟨by omega,by omega,fun v v0 v1=>?_⟩
  obtain⟨a,ea⟩:∃a:Nat,v=(a:Int):=⟨_,(Int.toNat_of_nonneg v0).symm⟩
  subst ea
  have ha:a < i + 2:=by omega
  have hp:row[a]?=some row[a]:=List.getElem?_eq_getElem (by omega)
  have hq:row[a + 1]?=some row[a + 1]:=List.getElem?_eq_getElem (by omega)
  have e1:jN (row.map fE) (a:Int)=some (fE row[a]):=gp _ _ _ _ hp
  have e2:jN (row.map fE) ((a:Int) + 1)=some (fE row[a + 1]):=gp _ _ (a + 1) _ hq
  refine⟨_,_,rfl,e1,?_⟩
  rw [ya]
  refine⟨_,_,rfl,e2,?_⟩
  rw [ya]
  refine⟨_,_,rfl,e1,?_⟩
  rw [yE]
  refine⟨_,_,rfl,e2,?_⟩
  rw [yE]
  refine⟨by omega,by omega,by omega,hN _ ⟨row.take (a + 1) ++ (row[a].1 + row[a + 1].1,row[a].2 + row[a + 1].2) :: row.drop (a + 1),some (.d (.int i)),some (.d (.int a)),?_,Gx hr ha hp hq⟩⟩
  rw [show ((a:Int) + 1).toNat=a + 1 by omega,List.map_append,List.map_cons,List.map_take,List.map_drop]
  rfl
 ·rintro env ⟨row,k1,k2,rfl,hr⟩
  simp_arith only [and_true]
  have el:(a9 0 ((n:Int) - 2).toNat).length=n - 2:=by simp [a9];omega
  rw [el] at hr
  have hl:=hr.len
  have ec:cutD (row.map fE) (some 1) (some (((row.map fE).length:Int) - 1))=((row.drop 1).take (n - 2 + 1)).map fE:=by
   unfold cutD
   rw [List.length_map,show ((row.length:Int) - 1)=((row.length - 1:Nat):Int) by omega,show (1:Int)=((1:Nat):Int) from rfl,HT.x5,HT.x5]
   rw [List.map_take,List.map_drop]
   congr 1
   ·omega
   ·congr 1;omega
  rw [ec]
  refine⟨by simp;omega,?_⟩
  have:=h _ (by have:=Ba hr (by omega);rw [show n - 2 + 2=n by omega] at this;exact this)
  exact this
def G6 (x y:D) (Q:D→Prop):Prop:=∃n:Nat,x=.obj ef∧y=.int (n:Int)∧2≤n∧n≤22∧∀ms,pz n ms→Q (.tup (ms.map lG))
def dB:Fw:=F2 G6
def fw:bC:=(fX (pA (aM (aC DH (ag 5) (cC (.int 1)))) (tX 3)) (aF (nB 6 3 (az aw (af (ag 0) (af (eO 3) av)))) (aF (xf 2 (ag 4) (ag 6)) (xf 2 (ag 6) (ag 4)))) bq)
def jU:bC:=(aF (fG 2 (fX (pA (aM (aC gI (ag 1) (cC (.int 2)))) (aM (aC (GF true) (cC (.str "third")) (ag 2)))) (aX 2 (gA (af (cC (.str "third")) (af (cC (.str "half")) av)))) bq)) (bo (az gz (af (ag 2) av))))
def iB:bC:=(aF (fX (aM (aC gI (ag 5) (cC (.int 1)))) (xf 2 (ag 4) (cC (.str "third"))) bq) fw)
def iU:bC:=(aF (c7 2 (ie jK [] (af (ag 1) av) fg (cC (.str "half")))) (aF (c7 3 (xE (af (ag 1) av))) (aF (gV (tX 3) (aF (nB 4 3 (cC (.int 0))) (aF (aX 5 (az aw (af (ag 0) (af (cC (.int 4)) av)))) iB))) jU)))
theorem pW:∀ds Q,dB ds Q→ds.length=2:=je
theorem sS:∀ds (Q:D→Prop),dB ds Q→iU { nx:=fun _=>Q .non,rt:=Q } (aJ ["_law_rest","_law_many","_law_marks_here","_law_left","_law_gap","_law_way","_law_other"] ds):=by
 rintro ds Q ⟨x,y,rfl,n,rfl,rfl,h2,h22,h⟩
 simp_arith only [iU,gV]
 refine⟨by omega,by omega,?_⟩
 refine gS (fun _=>.str "half") _ _ (fun x hx N hN=>by simp_arith only [dX];exact hN) (by simp [a9,PySem.sizeLine_eq];omega) ?_
 refine⟨by omega,by omega,?_⟩
 have ints_nats:a9 0 (n:Int).toNat=bG (List.range n):=by
  unfold a9 bG
  rw [show (n:Int).toNat=n by omega]
  refine List.map_congr_left fun i _=>?_
  rw [Int.zero_add]
 refine⟨fun e=>∃(left:List Nat) (ms:List Mk) (k5 k6 k7:Option Lo),e=[some (.d (.obj ef)),some (.d (.int n)),some (.own (ms.map lG)),some (.own (bG left)),k5,k6,k7]∧gy n left ms,
  fun e=>match e with | [_,_,_,some (.own l),_,_,_]=>l.length | _=>0,⟨List.range n,List.replicate n .half,none,none,none,?_,?_⟩,?_⟩
 ·rw [ints_nats]
  have e:[] ++ (bG (List.range n)).map (fun _=>D.str (Str.ofString "half"))=(List.replicate n Mk.half).map lG:=by
   unfold bG
   rw [List.nil_append,List.map_map,List.map_replicate]
   apply List.ext_getElem?
   intro i
   by_cases hi:i < n
   ·rw [List.getElem?_map,List.getElem?_range hi,List.getElem?_replicate,if_pos hi];rfl
   ·rw [List.getElem?_eq_none (by simp;omega),List.getElem?_eq_none (by simp;omega)]
  rw [e]
 ·refine⟨by simp,List.nodup_range,fun i hi=>List.mem_range.mp hi,fun i hi=>?_,fun i j hij=>?_⟩
  ·rw [List.getElem?_replicate,if_pos (List.mem_range.mp hi)]
  ·rw [List.getElem?_replicate] at hij;split at hij <;> cases hij
 rintro env ⟨left,ms,k5,k6,k7,rfl,hm⟩
 refine⟨bG left,rfl,by rw [bG,q0];decide,?_⟩
 cases left with
 | nil =>
  rw [if_neg (by simp [bG])]
  simp_arith only [jU]
  have fin:∀ms:List Mk,pz n ms→Q (.tup (ms.map lG)):=h
  by_cases e2:(n:Int)=2
  ·rw [if_pos e2]
   have en:n=2:=by omega
   refine⟨ms.map lG,rfl,by rw [L2.L3.DB];decide,by decide,_,rfl,?_⟩
   rw [if_pos rfl,zp]
   by_cases ht:Mk.a5∈ms
   ·rw [decide_eq_true ht]
    simp_arith only [and_true]
    refine fin ms ⟨hm.len,hm.pair,fun _=>⟨ht,fun i j hij=>?_⟩⟩
    obtain⟨h1,h2⟩:=hm.pair i j hij
    have l1:=(List.getElem?_eq_some_iff.mp hij).1
    have l2:=(List.getElem?_eq_some_iff.mp h2).1
    rw [hm.len] at l1 l2
    obtain⟨q,hq,eq⟩:=List.getElem_of_mem ht
    rw [hm.len] at hq
    have hqi:q=i∨q=j:=by omega
    rcases hqi with z | z
    ·subst z;rw [List.getElem?_eq_getElem (by rw [hm.len];exact hq),eq] at hij;cases hij
    ·subst z;rw [List.getElem?_eq_getElem (by rw [hm.len];exact hq),eq] at h2;cases h2
   ·rw [decide_eq_false ht]
    simp_arith only [and_true]
    refine fin [.a5,.half] ⟨by rw [en];rfl,fun i j hij=>?_,fun _=>⟨by simp,fun i j hij=>?_⟩⟩
    ·match i with
     | 0=>cases hij
     | 1=>cases hij
     | i + 2=>cases hij
    ·match i with
     | 0=>cases hij
     | 1=>cases hij
     | i + 2=>cases hij
  ·rw [if_neg e2]
   exact fin ms ⟨hm.len,hm.pair,fun z=>absurd (by omega) e2⟩
 | cons g left =>
  rw [if_pos (by simp [bG])]
  have hg:=hm.lt g List.mem_cons_self
  refine⟨_,rfl,0,.int g,rfl,rfl,by decide,?_⟩
  have eE:(bG (g :: left)).eraseIdx 0=bG left:=rfl
  rw [eE]
  simp_arith only [aw,cU,sx]
  intro w w0 w1
  simp_arith only [iB]
  have hml:(ms.map lG).length=n:=by rw [List.length_map,hm.len]
  have ixg:∀(l:List D) (j:Nat),l.length=n→j < n→r9 l.length (j:Int)=some j:=fun l j hl hj=>by
   unfold r9
   rw [if_pos (by omega),if_pos (by omega)];rfl
  have mset:∀(j:Nat) (m:Mk),(ms.map lG).set j (lG m)=(ms.set j m).map lG:=fun j m=>by rw [List.map_set]
  have less:(bG left).length < (bG (g :: left)).length:=by simp [bG]
  by_cases c1:w=1
  ·rw [if_pos c1]
   subst c1
   refine⟨_,g,rfl,ixg _ _ hml hg,?_⟩
   simp_arith only [fw]
   exact⟨⟨left,ms.set g .a5,_,_,_,mset g .a5,rfl,rfl,rfl,rfl,hm.a5⟩,less⟩
  ·rw [if_neg c1]
   simp_arith only [fw]
   by_cases c2:1 < w
   ·rw [if_pos c2]
    refine⟨by rw [bG,q0];decide,?_⟩
    by_cases c3:(bG left).isEmpty=false
    ·rw [if_pos c3]
     have hl0:0 < left.length:=by
      cases left with
      | nil=>cases c3
      | cons _ _=>simp
     have ll:=hm.nd
     have lln:left.length≤n:=by
      have:=oi _ (List.range n) (List.nodup_cons.mp ll).2 (fun y hy=>List.mem_range.mpr (hm.lt y (List.mem_cons_of_mem _ hy)))
      rwa [List.length_range] at this
     have hll:(bG left).length=left.length:=by simp [bG]
     rw [hll]
     refine⟨_,_,rfl,_,rfl,rfl,by omega,by omega,fun u u0 u1=>?_⟩
     obtain⟨a,ea⟩:∃a:Nat,u=(a:Int):=⟨_,(Int.toNat_of_nonneg u0).symm⟩
     subst ea
     have ha:a < left.length:=by omega
     have ho:left[a]?=some left[a]:=List.getElem?_eq_getElem ha
     have hol:left[a] < n:=hm.lt _ (List.mem_cons_of_mem _ (List.getElem_mem ha))
     refine⟨a,.int left[a],rfl,by unfold bG;rw [List.getElem?_map,ho];rfl,by omega,_,g,rfl,ixg _ _ hml hg,_,left[a],rfl,ixg _ _ (by rw [List.length_set];exact hml) hol,?_⟩
     refine⟨⟨left.eraseIdx a,(ms.set g (.gap left[a])).set left[a] (.gap g),_,_,_,?_,?_,rfl,rfl,rfl,hm.two ho⟩,?_⟩
     ·rw [List.map_set,List.map_set];rfl
     ·unfold bG;rw [Aa]
     ·unfold bG;rw [List.length_eraseIdx,List.length_map,if_pos ha];simp;omega
    ·rw [if_neg c3];exact⟨⟨left,ms,_,_,_,rfl,rfl,rfl,rfl,rfl,hm.skip⟩,less⟩
   ·rw [if_neg c2];exact⟨⟨left,ms,_,_,_,rfl,rfl,rfl,rfl,rfl,hm.skip⟩,less⟩
def Em (x y z:D) (Q:D→Prop):Prop:=∃m g:Int,x=.obj ef∧y=.int m∧z=.int g∧2≤m∧m≤22∧2≤g∧g≤22∧∀fs ms,kU fs ms→Q (qb fs ms)
def fJ:Fw:=F3 Em
def iP:bC:=(bo (bT (af (az bY (af (ag 0) (af (ag 3) av))) (af (az dB (af (ag 0) (af (ag 3) av))) av))))
def l6:bC:=(aF (aX 3 (aC bM (cC (.int 2)) (az aw (af (ag 0) (af (aC fF (ag 1) (cC (.int 1))) av))))) (aF (fX (aM (aC gI (az aw (af (ag 0) (af (cC (.int 8)) av))) (cC (.int 1)))) (aX 3 (aC bM (cC (.int 2)) (az aw (af (ag 0) (af (aC fF (ag 2) (cC (.int 1))) av))))) bq) iP))
theorem vi:∀ds Q,fJ ds Q→ds.length=3:=xY
theorem xT:∀ds (Q:D→Prop),fJ ds Q→l6 { nx:=fun _=>Q .non,rt:=Q } (aJ ["_law_rest","_law_most","_law_great","_law_many"] ds):=by
 rintro ds Q ⟨x,y,z,rfl,m,g,rfl,rfl,rfl,m2,m22,g2,g22,h⟩
 have fin:∀n:Int,2≤n→n≤22→iP { nx:=fun _=>Q .non,rt:=Q } [some (.d (.obj ef)),some (.d (.int m)),some (.d (.int g)),some (.d (.int n))]:=fun n h1 h2=>by
  obtain⟨k,rfl⟩:∃k:Nat,n=(k:Int):=⟨_,(Int.toNat_of_nonneg (by omega)).symm⟩
  simp_arith only [iP,bY,dB,cU,HH,G6]
  refine⟨k,rfl,by omega,by omega,fun fs hfs=>⟨k,rfl,by omega,by omega,fun ms hms=>?_⟩⟩
  have e:=hfs.len
  exact h fs ms ⟨by rw [e];exact hfs,by rw [e];exact hms⟩
 simp_arith only [l6,aw,cU,sx]
 refine⟨by omega,by omega,fun d d0 d1 e e0 e1=>?_⟩
 by_cases c:e=1
 ·rw [if_pos c]
  exact⟨by omega,by omega,fun d d0 d1=>fin _ (by omega) (by omega)⟩
 ·rw [if_neg c]
  exact fin _ (by omega) (by omega)
def Hq (x y:D) (Q:D→Prop):Prop:=∃(ns:List Int) (k:Int),x=.lst (ns.map D.int)∧y=.int k∧0≤k∧k≤1000∧∀r:Int,Q (.int r)
def fK:Fw:=F2 Hq
theorem JT {l:List Int} (hl:l.length=8) (P:Int→Prop) (hP:∀x∈l,P x) {i:Int} (h0:0≤i) (h8:i < 8) {Q:D→Prop} (q:∀x,P x→Q (.int x)):cz (.tup (l.map D.int)) (.int i) Q:=by
 obtain⟨k,rfl⟩:∃k:Nat,i=(k:Int):=⟨_,(Int.toNat_of_nonneg h0).symm⟩
 have hk:k < l.length:=by omega
 refine⟨.int l[k],?_,q _ (hP _ (List.getElem_mem hk))⟩
 have e1:r9 (l.map D.int).length (k:Int)=some k:=by unfold r9;rw [List.length_map,if_pos (by omega),if_pos (by omega)];simp
 unfold jN
 rw [e1]
 simp [hk]
def jQ:bC:=(aX 5 (aC bM (aC fN (ag 5) (cC (.int 7919))) (aC oV (aC oV (aC fN (ag 7) (aC cz (ag 2) (aC oV (ag 6) (cC (.int 8))))) (aC cz (ag 3) (aC oV (ag 6) (cC (.int 8))))) (cC (.int 7919)))))
def mJ:bC:=(aF (aX 5 (cC (.int 0))) (aF (jP jK (af (cC (.int 60)) av) (aP 6) (aF (aX 7 (aC bM (aC bM (aC oV (az bK (af (ag 0) (af (aC bM (ag 1) (aC oV (ag 6) (cC (.int 9)))) av))) (aC xw (cC (.int 10)) (cC (.int 18)))) (cC (.int 1))) (aC fN (ag 6) (ag 6)))) jQ)) (bo (ag 5))))
def lP:bC:=(aF (aX 2 (bT (af (cC (.int 48271)) (af (cC (.int 69621)) (af (cC (.int 16807)) (af (cC (.int 39373)) (af (cC (.int 21401)) (af (cC (.int 60493)) (af (cC (.int 87721)) (af (cC (.int 31337)) av)))))))))) (aF (aX 3 (bT (af (cC (.int 99991)) (af (cC (.int 99989)) (af (cC (.int 99971)) (af (cC (.int 99961)) (af (cC (.int 99929)) (af (cC (.int 99923)) (af (cC (.int 99907)) (af (cC (.int 99901)) av)))))))))) (aF (aX 4 (az bK (af (ag 0) (af (ag 1) av)))) (aF (fX (aM (aC JN (ag 4) (aC xw (cC (.int 10)) (cC (.int 18))))) (bo (ag 4)) bq) mJ))))
theorem vj:∀ds Q,fK ds Q→ds.length=2:=je
theorem xn:∀ds (Q:D→Prop),fK ds Q→lP { nx:=fun _=>Q .non,rt:=Q } (aJ ["_law_script","_law_at","_law_by","_law_prime","_law_cell","_law_big_here","_law_k","_law_one"] ds):=by
 rintro ds Q ⟨x,y,rfl,ns,k,rfl,rfl,k0,k1,h⟩
 simp_arith only [lP,bK,cU,yK]
 refine⟨ns,k,rfl,rfl,k0,qe _ _ (by decide),?_⟩
 by_cases c:1000000000000000000≤x6 ns k
 ·rw [if_pos c];exact h _
 ·rw [if_neg c]
  simp_arith only [mJ]
  refine cf (fun _ e=>∃(b:Int) (k6 k7:Option Lo),e=[some (.d (.lst (ns.map D.int))),some (.d (.int k)),some (.d (.tup ([48271,69621,16807,39373,21401,60493,87721,31337].map D.int))),some (.d (.tup ([99991,99989,99971,99961,99929,99923,99907,99901].map D.int))),some (.d (.int (x6 ns k))),some (.d (.int b)),k6,k7]) ?_ ?_ ⟨0,none,none,rfl⟩
  ·rintro i x env N hx ⟨b,k6,k7,rfl⟩ hN
   have hi:i < 60:=by
    have:=(List.getElem?_eq_some_iff.mp hx).1
    simpa [a9] using this
   have hxe:x=.int (i:Int):=by
    unfold a9 at hx
    rw [List.getElem?_map,List.getElem?_range (by omega)] at hx
    cases hx;simp
   subst hxe
   have f9:=gW (a:=(i:Int)) (b:=9) (by decide)
   have f8:=gW (a:=(i:Int)) (b:=8) (by decide)
   simp only [ag,aC,cC,az,af,av,aF,aX,aP,List.set_cons_zero,List.set_cons_succ,List.getElem?_cons_zero,List.getElem?_cons_succ,Option.some.injEq,Lo.d.injEq,exists_eq_left',x4,nK,cU,yK,bK,jQ]
   refine⟨kh _ (by decide),ns,_,rfl,rfl,by omega,qe _ _ (by decide),kh _ (by decide),cj (by omega) (by omega),cV (by decide) (by decide),kh _ (by decide),?_⟩
   refine JT rfl (fun x=>-(2 ^ 64) < x∧x < 2 ^ 64) (by decide) f8.1 f8.2 fun y hy=>?_
   refine⟨cV hy.1 hy.2,kh _ (by decide),?_⟩
   refine JT rfl (fun x=>x≠0) (by decide) f8.1 f8.2 fun z hz=>?_
   exact⟨kh _ hz,kh _ (by decide),hN _ ⟨_,_,_,rfl⟩⟩
  ·rintro env ⟨b,k6,k7,rfl⟩
   simp_arith only [and_true]
   exact h b
def eB:Fw:=F1 fun x Q=>∃fs:List Z2,x=.tup (fs.map fE)∧0 < fs.length∧fs.length≤22∧Q (.lst (ua fs))
def j7:bC:=(bo (fu (ie jK [0] (af (az iN (af (ag 0) av)) av) fg (bT (af (aC cz (ag 1) (ag 0)) (af (aC cz (ag 1) (aC oV (aC bM (ag 0) (cC (.int 1))) (az iN (af (ag 1) av)))) av))))))
theorem tm:∀ds Q,eB ds Q→ds.length=1:=jc
theorem u9:∀ds (Q:D→Prop),eB ds Q→j7 { nx:=fun _=>Q .non,rt:=Q } (aJ ["_law_fractions_here"] ds):=by
 rintro ds Q ⟨x,rfl,fs,rfl,h0,h22,h⟩
 simp_arith only [j7,List.length_map]
 refine⟨by omega,by omega,?_⟩
 refine gS (fun x=>match x with | .int i=>cQ (.edge (bg fs i.toNat)) | _=>.non) _ _ (fun x hx N hN=>?_) (by simp [a9,PySem.sizeLine_eq];omega) ?_
 ·obtain⟨i,hi,rfl⟩:∃i:Nat,i < fs.length∧x=.int (i:Int):=by
   unfold a9 at hx
   obtain⟨i,hi,rfl⟩:=List.mem_map.mp hx
   exact⟨i,by simpa using hi,by simp⟩
  simp_arith only [dX,List.length_map]
  have hm:(i + 1) % fs.length < fs.length:=Nat.mod_lt _ (by omega)
  have e2:((i:Int) + 1).fmod (fs.length:Int)=(((i + 1) % fs.length:Nat):Int):=by
   rw [Int.fmod_eq_emod_of_nonneg _ (by omega),Int.natCast_emod,show (((i + 1:Nat)):Int)=(i:Int) + 1 by omega]
  refine A6 (kM hi) ⟨by show (fs.length:Int)≠0;omega,?_⟩
  rw [e2]
  refine A6 (kM hm) ?_
  rw [Aw hi]
  exact hN
 ·have eg:[] ++ (a9 0 (fs.length:Int).toNat).map (fun x=>match x with | .int i=>cQ (.edge (bg fs i.toNat)) | _=>.non)=ua fs:=by
   unfold ua a9
   simp
  rw [eg]
  exact h
def di:Fw:=F1 AS
def c4:bC:=(aF (aX 11 (bT (af (bT (af (cC (.int 1)) (af (cC (.int 0)) av))) (af (bT (af (cC (.int 0)) (af (cC (.int 1)) av))) av)))) (aF (dU 4 (fX (aM (aC gI (az iN (af (ag 1) av)) (cC (.int 2)))) (aF (aX 11 (aC cz (gA (af (cC (.int 1)) (af (cC (.int 0)) av))) (az pG (af (aC pT (aC cz (ag 2) (cC (.int 1))) (cC (.str "third"))) av)))) (lZ (gA (af (cC (.int 0)) (af (cC (.int 1)) av))) (aP 9) (fX (aM (aC gI (aC cz (ag 2) (ag 9)) (cC (.str "third")))) (a6 8 (ag 9) (aC cz (gA (af (ag 9) (af (aC fF (cC (.int 1)) (ag 9)) av))) (az pG (af (aC gI (aC cz (ag 2) (aC fF (cC (.int 1)) (ag 9))) (cC (.str "third"))) av)))) bq))) (fX (aM (aC (Hf true) (ag 11) (ag 4))) (aX 11 (lF 8 (aC cz (ag 3) (qT iI (cC (.int 1)))))) bq))) (dU 8 (bo (bT (af (ag 8) (af (ag 4) (af (ag 11) av))))))))
def cW:bC:=(aF (uR (af (ag 2) av) (iG 2 (aZ (aP 9) (aZ (aP 10) iH))) (fX (aM (aC gI (ag 10) (cC (.str "third")))) (aF (a6 4 (ag 9) (ag 9)) (aF (a6 8 (ag 9) (aC cz (ag 3) (ag 9))) (a6 8 (aC cz (ag 3) (ag 9)) (ag 9)))) (fX (aM (aC gI (ag 10) (cC (.str "half")))) (a6 8 (aC cz (ag 3) (ag 9)) (aC cz (ag 3) (ag 9))) (a6 8 (aC cz (ag 3) (ag 9)) (aC cz (ag 3) (ag 10)))))) c4)
def e7:bC:=(aF (jG 8) (aF (nD 4 (iG 2 (aZ (aP 5) (aZ (aP 7) iH))) (a6 8 (bT (af (ag 5) (af (ag 7) av))) (bT (af (ag 7) (af (ag 5) av))))) cW))
def ji:bC:=(aF (lO (ag 0) (iG 2 (aZ (aP 1) (aZ (aP 2) iH)))) (aF (aX 3 (az eB (af (ag 1) av))) (aF (jG 4) (aF (lZ (az dm (af (ag 1) av)) (iG 3 (aZ (aP 5) (aZ (aP 6) (aZ (aP 7) iH)))) (aF (a6 4 (bT (af (ag 5) (af (ag 6) av))) (bT (af (ag 6) (af (ag 7) av)))) (aF (a6 4 (bT (af (ag 6) (af (ag 7) av))) (bT (af (ag 7) (af (ag 5) av)))) (a6 4 (bT (af (ag 7) (af (ag 5) av))) (bT (af (ag 5) (af (ag 6) av))))))) e7))))
theorem p9:∀ds Q,di ds Q→ds.length=1:=jc
theorem sq:∀ds (Q:D→Prop),di ds Q→ji { nx:=fun _=>Q .non,rt:=Q } (aJ ["_law_fan_here","_law_fractions_here","_law_marks_here","_law_gaps_here","_law_thirds","_law_one","_law_mid","_law_other","_law_halves","_law_i","_law_mark","_law_first"] ds):=by
 rintro ds Q ⟨x,rfl,fs,ms,rfl,hf,h⟩
 have two:=hf.fr.two
 have most:=hf.fr.most
 have rest4:=wa hf h
 simp_arith only [ji,qb,eB,dm,gQ,B7,jG]
 refine⟨fs,rfl,by omega,by omega,fs,rfl,hf.fr,fun ts htl hlen=>?_⟩
 have ok:=uM htl hf.fr
 refine cf (fun i e=>∃(tk:List (D×D)) (th:bQ→Option bQ) (k5 k6 k7:Option Lo),e=[some (.d (qb fs ms)),some (.d (.tup (fs.map fE))),some (.d (.tup (ms.map lG))),some (.d (.lst (ua fs))),some (.dic tk),k5,k6,k7,none,none,none,none]∧fD tk th∧uW (ts.take i) th∧tk.length≤3 * i) ?_ ?_ ⟨[],_,none,none,none,rfl,fD.nil,by simpa using uW.nil,by simp⟩
 ·rintro i x env N hx ⟨tk,th,k5,k6,k7,rfl,hd,ht,hl⟩ hN
  have hi:i < ts.length:=by have:=(List.getElem?_eq_some_iff.mp hx).1;simpa using this
  obtain⟨t,hti⟩:∃t,ts[i]?=some t:=⟨ts[i],List.getElem?_eq_getElem hi⟩
  rw [List.getElem?_map,hti] at hx
  cases hx
  have tke:ts.take (i + 1)=ts.take i ++ [t]:=by rw [List.take_succ,hti];rfl
  have nd:(d7 (ts.take i ++ [t])).Nodup:=by
   rw [← tke]
   have q:=ok.dif
   rw [← List.take_append_drop (i + 1) ts] at q
   unfold d7 at q ⊢
   rw [List.flatMap_append,List.nodup_append] at q
   exact q.1
  have d1:=hd.put (.edge (t.1,t.2.1)) (.edge (t.2.1,t.2.2))
  have d2:=d1.put (.edge (t.2.1,t.2.2)) (.edge (t.2.2,t.1))
  have d3:=d2.put (.edge (t.2.2,t.1)) (.edge (t.1,t.2.1))
  have l1:=cX (kvs:=tk) (k:=cQ (.edge (t.1,t.2.1))) (v:=cQ (.edge (t.2.1,t.2.2)))
  have l2:=cX (kvs:=putN tk (cQ (.edge (t.1,t.2.1))) (cQ (.edge (t.2.1,t.2.2)))) (k:=cQ (.edge (t.2.1,t.2.2))) (v:=cQ (.edge (t.2.2,t.1)))
  have l3:=cX (kvs:=putN (putN tk (cQ (.edge (t.1,t.2.1))) (cQ (.edge (t.2.1,t.2.2)))) (cQ (.edge (t.2.1,t.2.2))) (cQ (.edge (t.2.2,t.1)))) (k:=cQ (.edge (t.2.2,t.1))) (v:=cQ (.edge (t.1,t.2.1)))
  have sz:=PySem.sizeLine_eq
  have k1:=bJ (.edge (t.1,t.2.1))
  have k2:=bJ (.edge (t.2.1,t.2.2))
  have k3:=bJ (.edge (t.2.2,t.1))
  simp only [cQ] at l1 l2 l3
  simp_arith only [IA,a6,Lo.dic.injEq]
  refine⟨k1.1,k1.2,hd.ok,by omega,k2.1,k2.2,d1.ok,by omega,k3.1,k3.2,d2.ok,by omega,?_⟩
  exact hN _ ⟨_,_,_,_,_,rfl,d3,by rw [tke];exact ht.snoc nd,by omega⟩
 ·rintro env ⟨tk,th,k5,k6,k7,rfl,hd,ht,hl⟩
  rw [List.length_map,List.take_length] at ht
  rw [List.length_map] at hl
  exact rest4 ts tk th k5 k6 k7 htl hlen hd ht hl
end KR
namespace KR
open PySem L2 L2.L3 K55
section
variable {β:Type} [DecidableEq β]
def d8 (met:List β) (q:β):List β:=if q∈met then met else met ++ [q]
def nE (ha th:β→β):Nat→Nat→List β→List β
 | 0,_,met=>met
 | n + 1,at_,met=>match met[at_]? with
  | none=>met
  | some p=>nE ha th n (at_ + 1) (d8 (d8 met (ha p)) (th p))
def dW (met:List β) (g:β→β):List Nat:=met.map fun p=>met.idxOf (g p)
structure Code (c:β→D):Prop where
 eq:∀p q,ba (c p) (c q)=decide (p=q)
 dp:∀p,dep (c p)≤8
def Look (x:D) (g:β→β) (c:β→D) (P:β→Prop):Prop:=∀p,P p→∀Q:D→Prop,Q (c (g p))→Es x (c p) Q
structure Sy (ha th:β→β) (f:β) (P:β→Prop) (all:List β):Prop where
 f0:P f
 cl:∀p,P p→P (ha p)∧P (th p)
 al:∀p,P p→p∈all
 few:all.length≤500
structure Me (P:β→Prop) (met:List β):Prop where
 nd:met.Nodup
 inn:∀p∈met,P p
theorem Me.add {P:β→Prop} {met:List β} (m:Me P met) {q:β} (hq:P q):Me P (d8 met q):=by
 unfold d8
 by_cases c:q∈met
 ·rw [if_pos c];exact m
 ·rw [if_neg c]
  refine⟨List.nodup_append.mpr ⟨m.nd,by simp,fun a ha b hb e=>c (by rw [List.mem_singleton] at hb;rw [← hb,← e];exact ha)⟩,fun p hp=>?_⟩
  rcases List.mem_append.mp hp with z | z
  ·exact m.inn p z
  ·rw [List.mem_singleton] at z;rw [z];exact hq
theorem cK {met:List β} {q p:β} {i:Nat} (h:met[i]?=some p):(d8 met q)[i]?=some p:=by
 unfold d8
 by_cases c:q∈met
 ·rw [if_pos c];exact h
 ·rw [if_neg c,List.getElem?_append_left (List.getElem?_eq_some_iff.mp h).1];exact h
theorem kR {met:List β} {q:β}:q∈d8 met q:=by
 unfold d8
 by_cases c:q∈met
 ·rw [if_pos c];exact c
 ·rw [if_neg c];simp
theorem fe {met:List β} {q p:β} (h:p∈met):p∈d8 met q:=by
 unfold d8
 by_cases c:q∈met
 ·rw [if_pos c];exact h
 ·rw [if_neg c];exact List.mem_append.mpr (.inl h)
theorem Me.len {ha th:β→β} {f:β} {P:β→Prop} {all met:List β} (s:Sy ha th f P all) (m:Me P met):met.length≤all.length:=oi met all m.nd fun p hp=>s.al p (m.inn p hp)
theorem HI {c:β→D} (k:Code c) (met:List β) (q:β):((met.map c).any fun e=>ba e (c q))=decide (q∈met):=by
 rw [Bool.eq_iff_iff,List.any_eq_true,decide_eq_true_eq]
 constructor
 ·rintro⟨e,h1,h2⟩
  obtain⟨z,hz,rfl⟩:=List.mem_map.mp h1
  rw [k.eq,decide_eq_true_eq] at h2
  exact h2▸hz
 ·exact fun h=>⟨_,List.mem_map.mpr ⟨q,h,rfl⟩,by rw [k.eq];simp⟩
theorem xO {c:β→D} (k:Code c):∀met:List β,cy (met.map c)≤8
 | []=>by simp [cy]
 | a :: l=>by
  have:=xO k l
  have:=k.dp a
  simp only [List.map_cons,cy]
  omega
theorem fC {met:List β} {q:β} (h:q∈met):met[met.idxOf q]?=some q:=by
 rw [List.getElem?_eq_getElem (List.idxOf_lt_length_iff.mpr h),List.getElem_idxOf]
theorem x9 {met:List β} {x:D} {g:β→β} {c:β→D} {P:β→Prop} (k:Code c) (lk:Look x g c P) (m:Me P met) (cl:∀p∈met,g p∈met) (hl:met.length≤500) {Q:List D→Prop} (h:Q (bG (dW met g))) :
  comps fg (kf (ag 2) (aC Es (ag 1) (ag 0))) [none,some (.d x),some (.d (.lst (met.map c)))] Q (met.map c) []:=by
 refine mC (fun x y=>∀p,x=c p→p∈met→y=.int ((met.idxOf (g p):Nat):Int)) _ _ (fun x' hx N hN=>?_) (by simp [PySem.sizeLine_eq];omega) (fun ys hy hR=>?_)
 ·obtain⟨p,hp,rfl⟩:=List.mem_map.mp hx
  have mq:=cl p hp
  have dl:=xO k met
  have kq:=k.dp (g p)
  have at_:∀j,(((met.map c)[j]?).map fun d=>ba d (c (g p)))=(met[j]?).map fun z=>decide (z=g p):=fun j=>by
   rw [List.getElem?_map,Option.map_map]
   congr 1
   funext z
   exact k.eq z (g p)
  simp_arith only [kf]
  refine⟨by omega,lk p (m.inn p hp) _ ⟨by omega,met.idxOf (g p),?_,fun j hj=>?_,hN _ fun p' ep mp=>?_⟩⟩
  ·rw [at_,fC mq];simp
  ·have hkl:j < met.length:=Nat.lt_trans hj (List.idxOf_lt_length_iff.mpr mq)
   rw [at_,List.getElem?_eq_getElem hkl]
   simp only [Option.map_some,Option.some.injEq,decide_eq_false_iff_not]
   intro z
   have:=(List.getElem?_inj hkl m.nd).mp (show met[j]?=met[met.idxOf (g p)]? by rw [fC mq,List.getElem?_eq_getElem hkl,z])
   omega
  ·have e:=k.eq p p'
   rw [← ep,k.eq] at e
   have:p=p':=by simpa using e
   subst this
   rfl
 ·have:[] ++ ys=bG (dW met g):=by
   rw [List.nil_append]
   unfold bG dW
   rw [List.map_map]
   apply List.ext_getElem?
   intro i
   rw [List.length_map] at hy
   rw [List.getElem?_map]
   by_cases cc:i < met.length
   ·have h1:ys[i]?=some (ys[i]'(by omega)):=List.getElem?_eq_getElem _
    have h2:met[i]?=some met[i]:=List.getElem?_eq_getElem cc
    rw [h1,h2]
    have:=hR i (c met[i]) _ (by rw [List.getElem?_map,h2];rfl) h1 met[i] rfl (List.getElem_mem cc)
    rw [this];rfl
   ·rw [List.getElem?_eq_none (by omega),List.getElem?_eq_none (by omega)];rfl
  rw [this];exact h
end
def oJ {β:Type} [DecidableEq β] (ha th:β→β) (f:β) (n:Nat):List β:=nE ha th (n + 1) 0 [f]
def Ht (x y z:D) (Q:D→Prop):Prop:=∃(β:Type) (_:DecidableEq β) (c:β→D) (ha th:β→β) (f:β) (P:β→Prop) (all:List β),Code c∧Look x ha c P∧Look y th c P∧z=c f∧Sy ha th f P all ∧
 Q (.tup [.tup (bG (dW (oJ ha th f all.length) ha)),.tup (bG (dW (oJ ha th f all.length) th))])
def eJ:Fw:=F3 Ht
def jh:bC:=(aX 4 (aC bM (ag 4) (cC (.int 1))))
def km:bC:=(fG 3 (bo (bT (af (az gz (af (fu (kN [0,3] (ag 3) fg (kf (ag 2) (aC Es (ag 1) (ag 0))))) av)) (af (az gz (af (fu (kN [1,3] (ag 3) fg (kf (ag 2) (aC Es (ag 1) (ag 0))))) av)) av)))))
def jX:bC:=(aF (c7 3 (vG (af (ag 2) av))) (aF (aX 4 (cC (.int 0))) (aF (gV (aM (aC wD (ag 4) (eO 3))) (aF (lZ (gA (af (aC Es (ag 0) (de 3 (ag 4))) (af (aC Es (ag 1) (de 3 (ag 4))) av))) (aP 5) (fX (wc true 3 (ag 5)) (ir 3 (ag 5)) bq)) jh)) km)))
theorem rT:∀ds Q,eJ ds Q→ds.length=3:=xY
theorem vY:∀ds (Q:D→Prop),eJ ds Q→jX { nx:=fun _=>Q .non,rt:=Q } (aJ ["_law_halves","_law_thirds","_law_first","_law_met","_law_at","_law_behind"] ds):=by
 rintro ds Q ⟨x,y,z,rfl,β,inst,c,ha,th,f,P,all,k,lx,ly,rfl,sy,h⟩
 have sz:=PySem.sizeLine_eq
 have few:=sy.few
 simp_arith only [jX,gV]
 refine⟨fun e=>∃(met:List β) (at_:Nat) (k5:Option Lo),e=[some (.d x),some (.d y),some (.d (c f)),some (.own (met.map c)),some (.d (.int at_)),k5]∧Me P met∧at_≤met.length∧(∀i p,i < at_→met[i]?=some p→ha p∈met∧th p∈met)∧nE ha th (all.length + 1 - at_) at_ met=oJ ha th f all.length,
  fun e=>match e with | [_,_,_,_,some (.d (.int j)),_]=>all.length - j.toNat | _=>0,⟨[f],0,none,rfl,⟨by simp,fun p hp=>by rw [List.mem_singleton] at hp;rw [hp];exact sy.f0⟩,Nat.zero_le _,fun i p hi=>absurd hi (Nat.not_lt_zero _),rfl⟩,?_⟩
 rintro env ⟨met,at_,k5,rfl,m,mle,cl,hb⟩
 have ml:=m.len sy
 simp_arith only [List.length_map]
 by_cases cc:at_ < met.length
 ·rw [if_pos (by omega)]
  obtain⟨p,hp⟩:∃p,met[at_]?=some p:=⟨met[at_],List.getElem?_eq_getElem cc⟩
  have ip:=m.inn p (List.mem_of_getElem? hp)
  obtain⟨i1,i2⟩:=sy.cl p ip
  have ai:jN (met.map c) (at_:Int)=some (c p):=gp _ _ _ _ hp
  refine⟨_,_,rfl,ai,lx p ip _ ⟨_,_,rfl,ai,ly p ip _ ?_⟩⟩
  show turns _ _ _ [c (ha p),c (th p)] _
  have m1:=m.add i1
  have m2:=m1.add i2
  let mm:Nat→List β:=fun i=>match i with
   | 0=>met
   | 1=>d8 met (ha p)
   | _=>d8 (d8 met (ha p)) (th p)
  have hmm:∀i,Me P (mm i):=fun i=>match i with
   | 0=>m
   | 1=>m1
   | _ + 2=>m2
  refine cf (fun i e=>i≤2∧∃k5,e=[some (.d x),some (.d y),some (.d (c f)),some (.own ((mm i).map c)),some (.d (.int at_)),k5]) ?_ ?_ ⟨by omega,k5,rfl⟩
  ·rintro i x' env N hx ⟨hi2,k5,rfl⟩ hN
   obtain⟨q,rfl,eq⟩:∃q,x'=c q∧mm (i + 1)=d8 (mm i) q:=by
    match i,hx with
    | 0,hx=>cases hx;exact⟨_,rfl,rfl⟩
    | 1,hx=>cases hx;exact⟨_,rfl,rfl⟩
   have hi:i < 2:=by have:=(List.getElem?_eq_some_iff.mp hx).1;simpa using this
   have ml':=(hmm i).len sy
   have kq:=k.dp q
   have dl:=xO k (mm i)
   simp_arith only [wc,List.length_map]
   refine⟨by omega,by omega,?_⟩
   rw [HI k]
   unfold d8 at eq
   by_cases c2:q∈mm i
   ·rw [if_pos c2] at eq
    rw [decide_eq_true c2]
    refine hN _ ⟨by omega,some (.d (c q)),?_⟩
    rw [eq]
   ·rw [if_neg c2] at eq
    rw [decide_eq_false c2]
    refine⟨by omega,hN _ ⟨by omega,some (.d (c q)),?_⟩⟩
    rw [eq,List.map_append];rfl
  ·rintro env ⟨_,k5,rfl⟩
   simp_arith only [jh]
   refine⟨⟨d8 (d8 met (ha p)) (th p),at_ + 1,k5,rfl,by omega,rfl,m2,?_,fun i q hi hq=>?_,?_⟩,by omega⟩
   ·have:=(List.getElem?_eq_some_iff.mp (cK (q:=th p) (cK (q:=ha p) hp))).1
    omega
   ·by_cases e:i=at_
    ·subst e
     rw [cK (cK hp)] at hq
     cases hq
     exact⟨fe kR,kR⟩
    ·have hi':i < met.length:=by omega
     have o:met[i]?=some met[i]:=List.getElem?_eq_getElem hi'
     rw [cK (cK o)] at hq
     cases hq
     obtain⟨a1,a2⟩:=cl i _ (by omega) o
     exact⟨fe (fe a1),fe (fe a2)⟩
   ·rw [← hb,show all.length + 1 - at_=(all.length - at_) + 1 by omega,nE,hp]
    rw [show all.length + 1 - (at_ + 1)=all.length - at_ by omega]
 ·rw [if_neg (by omega)]
  have ea:at_=met.length:=by omega
  subst ea
  have eM:oJ ha th f all.length=met:=by
   rw [← hb,show all.length + 1 - met.length=(all.length - met.length) + 1 by omega,nE,List.getElem?_eq_none (Nat.le_refl _)]
  rw [eM] at h
  simp_arith only [km,dX]
  refine x9 k lx m (fun p hp=>?_) (by omega) (x9 k ly m (fun p hp=>?_) (by omega) h)
  ·obtain⟨i,hi⟩:=List.getElem?_of_mem hp
   exact (cl i p (List.getElem?_eq_some_iff.mp hi).1 hi).1
  ·obtain⟨i,hi⟩:=List.getElem?_of_mem hp
   exact (cl i p (List.getElem?_eq_some_iff.mp hi).1 hi).2
end KR
namespace KR
open PySem L2 L2.L3 K55
section
variable {β:Type} [DecidableEq β] {ha th:β→β} {f:β} {P:β→Prop} {all:List β}
structure Full (ha th:β→β) (f:β) (P:β→Prop) (met:List β):Prop where
 me:Me P met
 cl:∀p∈met,ha p∈met∧th p∈met
 head:met[0]?=some f
 num:∀j q,0 < j→met[j]?=some q→∃i p,i < j∧met[i]?=some p∧(ha p=q∨th p=q)
structure Part (ha th:β→β) (f:β) (P:β→Prop) (met:List β) (at_:Nat):Prop where
 me:Me P met
 le:at_≤met.length
 cl:∀i p,i < at_→met[i]?=some p→ha p∈met∧th p∈met
 head:met[0]?=some f
 num:∀j q,0 < j→met[j]?=some q→∃i p,i < j∧i≤at_∧met[i]?=some p∧(ha p=q∨th p=q)
theorem Part.add {met:List β} {at_:Nat} (m:Part ha th f P met at_) {p q:β} (hp:met[at_]?=some p) (hq:P q) (e:ha p=q∨th p=q):Part ha th f P (d8 met q) at_:=by
 have hl:=(List.getElem?_eq_some_iff.mp hp).1
 refine⟨m.me.add hq,?_,fun i x hi hx=>?_,cK m.head,fun j x hj hx=>?_⟩
 ·have:=(List.getElem?_eq_some_iff.mp (cK (q:=q) hp)).1;omega
 ·have o:met[i]?=some (met[i]'(by omega)):=List.getElem?_eq_getElem _
  rw [cK o] at hx
  cases hx
  obtain⟨a,b⟩:=m.cl i _ hi o
  exact⟨fe a,fe b⟩
 ·by_cases c:j < met.length
  ·have o:met[j]?=some met[j]:=List.getElem?_eq_getElem c
   rw [cK o] at hx
   cases hx
   obtain⟨i,y,h1,h2,h3,h4⟩:=m.num j _ hj o
   exact⟨i,y,h1,h2,cK h3,h4⟩
  ·have hx':=hx
   unfold d8 at hx
   by_cases cq:q∈met
   ·rw [if_pos cq,List.getElem?_eq_none (by omega)] at hx;cases hx
   ·rw [if_neg cq,List.getElem?_append_right (by omega)] at hx
    have hj0:j - met.length=0:=by
     have:=(List.getElem?_eq_some_iff.mp hx).1
     simpa using this
    rw [hj0] at hx
    have:q=x:=by simpa using hx
    subst this
    exact⟨at_,p,by omega,Nat.le_refl _,cK hp,e⟩
theorem vE (sy:Sy ha th f P all):∀n at_ met,Part ha th f P met at_→n + at_=all.length + 1→Full ha th f P (nE ha th n at_ met)
 | 0,at_,met,m,e=>by
  have:=m.me.len sy
  have:=m.le
  omega
 | n + 1,at_,met,m,e=>by
  rw [nE]
  cases hp:met[at_]? with
  | none =>
   have:=m.le
   have ea:at_=met.length:=by
    have:=List.getElem?_eq_none_iff.mp hp;omega
   refine⟨m.me,fun p hp=>?_,m.head,fun j q hj hq=>?_⟩
   ·obtain⟨i,hi⟩:=List.getElem?_of_mem hp
    exact m.cl i p (by rw [ea];exact (List.getElem?_eq_some_iff.mp hi).1) hi
   ·obtain⟨i,p,h1,_,h3,h4⟩:=m.num j q hj hq
    exact⟨i,p,h1,h3,h4⟩
  | some p =>
   have ip:=m.me.inn p (List.mem_of_getElem? hp)
   obtain⟨c1,c2⟩:=sy.cl p ip
   have m1:=m.add hp c1 (.inl rfl)
   have hp1:=cK (q:=ha p) hp
   have m2:=m1.add hp1 c2 (.inr rfl)
   have hp2:=cK (q:=th p) hp1
   refine vE sy n (at_ + 1) _ ⟨m2.me,?_,fun i x hi hx=>?_,m2.head,fun j q hj hq=>?_⟩ (by omega)
   ·have:=(List.getElem?_eq_some_iff.mp hp2).1;omega
   ·by_cases e:i=at_
    ·subst e
     rw [hp2] at hx
     cases hx
     exact⟨fe kR,kR⟩
    ·exact m2.cl i x (by omega) hx
   ·obtain⟨i,y,h1,h2,h3,h4⟩:=m2.num j q hj hq
    exact⟨i,y,h1,by omega,h3,h4⟩
theorem oI (sy:Sy ha th f P all):Full ha th f P (oJ ha th f all.length):=by
 refine vE sy (all.length + 1) 0 [f] ⟨⟨by simp,fun p hp=>by rw [List.mem_singleton] at hp;rw [hp];exact sy.f0⟩,Nat.zero_le _,fun i p hi=>absurd hi (Nat.not_lt_zero _),rfl,fun j q hj hq=>?_⟩ rfl
 have:=(List.getElem?_eq_some_iff.mp hq).1
 simp at this
 omega
end
structure Ha (a b:List Nat):Prop where
 ok:kE a b
 pos:0 < a.length
 num:∀j,0 < j→j < a.length→∃i,i < j∧(a[i]?=some j∨b[i]?=some j)
theorem jF {β:Type} [DecidableEq β] {met:List β} {g:β→β} {i:Nat} {p:β} (h:met[i]?=some p):(dW met g)[i]?=some (met.idxOf (g p)):=by
 unfold dW;rw [List.getElem?_map,h];rfl
theorem gR {β:Type} [DecidableEq β] {met:List β} (nd:met.Nodup) {i:Nat} {p:β} (h:met[i]?=some p):met.idxOf p=i:=by
 have h2:=fC (List.mem_of_getElem? h)
 exact (List.getElem?_inj (List.getElem?_eq_some_iff.mp h2).1 nd).mp (h2.trans h.symm)
theorem Full.Cn {β:Type} [DecidableEq β] {ha th:β→β} {f:β} {P:β→Prop} {met:List β} (m:Full ha th f P met) (hh:∀p,P p→ha (ha p)=p) (t3:∀p,P p→th (th (th p))=p):Ha (dW met ha) (dW met th):=by
 have l1:∀g:β→β,(dW met g).length=met.length:=fun g=>by unfold dW;rw [List.length_map]
 have inv:∀(g:β→β) (i x:Nat),(dW met g)[i]?=some x→∃p,met[i]?=some p∧x=met.idxOf (g p):=fun g i x h=>by
  unfold dW at h
  rw [List.getElem?_map] at h
  obtain⟨p,hp,e⟩:=Option.map_eq_some_iff.mp h
  exact⟨p,hp,e.symm⟩
 have nd:=m.me.nd
 refine⟨⟨by rw [l1,l1],fun i x h=>?_,fun i x h=>?_,fun i x h=>?_,fun i x y h1 h2=>?_⟩,?_,fun j hj hl=>?_⟩
 ·obtain⟨p,hp,rfl⟩:=inv _ _ _ h
  rw [l1];exact List.idxOf_lt_length_iff.mpr (m.cl p (List.mem_of_getElem? hp)).1
 ·obtain⟨p,hp,rfl⟩:=inv _ _ _ h
  rw [l1];exact List.idxOf_lt_length_iff.mpr (m.cl p (List.mem_of_getElem? hp)).2
 ·obtain⟨p,hp,rfl⟩:=inv _ _ _ h
  have pm:=List.mem_of_getElem? hp
  rw [jF (fC (m.cl p pm).1),hh p (m.me.inn p pm),gR nd hp]
 ·obtain⟨p,hp,rfl⟩:=inv _ _ _ h1
  have pm:=List.mem_of_getElem? hp
  have q1:=(m.cl p pm).2
  rw [jF (fC q1)] at h2
  cases h2
  rw [jF (fC (m.cl _ q1).2),t3 p (m.me.inn p pm),gR nd hp]
 ·rw [l1]
  exact List.length_pos_of_mem (List.mem_of_getElem? m.head)
 ·rw [l1] at hl
  obtain⟨i,p,h1,h2,h3⟩:=m.num j met[j] hj (List.getElem?_eq_getElem hl)
  refine⟨i,h1,?_⟩
  have ij:met.idxOf met[j]=j:=gR nd (List.getElem?_eq_getElem hl)
  rcases h3 with e | e
  ·left;rw [jF h2,e,ij]
  ·right;rw [jF h2,e,ij]
end KR
namespace KR
open PySem L2 L2.L3 K55
theorem vQ {kvs:List (D×D)} {g:bQ→Option bQ} (e:fD kvs g) {P:bQ→Prop} (t:∀p,P p→∃q,g p=some q):Look (.obj (tI kvs)) (fun p=>(g p).getD p) cQ P:=fun p hp Q q=>by
 obtain⟨r,hr⟩:=t p hp
 have k:=bJ p
 have q:Q (cQ ((g p).getD p)):=q
 rw [hr] at q
 exact .inl ⟨kvs,cQ r,rfl,k.1,k.2,e.ok,by rw [e.get,hr];rfl,q⟩
theorem C0:Code cQ:=⟨w6,fun p=>(bJ p).2⟩
theorem FR {l:List Nat} {i x:Nat} (h:l[i]?=some x) {Q:D→Prop}:cz (.tup (bG l)) (.int (i:Int)) Q=Q (.int (x:Int)):=by
 have hi:i < l.length:=(List.getElem?_eq_some_iff.mp h).1
 have e:jN (bG l) (i:Int)=some (.int (x:Int)):=by
  have e1:r9 l.length (i:Int)=some i:=by unfold r9;rw [if_pos (by omega),if_pos (by omega)];simp
  unfold jN bG
  rw [List.length_map,e1]
  simp [h]
 exact propext ⟨fun⟨v,ev,q⟩=>by rw [e] at ev;cases ev;exact q,fun q=>⟨_,e,q⟩⟩
def wV (a:List Nat) (i:Nat):Nat:=a.getD i 0
theorem xU {a:List Nat} {i:Nat} (h:i < a.length):a[i]?=some (wV a i):=by unfold wV;rw [List.getD_eq_getElem?_getD,List.getElem?_eq_getElem h];rfl
theorem Ha.sy {a b:List Nat} (t:Ha a b) (hl:a.length≤500) {k:Nat} (hk:k < a.length):Sy (wV a) (wV b) k (fun i=>i < a.length) (List.range a.length):=by
 have e:=t.ok.len
 refine⟨hk,fun p hp=>⟨t.ok.al _ _ (xU hp),t.ok.bl _ _ (xU (by omega))⟩,fun p hp=>List.mem_range.mpr hp,by simpa using hl⟩
theorem vv {β γ:Type} [DecidableEq β] [DecidableEq γ] {φ:β→γ} {P:β→Prop} (inj:∀p q,P p→P q→φ p=φ q→p=q) {met:List β} {q:β} (hm:∀p∈met,P p) (hq:P q):d8 (met.map φ) (φ q)=(d8 met q).map φ:=by
 unfold d8
 by_cases c:q∈met
 ·rw [if_pos c,if_pos (List.mem_map.mpr ⟨q,c,rfl⟩)]
 ·rw [if_neg c,if_neg,List.map_append];rfl
  intro z
  obtain⟨p,hp,e⟩:=List.mem_map.mp z
  exact c (inj p q (hm p hp) hq e▸hp)
theorem yC {β:Type} [DecidableEq β] {P:β→Prop} {met:List β} {q:β} (hm:∀p∈met,P p) (hq:P q):∀p∈d8 met q,P p:=by
 intro p hp
 unfold d8 at hp
 by_cases c:q∈met
 ·rw [if_pos c] at hp;exact hm p hp
 ·rw [if_neg c] at hp
  rcases List.mem_append.mp hp with z | z
  ·exact hm p z
  ·rw [List.mem_singleton] at z;rw [z];exact hq
theorem yl {β γ:Type} [DecidableEq β] [DecidableEq γ] {ha th:β→β} {ha' th':γ→γ} {φ:β→γ} {P:β→Prop} (cl:∀p,P p→P (ha p)∧P (th p)) (e1:∀p,P p→ha' (φ p)=φ (ha p)) (e2:∀p,P p→th' (φ p)=φ (th p))
  (inj:∀p q,P p→P q→φ p=φ q→p=q):∀n at_ met,(∀p∈met,P p)→nE ha' th' n at_ (met.map φ)=(nE ha th n at_ met).map φ
 | 0,_,_,_=>rfl
 | n + 1,at_,met,hm=>by
  rw [nE,nE,List.getElem?_map]
  cases hp:met[at_]? with
  | none=>rfl
  | some p =>
   have ip:=hm p (List.mem_of_getElem? hp)
   have i1:=yC hm (cl p ip).1
   show nE ha' th' n (at_ + 1) (d8 (d8 (met.map φ) (ha' (φ p))) (th' (φ p)))=_
   rw [e1 p ip,e2 p ip,vv inj hm (cl p ip).1,vv inj i1 (cl p ip).2]
   exact yl cl e1 e2 inj n (at_ + 1) _ (yC i1 (cl p ip).2)
theorem vk {β:Type} [DecidableEq β] {ha th:β→β}:∀n k at_ met,(nE ha th n at_ met).length < n + at_→nE ha th (n + k) at_ met=nE ha th n at_ met
 | 0,k,at_,met,h=>by
  have h':met.length < 0 + at_:=h
  cases k with
  | zero=>rfl
  | succ k =>
   show nE ha th (0 + (k + 1)) at_ met=met
   rw [Nat.zero_add,nE,List.getElem?_eq_none (by omega)]
 | n + 1,k,at_,met,h=>by
  rw [show n + 1 + k=(n + k) + 1 by omega,nE,nE]
  rw [nE] at h
  cases hp:met[at_]? with
  | none=>rfl
  | some p =>
   rw [hp] at h
   exact vk n k (at_ + 1) _ (by have:(nE ha th n (at_ + 1) (d8 (d8 met (ha p)) (th p))).length < n + 1 + at_:=h;omega)
def Bv (a b:List Nat):Prop:=oJ (wV a) (wV b) 0 a.length=List.range a.length
theorem A1 {β:Type} [DecidableEq β] {ha th:β→β} {f:β} {P:β→Prop} {all:List β} (sy:Sy ha th f P all) (tb:Ha (dW (oJ ha th f all.length) ha) (dW (oJ ha th f all.length) th)):Bv (dW (oJ ha th f all.length) ha) (dW (oJ ha th f all.length) th):=by
 have F:=oI sy
 have l1:=F.me.len sy
 have few:=sy.few
 unfold Bv
 generalize hm:oJ ha th f all.length=met at *
 have la:(dW met ha).length=met.length:=by unfold dW;rw [List.length_map]
 have i0:met.idxOf f=0:=gR F.me.nd F.head
 have nat:∀(g:β→β) (p:β),p∈met→wV (dW met g) (met.idxOf p)=met.idxOf (g p):=fun g p hp=>by
  have h1:=jF (g:=g) (fC hp)
  rw [xU (List.getElem?_eq_some_iff.mp h1).1] at h1
  exact Option.some.inj h1
 have e:=yl (ha:=ha) (th:=th) (ha':=wV (dW met ha)) (th':=wV (dW met th)) (φ:=met.idxOf) (P:=fun p=>p∈met) (fun p hp=>F.cl p hp) (nat ha) (nat th) (fun p q hp hq z=>by
  have h1:=fC hp
  rw [z,fC hq] at h1
  exact (Option.some.inj h1).symm) (all.length + 1) 0 [f] (fun p hp=>by rw [List.mem_singleton] at hp;rw [hp];exact List.mem_of_getElem? F.head)
 have hm':nE ha th (all.length + 1) 0 [f]=met:=hm
 rw [hm',List.map_cons,List.map_nil,i0] at e
 have hr:met.map (fun p=>met.idxOf p)=List.range met.length:=by
  apply List.ext_getElem?
  intro i
  rw [List.getElem?_map]
  by_cases c:i < met.length
  ·rw [List.getElem?_range c,List.getElem?_eq_getElem c]
   show some (met.idxOf met[i])=_
   rw [gR F.me.nd (List.getElem?_eq_getElem c)]
  ·rw [List.getElem?_eq_none (by omega),List.getElem?_eq_none (by simp;omega)];rfl
 have e':nE (wV (dW met ha)) (wV (dW met th)) (all.length + 1) 0 [0]=List.range met.length:=by rw [e];exact hr
 have sy':=tb.sy (by rw [la];omega) tb.pos
 have F':=oI sy'
 have l2:=F'.me.len sy'
 rw [List.length_range,la] at l2
 have m:=vk (ha:=wV (dW met ha)) (th:=wV (dW met th)) (met.length + 1) (all.length - met.length) 0 [0] (by
  have l3:(nE (wV (dW met ha)) (wV (dW met th)) (met.length + 1) 0 [0]).length≤met.length:=l2
  omega)
 rw [show met.length + 1 + (all.length - met.length)=all.length + 1 by omega,e'] at m
 rw [la]
 exact m.symm
def Ee (x:D) (Q:D→Prop):Prop:=∃fs ms,x=qb fs ms∧kU fs ms∧∀a b:List Nat,Ha a b→Bv a b→a.length≤500→Q (.tup [.tup (bG a),.tup (bG b)])
def dk:Fw:=F1 Ee
def iJ:bC:=(aF (lO (az di (af (ag 0) av)) (iG 3 (aZ (aP 1) (aZ (aP 2) (aZ (aP 3) iH))))) (bo (az eJ (af (ag 1) (af (ag 2) (af (ag 3) av))))))
theorem p6:∀ds Q,dk ds Q→ds.length=1:=jc
theorem sD:∀ds (Q:D→Prop),dk ds Q→iJ { nx:=fun _=>Q .non,rt:=Q } (aJ ["_law_fan_here","_law_halves","_law_thirds","_law_first"] ds):=by
 rintro ds Q ⟨x,rfl,fs,ms,rfl,hf,h⟩
 simp_arith only [iJ,di,eJ,gQ,oK,AS]
 refine⟨fs,ms,rfl,hf,fun hk tk ha th f e1 e2 hr=>?_⟩
 obtain⟨isP,all,sys,src,cnt⟩:=EM hf hr
 have sy:Sy (fun p=>(ha p).getD p) (fun p=>(th p).getD p) f isP all:=⟨sys.f0,fun p hp=>by
  obtain⟨q,a1,i1⟩:=sys.h1 p hp
  obtain⟨r,a2,i2⟩:=sys.t1 p hp
  rw [a1,a2]
  exact⟨i1,i2⟩,sys.al,sys.few⟩
 have fm:=oI sy
 have tb:=fm.Cn (fun p hp=>by
  obtain⟨q,a1,i1⟩:=sys.h1 p hp
  rw [a1,Option.getD_some,sys.hh p q hp a1,Option.getD_some]) (fun p hp=>by
  obtain⟨q,r,a1,a2,a3⟩:=sys.t3 p hp
  rw [a1,Option.getD_some,a2,Option.getD_some,a3,Option.getD_some])
 refine⟨bQ,inferInstance,cQ,_,_,f,isP,all,C0,vQ e1 (fun p hp=>let ⟨q,a,_⟩:=sys.h1 p hp;⟨q,a⟩),vQ e2 (fun p hp=>let ⟨q,a,_⟩:=sys.t1 p hp;⟨q,a⟩),rfl,sy,h _ _ tb (A1 sy tb) ?_⟩
 unfold dW
 rw [List.length_map]
 exact Nat.le_trans (fm.me.len sy) sys.few
end KR
namespace KR
open PySem L2 L2.L3 K55
end KR
namespace KR
open PySem L2 L2.L3 K55
end KR
namespace KR
open PySem L2 L2.L3 K55
end KR
namespace KR
open PySem L2 L2.L3 K55
abbrev lN (a b:List Nat):D:=.tup [.tup (bG a),.tup (bG b)]
end KR
namespace KR
open PySem L2 L2.L3 K55
end KR
namespace KR
open PySem L2 L2.L3 K55
end KR
namespace KR
open PySem L2 L2.L3 K55
end KR
namespace KR
open PySem L2 L2.L3 K55
theorem jW {a b:List Nat} (t:kE a b) {x:Nat} (h:x < a.length):a[x]?=some (a.getD x 0)∧b[x]?=some (b.getD x 0):=⟨getD_at h,getD_at (l:=b) (by rw [t.len];exact h)⟩
def J4 (t p l:D) (Q:D→Prop):Prop:=∃(a b:List Nat) (x c:Nat),t=lN a b∧p=.int (x:Int)∧l=.str (dG c)∧kE a b∧x < a.length∧isLet c∧Q (.int ((lp a b x c:Nat):Int))
def cp:Fw:=F3 J4
def fU:bC:=(aF (lO (ag 0) (iG 2 (aZ (aP 3) (aZ (aP 4) iH)))) (aF (fX (aM (aC gI (ag 2) (cC (.str "s")))) (bo (aC cz (ag 3) (ag 1))) bq) (aF (aX 5 (aC cz (ag 4) (ag 1))) (aF (fX (pA (aM (aC gI (ag 2) (cC (.str "q")))) (aM (aC (dN true) (ag 5) (cC .non)))) (bo (aC cz (ag 4) (ag 5))) bq) (bo (ag 5))))))
theorem mD:∀ds Q,cp ds Q→ds.length=3:=xY
theorem mZ:∀ds (Q:D→Prop),cp ds Q→fU { nx:=fun _=>Q .non,rt:=Q } (aJ ["table","place","letter","halves","thirds","behind"] ds):=by
 rintro ds Q ⟨t,p,l,rfl,a,b,x,c,rfl,rfl,rfl,tab,hx,hc,h⟩
 have hb:=nV tab hx
 simp_arith only [fU,dN,lI]
 rw [FR (jW tab hx).1,FR (jW tab hx).2]
 rcases hc with z | z | z <;> subst z
 ·rw [if_pos (by rfl)];exact h
 ·rw [if_neg (by decide),if_neg (by decide)];exact h
 ·rw [if_neg (by decide),if_pos (by rfl),FR (jW tab hb).2]
  exact h
def JB (t w p:D) (Q:D→Prop):Prop:=∃(a b:List Nat) (z:Str) (x:Nat),t=lN a b∧w=.str z∧p=.int (x:Int)∧kE a b∧x < a.length∧LW z∧z.length≤100000∧Q (.int ((lw a b z.cps.toList x:Nat):Int))
def cJ:Fw:=F3 JB
def gD:bC:=(aF (aX 3 (ag 2)) (aF (lZ (ag 1) (aP 4) (aF (fX (aM (aC (dN false) (ag 3) (cC .non))) (bo (cC .non)) bq) (aX 3 (az cp (af (ag 0) (af (ag 3) (af (ag 4) av))))))) (bo (ag 3))))
theorem m4:∀ds Q,cJ ds Q→ds.length=3:=xY
theorem n5:∀ds (Q:D→Prop),cJ ds Q→gD { nx:=fun _=>Q .non,rt:=Q } (aJ ["table","word","first","place","letter"] ds):=by
 rintro ds Q ⟨t,w,p,rfl,a,b,z,x,rfl,rfl,rfl,tab,hx,hz,hl,h⟩
 simp_arith only [gD,cL]
 refine cf (fun i e=>∃k,e=[some (.d (lN a b)),some (.d (.str z)),some (.d (.int (x:Int))),some (.d (.int ((lw a b (z.cps.toList.take i) x:Nat):Int))),k]) ?_ ?_ ⟨_,rfl⟩
 ·rintro i x' env N hx' ⟨k,rfl⟩ hN
  unfold cT at hx'
  rw [List.getElem?_map] at hx'
  cases hc:z.cps.toList[i]? with
  | none=>rw [hc] at hx';cases hx'
  | some c =>
   rw [hc] at hx'
   cases hx'
   have hcl:=hz c (List.mem_of_getElem? hc)
   simp_arith only [cp,oK,dN,lI]
   refine⟨a,b,_,c,rfl,rfl,rfl,tab,Ce tab hx _,hcl,hN _ ⟨some (.d (.str ⟨#[c]⟩)),?_⟩⟩
   rw [List.take_succ,hc]
   simp only [Option.toList]
   rw [hJ]
 ·rintro env ⟨k,rfl⟩
  simp_arith only [and_true]
  rw [List.take_of_length_le (by simp [cT])]
  exact h
def cH:Fw:=fun ds Q=>∃t w p,ds=[t,p,w]∧JB t w p Q
theorem ia {t w p:D} {Q:D→Prop}:cH [t,p,w] Q=JB t w p Q:=by
 unfold cH
 exact propext ⟨fun⟨_,_,_,e,h⟩=>by cases e;exact h,fun h=>⟨_,_,_,rfl,h⟩⟩
def mi:bC:=(aF (lZ (ag 2) (aP 3) (fX (aM (aC gI (ag 3) (cC (.str "s")))) (aX 1 (aC cz (aC cz (ag 0) (cC (.int 0))) (ag 1))) (fX (aM (aC gI (ag 3) (cC (.str "r")))) (aX 1 (aC cz (aC cz (ag 0) (cC (.int 1))) (ag 1))) (aX 1 (aC cz (aC cz (ag 0) (cC (.int 1))) (aC cz (aC cz (ag 0) (cC (.int 1))) (ag 1))))))) (bo (ag 1)))
theorem vX:∀ds Q,cH ds Q→ds.length=3:=by rintro ds Q ⟨t,w,p,rfl,_⟩;rfl
theorem wU:∀ds (Q:D→Prop),cH ds Q→mi { nx:=fun _=>Q .non,rt:=Q } (aJ ["_law_table_here","_law_place","_law_word_here","_law_letter"] ds):=by
 rintro ds Q ⟨t,w,p,rfl,a,b,z,x,rfl,rfl,rfl,tab,hx,hz,hl,h⟩
 simp_arith only [mi,cL]
 refine cf (fun i e=>∃k,e=[some (.d (lN a b)),some (.d (.int ((lw a b (z.cps.toList.take i) x:Nat):Int))),some (.d (.str z)),k]) ?_ ?_ ⟨_,rfl⟩
 ·rintro i x' env N hx' ⟨k,rfl⟩ hN
  unfold cT at hx'
  rw [List.getElem?_map] at hx'
  cases hc:z.cps.toList[i]? with
  | none=>rw [hc] at hx';cases hx'
  | some c =>
   rw [hc] at hx'
   cases hx'
   have hcl:=hz c (List.mem_of_getElem? hc)
   have hi:=Ce tab hx (z.cps.toList.take i)
   have hb:=nV tab hi
   have fin:N [some (.d (lN a b)),some (.d (.int ((lp a b (lw a b (z.cps.toList.take i) x) c:Nat):Int))),some (.d (.str z)),some (.d (.str ⟨#[c]⟩))]:=by
    refine hN _ ⟨some (.d (.str ⟨#[c]⟩)),?_⟩
    rw [List.take_succ,hc]
    simp only [Option.toList]
    rw [hJ]
   simp_arith only [lN,Cy,DC]
   rcases hcl with w | w | w <;> subst w
   ·rw [if_pos (by rfl),FR (jW tab hi).1];exact fin
   ·rw [if_neg (by decide),if_pos (by rfl),FR (jW tab hi).2];exact fin
   ·rw [if_neg (by decide),if_neg (by decide),FR (jW tab hi).2,FR (jW tab hb).2];exact fin
 ·rintro env ⟨k,rfl⟩
  simp_arith only [and_true]
  rw [List.take_of_length_le (by simp [cT])]
  exact h
theorem nX (cs:List Nat) (h:∀c∈cs,isLet c):∃v,aN v∧Eqv (aA v) (aA cs)∧v.length≤cs.length:=by
 revert h
 refine snoc_ind (P:=fun cs=>(∀c∈cs,isLet c)→∃v,aN v∧Eqv (aA v) (aA cs)∧v.length≤cs.length) (fun _=>⟨[],⟨trivial,fun c hc=>nomatch hc⟩,.refl _,Nat.le_refl _⟩) (fun r c ih h=>?_) cs
 obtain⟨v,hv,ve,vl⟩:=ih fun x hx=>h x (List.mem_append_left _ hx)
 obtain⟨g1,g2,g3⟩:=kd hv (h c (by simp))
 refine⟨fA v c,g1,g2.trans ?_,by simp;omega⟩
 rw [cB,cB]
 exact ve.mul (.refl _)
end KR
namespace KR
open PySem L2 L2.L3 K55
theorem Hi:LW (Str.ofString ""):=fun c hc=>nomatch (show c∈([]:List Nat) from hc)
end KR
namespace L2.L3
open PySem
def G1 (P:D→(D→Prop)→(Str→Prop)→Prop):zz:=fun ds Q R=>∃x,ds=[x]∧P x Q R
theorem Hr {P}:∀ds (Q:D→Prop) (R:Str→Prop),G1 P ds Q R→ds.length=1:=by rintro ds Q R ⟨x,rfl,_⟩;rfl
theorem Im {P} {x:D} {Q R}:G1 P [x] Q R=P x Q R:=by
 unfold G1;apply propext;constructor
 ·rintro⟨x',e,h⟩;cases e;exact h
 ·intro h;exact⟨_,rfl,h⟩
def Aj (x y:D) (Q:D→Prop) (R:Str→Prop):Prop:=∃(cs:List Nat) (m:M4) (most:Nat),x=m.toD∧y=.int (most:Int)∧aN cs∧Eqv m (aA cs)∧most≤100000∧(cs.length≤most→Q (.str ⟨cs.toArray⟩))∧(most < cs.length→R "TooLong")
def cu:zz:=G2 Aj
def fO:sW:=(uB (Cj (c7 2 (vG av))) (uB (Cj (aX 3 (ag 0))) (uB (wJ (AR (aM (aC pT (aC cz (ag 3) (cC (.int 1))) (cC (.int 0)))) (aM (aC pT (aC cz (ag 3) (cC (.int 2))) (cC (.int 0))))) (uB (Iv (aM (aC gI (eO 2) (ag 1))) (nZ "TooLong" (af (cC (.str "the short word has more letters")) av)) (Cj bq)) (uB (Cj (ir 2 (az bW (af (ag 3) av)))) (Cj (aX 3 (az et (af (de 2 (qT iI (cC (.int 1)))) (af (ag 3) av)))))))) (Cj (fG 2 (bo (uY (cC (.str "")) (af (ag 2) av))))))))
theorem lT:∀ds (Q:D→Prop) (R:Str→Prop),cu ds Q R→ds.length=2:=DY
theorem nj:∀ds (Q:D→Prop) (R:Str→Prop),cu ds Q R→fO { nx:=fun _=>Q .non,rt:=Q,xc:=R } (aJ ["one","most","letters","left"] ds):=by
 rintro ds Q R ⟨x,y,rfl,cs,m,most,rfl,rfl,hs,he,hm,hq,hr⟩
 simp_arith! only [fO,wJ]
 refine⟨fun e=>∃(k:Nat) (lf:M4),k≤cs.length∧k≤most∧Eqv lf (aA (cs.drop k))∧e=[some (.d m.toD),some (.d (.int (most:Int))),some (.own ((cs.take k).map m5)),some (.d lf.toD)],
  fun e=>match e with | [_,_,some (.own xs),_]=>cs.length - xs.length | _=>0,⟨0,m,Nat.zero_le _,Nat.zero_le _,he,rfl⟩,?_⟩
 rintro env ⟨k,lf,hk,hkm,hlf,rfl⟩
 have tl:((cs.take k).map m5).length=k:=by simp;omega
 refine⟨lf.toD,rfl,?_⟩
 simp_arith! only [Jl,Ju]
 rcases Nat.lt_or_ge k cs.length with hlt | hge
 ·have hd:cs.drop k=cs[k] :: cs.drop (k + 1):=List.drop_eq_getElem_cons hlt
  have hsh:=hs.drop k
  have hlf':=hlf
  rw [hd] at hsh hlf'
  obtain⟨f1,f2⟩:=lE hsh hlf'
  have hc:isLet cs[k]:=hsh.2 _ List.mem_cons_self
  have e1:(cs.take (k + 1)).map m5=(cs.take k).map m5 ++ [D.str (dG cs[k])]:=by
   rw [List.take_succ,List.getElem?_eq_getElem hlt,List.map_append];rfl
  have tl2:((cs.take (k + 1)).map m5).length=k + 1:=by simp;omega
  have nxt:k < most→∃(k':Nat) (lf':M4),k'≤cs.length∧k'≤most∧Eqv lf' (aA (cs.drop k'))∧(cs.take k).map m5 ++ [D.str (dG cs[k])]=(cs.take k').map m5∧(ny cs[k] lf).toD=lf'.toD:=fun hlm=>⟨k + 1,ny cs[k] lf,by omega,by omega,l5 hc hlf',e1.symm,rfl⟩
  have mu:cs.length - ((cs.take k).map m5 ++ [D.str (dG cs[k])]).length < cs.length - ((cs.take k).map m5).length:=by rw [← e1,tl2,tl];omega
  by_cases hb:lf.b=0
  ·have hc0:lf.c≠0:=f2.resolve_left fun z=>z hb
   simp_arith! only [hb,hc0,not_true,not_false_eq_true,bW,et,gQ,cU,tl]
   by_cases hm':k=most
   ·rw [if_pos (by omega)];exact hr (by omega)
   ·rw [if_neg (by omega)]
    refine⟨by omega,lf,rfl,?_⟩
    rw [f1]
    exact⟨-1,m5 cs[k],rfl,uT,cs[k],lf,rfl,hc,rfl,nxt (by omega),by have:=mu;rw [tl] at this;exact this⟩
  ·simp_arith! only [hb,not_false_eq_true,bW,et,gQ,cU,tl]
   by_cases hm':k=most
   ·rw [if_pos (by omega)];exact hr (by omega)
   ·rw [if_neg (by omega)]
    refine⟨by omega,lf,rfl,?_⟩
    rw [f1]
    exact⟨-1,m5 cs[k],rfl,uT,cs[k],lf,rfl,hc,rfl,nxt (by omega),by have:=mu;rw [tl] at this;exact this⟩
 ·have hk':k=cs.length:=by omega
  have hdr:cs.drop k=[]:=List.drop_eq_nil_of_le hge
  rw [hdr] at hlf
  obtain⟨hb,hc⟩:=o5 hlf
  simp_arith! only [hb,hc,not_true,uY]
  refine⟨_,rfl,cs.map dG,?_,by decide,by rw [oh];simp;omega,?_⟩
  ·rw [hk',List.take_length];simp [m5]
  ·rw [xh];exact hq (by omega)
def Ac (x:D) (Q:D→Prop) (R:Str→Prop):Prop:=∃(cs:List Nat) (m:M4),x=m.toD∧aN cs∧Eqv m (aA cs)∧(cs.length≤2000→Q (.str ⟨cs.toArray⟩))∧(2000 < cs.length→R "TooLong")
def eG:zz:=G1 Ac
def j5:sW:=(CW (mf cu (af (ag 0) (af (cC (.int 2000)) av))))
theorem t6:∀ds (Q:D→Prop) (R:Str→Prop),eG ds Q R→ds.length=1:=Hr
theorem vy:∀ds (Q:D→Prop) (R:Str→Prop),eG ds Q R→j5 { nx:=fun _=>Q .non,rt:=Q,xc:=R } (aJ ["one"] ds):=by
 rintro ds Q R ⟨x,rfl,cs,m,rfl,hs,he,hq,hr⟩
 simp_arith! only [j5,cu,Eu]
 exact⟨cs,m,2000,rfl,rfl,hs,he,by omega,hq,hr⟩
end L2.L3
namespace KR
open PySem L2 L2.L3 K55
def Jb (t o:D) (Q:D→Prop) (R:Str→Prop):Prop:=∃(a b v:List Nat) (m:M4),t=lN a b∧o=m.toD∧kE a b∧0 < a.length∧aN v∧Eqv m (aA v)∧(v.length≤2000→Q (.int ((lw a b v 0:Nat):Int)))∧(2000 < v.length→R "TooLong")
def dC:zz:=G2 Jb
def jd:sW:=(BD (Jd cJ 0) (ag 0) (mf eG (af (ag 1) av)))
theorem pZ:∀ds (Q:D→Prop) (R:Str→Prop),dC ds Q R→ds.length=2:=DY
theorem r8:∀ds (Q:D→Prop) (R:Str→Prop),dC ds Q R→jd { nx:=fun _=>Q .non,rt:=Q,xc:=R } (aJ ["table","one"] ds):=by
 rintro ds Q R ⟨t,o,rfl,a,b,v,m,rfl,rfl,tab,ha,hv,he,hq,hr⟩
 simp_arith only [jd,BD,cJ,eG,Im,Jd,List.cons_append,List.nil_append,oK]
 refine⟨v,m,rfl,hv,he,fun hl=>⟨a,b,⟨v.toArray⟩,0,rfl,rfl,rfl,tab,ha,fun c hc=>hv.2 c (by simpa using hc),by show v.toArray.size≤100000;simp;omega,?_⟩,hr⟩
 rw [show (⟨v.toArray⟩:Str).cps.toList=v by simp]
 exact hq hl
def Jn (x:D) (Q:D→Prop):Prop:=x=.exc "TooLong"∧Q (.str "TooLong")
def cI:Fw:=F1 Jn
def gG:bC:=(aF (fX (AR (xo (aM (az (rB "TooLong" (.ty "ValueError") true) (af (ag 0) (af (cC (.ty "ValueError")) av))))) (aM (az (rB "TooLong" (.tup [.cls "Full",.cls "NoFan",.cls "NoText",.cls "NotIn",.cls "NoTurning",.cls "Open"]) false) (af (ag 0) (af (bT (af (cC (.cls "Full")) (af (cC (.cls "NoFan")) (af (cC (.cls "NoText")) (af (cC (.cls "NotIn")) (af (cC (.cls "NoTurning")) (af (cC (.cls "Open")) av))))))) av))))) (bo (cC (.str "other"))) bq) (aF (aX 1 (gA (af (az (rB "TooLong" (.cls "NoTable") false) (af (ag 0) (af (cC (.cls "NoTable")) av))) (af (az (rB "TooLong" (.cls "TooLong") true) (af (ag 0) (af (cC (.cls "TooLong")) av))) (af (az (rB "TooLong" (.cls "TooMany") false) (af (ag 0) (af (cC (.cls "TooMany")) av))) av))))) (aF (fX (aM (aC pT (sv (ag 1) (cC (.bl true))) (cC (.int 1)))) (bo (cC (.str "other"))) bq) (bo (aC cz (gA (af (cC (.str "NoTable")) (af (cC (.str "TooLong")) (af (cC (.str "TooMany")) av)))) (kf (ag 1) (cC (.bl true))))))))
theorem m8:∀ds Q,cI ds Q→ds.length=1:=jc
theorem pF:∀ds (Q:D→Prop),cI ds Q→gG { nx:=fun _=>Q .non,rt:=Q } (aJ ["_law_e","_law_kinds"] ds):=by
 rintro ds Q ⟨x,rfl,rfl,h⟩
 simp_arith only [gG,sv,kf]
 have d0:cy [D.bl false,D.bl true,D.bl false]≤60:=by simp [cy,dep]
 have d1:dep (D.bl true)≤60:=by simp [dep]
 refine⟨d0,d1,?_⟩
 rw [if_neg (by simp [List.countP_cons,ba])]
 refine⟨d0,d1,1,by simp [ba],fun m hm=>?_,_,rfl,h⟩
 obtain rfl:m=0:=by omega
 simp [ba]
end KR
namespace KR
open PySem L2 L2.L3 K55
theorem dO (z:Str):z.length=z.cps.toList.length:=by simp [Str.length]
theorem bZ (a b:Str):(a ++ b).cps.toList=a.cps.toList ++ b.cps.toList:=by show (a.cps ++ b.cps).toList=_;simp
theorem C1 {a b:Str} (h:a.cps.toList=b.cps.toList):a=b:=by
 cases a;cases b
 simp only [Str.mk.injEq]
 exact Array.ext' h
theorem qN (a:Array Nat):∀(k:Nat) (acc:Array Nat),((List.replicate k a).foldl (· ++ ·) acc).toList=acc.toList ++ (List.replicate k a.toList).flatten
 | 0,acc=>by simp
 | k + 1,acc=>by
  rw [List.replicate_succ,List.foldl_cons,qN a k,List.replicate_succ,List.flatten_cons]
  simp
theorem uc (n:Int) (x:Str):(sj n x).cps.toList=dP n.toNat x.cps.toList:=by
 unfold sj dP
 split
 ·rename_i h
  rw [show n.toNat=0 by omega];rfl
 ·split
  ·rename_i h1 h2
   rw [Bool.or_eq_true] at h2
   rcases h2 with z | z
   ·have:n=1:=beq_iff_eq.mp z
    subst this;simp
   ·have z':x.length=0:=beq_iff_eq.mp z
    have:x.cps.toList=[]:=List.eq_nil_of_length_eq_zero (by simpa [Str.length] using z')
    rw [this];simp
  ·show ((List.replicate n.toNat x.cps).foldl (· ++ ·) #[]).toList=_
   rw [qN];simp
theorem yJ {x:Str} {n:Int} {Q:D→Prop} (h1:x.length=2) (h2:-100000≤n) (h3:n≤100000) (hq:∀z:Str,z.cps.toList=dP n.toNat x.cps.toList→z.length=2 * n.toNat→Q (.str z)):lh (.str x) (.int n) Q:=by
 have e:=uc n x
 have l:(sj n x).length=2 * n.toNat:=by
  rw [dO,e];unfold dP;simp;rw [dO] at h1;simp at h1;rw [h1];omega
 exact⟨⟨by omega,by omega⟩,by rw [h1];omega,by rw [l,PySem.sizeLine_eq];omega,hq _ e l⟩
theorem zF (n:Nat):Builtin.Str.strSliceIndices (some (-1)) none 1 (n + 1)=[n]:=by
 unfold Builtin.Str.strSliceIndices sliceRange
 simp only [show ((1:Int) > 0) by decide,if_true,show ((-1:Int) < 0) by omega]
 have hm:max 0 (min ((-1:Int) + ((n + 1:Nat):Int)) ((n + 1:Nat):Int))=(n:Int):=by omega
 rw [hm]
 have hc:(if (n:Int) < ((n + 1:Nat):Int) then ((((n + 1:Nat):Int) - (n:Int) + 1 - 1) / 1) else 0).toNat=1:=by
  rw [if_pos (by omega),Int.ediv_one];omega
 rw [hc]
 simp
theorem AG (n:Nat):Builtin.Str.strSliceIndices none (some (-1)) 1 (n + 1)=List.range n:=by
 unfold Builtin.Str.strSliceIndices sliceRange
 simp only [show ((1:Int) > 0) by decide,if_true,show ((-1:Int) < 0) by omega]
 have hm:max 0 (min ((-1:Int) + ((n + 1:Nat):Int)) ((n + 1:Nat):Int))=(n:Int):=by omega
 rw [hm]
 have hc:(if (0:Int) < (n:Int) then (((n:Int) - 0 + 1 - 1) / 1) else 0).toNat=n:=by
  split
  ·rw [Int.ediv_one];omega
  ·omega
 rw [hc]
 refine Eq.trans (List.map_congr_left (g:=id) fun k hk=>?_) (List.map_id _)
 show (0 + 1 * (k:Int)).toNat=k
 omega
theorem rq {f g:Nat→Option Nat}:∀l:List Nat,(∀k∈l,f k=g k)→l.filterMap f=l.filterMap g
 | [],_=>rfl
 | k :: r,h=>by
  rw [List.filterMap_cons,List.filterMap_cons,h k List.mem_cons_self,rq r fun x hx=>h x (List.mem_cons_of_mem _ hx)]
theorem uh (u:List Nat) (c:Nat):(List.range u.length).filterMap (fun i=>(u ++ [c]).toArray[i]?)=u:=by
 apply List.ext_getElem?
 intro i
 have e:(List.range u.length).filterMap (fun i=>(u ++ [c]).toArray[i]?)=(List.range u.length).map fun i=>u.getD i 0:=by
  rw [← List.filterMap_eq_map]
  refine rq _ fun k hk=>?_
  have hk':=List.mem_range.mp hk
  simp [List.getElem?_append_left hk',List.getElem?_eq_getElem hk']
 rw [e,List.getElem?_map]
 rcases Nat.lt_or_ge i u.length with h | h
 ·rw [List.getElem?_range h];simp [h]
 ·rw [List.getElem?_eq_none (by simpa using h),List.getElem?_eq_none h];rfl
theorem wm (u:List Nat) (c:Nat):Txt.slice ⟨(u ++ [c]).toArray⟩ (some (-1)) none=dG c:=by
 have hl:(⟨(u ++ [c]).toArray⟩:Str).length=u.length + 1:=by simp [Str.length]
 unfold Txt.slice
 rw [hl,zF]
 split
 ·rename_i h
  have:u=[]:=by
   simp only [beq_self_eq_true,Bool.true_and,List.length_singleton,beq_iff_eq] at h
   exact List.eq_nil_of_length_eq_zero (by omega)
  subst this;rfl
 ·simp [dG]
theorem wt (u:List Nat) (c:Nat):Txt.slice ⟨(u ++ [c]).toArray⟩ none (some (-1))=⟨u.toArray⟩:=by
 have hl:(⟨(u ++ [c]).toArray⟩:Str).length=u.length + 1:=by simp [Str.length]
 unfold Txt.slice
 rw [hl,AG]
 split
 ·rename_i h
  simp at h
 ·simp only
  rw [uh]
theorem wH {r:List Nat} {x c:Nat} (h:jL x c=none):fA (r ++ [x]) c=r ++ [x] ++ [c]:=by
 unfold fA;rw [List.getLast?_concat];simp only [h]
theorem hU {r w:List Nat} {x c:Nat} (h:jL x c=some w):fA (r ++ [x]) c=r ++ w:=by
 unfold fA;rw [List.getLast?_concat];simp only [h,List.dropLast_concat]
def JD (x:D) (Q:D→Prop):Prop:=∃z:Str,x=.str z∧LW z∧z.length≤100000∧∀u:List Nat,aN u→Eqv (aA u) (aA z.cps.toList)→u.length≤z.length→Q (.str ⟨u.toArray⟩)
def cF:Fw:=F1 JD
def f7:bC:=(aF (aX 3 (Cg (ag 1) (kS (qT iI (cC (.int 1)))) gZ)) (fX (AR (aM (aC gI (ag 3) (cC (.str "")))) (aM (aC pT (aC gI (ag 3) (cC (.str "s"))) (aC gI (ag 2) (cC (.str "s")))))) (aX 1 (aC bM (ag 1) (ag 2))) (fX (aM (aC gI (ag 2) (cC (.str "s")))) (aX 1 (Cg (ag 1) gZ (kS (qT iI (cC (.int 1)))))) (aX 1 (aC bM (Cg (ag 1) gZ (kS (qT iI (cC (.int 1))))) (aC HW (qA [.inr "rr",.inr "qq",.inr "rq",.inr "qr"] (af (cC (.str "q")) (af (cC (.str "r")) (af (cC (.str "")) (af (cC (.str "")) av))))) (aC bM (ag 3) (ag 2))))))))
def gF:bC:=(aF (aX 1 (cC (.str ""))) (aF (lZ (ag 0) (aP 2) f7) (bo (ag 1))))
theorem m9:∀ds Q,cF ds Q→ds.length=1:=jc
theorem pq:∀ds (Q:D→Prop),cF ds Q→gF { nx:=fun _=>Q .non,rt:=Q } (aJ ["_law_word_here","_law_row","_law_letter","_law_last"] ds):=by
  rintro ds Q ⟨x,rfl,z,rfl,hz,hl,h⟩
  have hzc:=dO z
  simp_arith only [gF,cL]
  refine cf (fun i e=>∃(u:List Nat) (k2 k3:Option Lo),aN u∧Eqv (aA u) (aA (z.cps.toList.take i))∧u.length≤i∧e=[some (.d (.str z)),some (.d (.str ⟨u.toArray⟩)),k2,k3]) ?_ ?_ ⟨[],_,_,⟨trivial,fun c hc=>nomatch hc⟩,.refl _,Nat.le_refl _,rfl⟩
  · rintro i x env N hx ⟨u,k2,k3,hu,ue,ul,rfl⟩ hN
    unfold cT at hx
    rw [List.getElem?_map] at hx
    cases hc:z.cps.toList[i]? with
    | none=>rw [hc] at hx;cases hx
    | some c =>
      rw [hc] at hx
      cases hx
      have hi:=(List.getElem?_eq_some_iff.mp hc).1
      have hcl:=hz c (List.mem_of_getElem? hc)
      obtain⟨g1,g2,g3⟩:=kd hu hcl
      have fin:∀k3,N [some (.d (.str z)),some (.d (.str ⟨(fA u c).toArray⟩)),some (.d (.str ⟨#[c]⟩)),k3]:=fun k3=>by
        refine hN _ ⟨fA u c,_,k3,g1,?_,by omega,rfl⟩
        refine g2.trans ?_
        rw [List.take_succ,hc]
        simp only [Option.toList]
        rw [cB,cB]
        exact ue.mul (.refl _)
      have ul2:(⟨u.toArray⟩:Str).length=u.length:=by simp [Str.length]
      simp_arith only [f7,Cg,Jw]
      refine⟨by omega,?_⟩
      rcases List.eq_nil_or_concat u with e | ⟨r,x,e⟩
      · subst e
        rw [show Txt.slice ⟨([]:List Nat).toArray⟩ (some (-1)) none=Str.ofString "" from rfl,if_pos (by rfl)]
        exact⟨by rw [ul2,show (⟨#[c]⟩:Str).length=1 from rfl];simp,fin _⟩
      · rw [List.concat_eq_append] at e
        subst e
        rw [wm,wt]
        have hxl:isLet x:=hu.2 x (by simp)
        have sz:=PySem.sizeLine_eq
        have len2:(⟨(r ++ [x]).toArray⟩:Str).length=r.length + 1:=by simp [Str.length]
        have lenr:(⟨r.toArray⟩:Str).length=r.length:=by simp [Str.length]
        have ru:r.length + 1≤i:=by simpa using ul
        have neb:∀(a b:Bool) (P:D→Prop),pT (.bl a) (.bl b) P=P (.bl (!(a == b))):=fun a b P=>by
          unfold pT jS;simp only [dep,ba,Nat.zero_le,and_self,true_and]
        have add:∀(c':Nat) (v w:List Nat),(⟨v.toArray⟩ ++ ⟨w.toArray⟩:Str)=⟨(v ++ w).toArray⟩:=fun _ v w=>C1 (by rw [bZ])
        have fin':∀(w:Str) (k3:Option Lo),w=⟨(fA (r ++ [x]) c).toArray⟩→N [some (.d (.str z)),some (.d (.str w)),some (.d (.str ⟨#[c]⟩)),k3]:=fun w k3 e=>e▸fin k3
        rcases hxl with rfl | rfl | rfl <;> rcases hcl with rfl | rfl | rfl
        all_goals rw [if_neg (by decide),neb]
        all_goals refine⟨_,rfl,?_⟩
        all_goals first
          | (rw [if_pos (by decide)]
             refine⟨by rw [len2,show ∀c:Nat,(⟨#[c]⟩:Str).length=1 from fun _=>rfl];omega,fin' _ _ ?_⟩
             rw [wH (by decide)]
             exact add 0 _ [_])
          | (rw [if_neg (by decide),if_pos (by rfl)]
             refine⟨by omega,fin' _ _ ?_⟩
             rw [hU (w:=[]) (by decide),List.append_nil])
          | (rw [if_neg (by decide),if_neg (by decide)]
             refine⟨by omega,by decide,_,_,rfl,rfl,?_⟩
             show bM _ (D.str _) _
             rw [g8]
             refine⟨by rw [lenr];refine Nat.le_trans (Nat.add_le_add_left (show _≤1 by decide) _) (by omega),fin' _ _ ?_⟩
             first
               | (rw [hU (w:=[113]) (by decide)];exact add 0 r [113])
               | (rw [hU (w:=[114]) (by decide)];exact add 0 r [114])
               | (rw [hU (w:=[]) (by decide)];exact add 0 r []))
  · rintro env ⟨u,k2,k3,hu,ue,ul,rfl⟩
    simp_arith only [and_true]
    rw [List.take_of_length_le (by simp [cT])] at ue
    refine h u hu ue ?_
    simp [cT] at ul
    rw [dO];simpa using ul
end KR
namespace KR
open PySem L2 L2.L3 K55
def tM (k:Int):M4:=⟨1,k,0,1⟩
theorem se (j k:Int):(tM j).mul (tM k)=tM (j + k):=by apply nQ <;> simp [M4.mul,tM] <;> omega
theorem cP (n:Nat) (w:List Nat):dP (n + 1) w=w ++ dP n w:=by unfold dP;rw [List.replicate_succ,List.flatten_cons]
theorem fM (w:List Nat):dP 0 w=[]:=rfl
theorem fI (n:Nat) (w:List Nat):(dP n w).length=n * w.length:=by unfold dP;simp
theorem cw (u v:List Nat):aA (u ++ v)=(aA u).mul (aA v):=by
 induction u with
 | nil=>show aA v=M4.one.mul (aA v);rw [jr]
 | cons a s ih=>show (aQ a).mul (aA (s ++ v))=((aQ a).mul (aA s)).mul (aA v);rw [ih,bz]
theorem JI:Eqv (aA [115,114]) (tM (-1)):=.inr (by decide)
theorem IS:Eqv (aA [113,115]) (tM 1):=.inr (by decide)
theorem nI:∀n:Nat,Eqv (aA (dP n [115,114])) (tM (-(n:Int)))
 | 0=>.inl (by rw [fM];rfl)
 | n + 1=>by
  rw [cP,cw]
  have:=JI.mul (nI n)
  rw [se] at this
  rw [show (-((n + 1:Nat):Int)) = -1 + -(n:Int) by omega]
  exact this
theorem sQ:∀n:Nat,Eqv (aA (dP n [113,115])) (tM (n:Int))
 | 0=>.inl (by rw [fM];rfl)
 | n + 1=>by
  rw [cP,cw]
  have:=IS.mul (sQ n)
  rw [se] at this
  rw [show (((n + 1:Nat):Int))=1 + (n:Int) by omega]
  exact this
def tw (k:Int):List Nat:=if 0 < k then dP k.toNat [113,115] else dP (-k).toNat [115,114]
theorem hG (k:Int):Eqv (aA (tw k)) (tM k):=by
 unfold tw;split
 ·have:=sQ k.toNat
  rwa [show ((k.toNat:Nat):Int)=k by omega] at this
 ·have:=nI (-k).toNat
  rwa [show (-(((-k).toNat:Nat):Int))=k by omega] at this
theorem Be (k:Int):(tw k).length=2 * k.natAbs:=by
 unfold tw;split <;> rw [fI] <;> simp only [List.length_cons,List.length_nil] <;> omega
theorem pP {w:List Nat} (h:∀c∈w,isLet c) (n:Nat):∀c∈dP n w,isLet c:=fun c hc=>by
 unfold dP at hc
 obtain⟨l,hl,hc⟩:=List.mem_flatten.mp hc
 rw [List.eq_of_mem_replicate hl] at hc
 exact h c hc
theorem ou (k:Int):∀c∈tw k,isLet c:=by
 unfold tw;split
 ·exact pP (fun c hc=>by unfold isLet;simp at hc;omega) _
 ·exact pP (fun c hc=>by unfold isLet;simp at hc;omega) _
theorem bU {c:Nat} {r:List Nat} (hc:isLet c) (h:aN r) (hx:∀x s,r=x :: s→(c=115↔¬ x=115)):aN (c :: r):=by
 refine⟨?_,fun x hx'=>?_⟩
 ·cases r with
  | nil=>trivial
  | cons x s=>exact⟨hx x s rfl,h.1⟩
 ·rcases List.mem_cons.mp hx' with rfl | hx'
  ·exact hc
  ·exact h.2 x hx'
theorem mT:isLet 115:=.inl rfl
theorem BG:isLet 114:=.inr (.inl rfl)
theorem ur:isLet 113:=.inr (.inr rfl)
theorem jA:aN []:=⟨trivial,fun c hc=>nomatch hc⟩
theorem iO {w:List Nat} (h:aN w) (hw:∀x s,w=x :: s→x=115):∀n,aN (dP n [115,114] ++ w)∧∀x s,dP n [115,114] ++ w=x :: s→x=115
 | 0=>⟨by rw [fM];exact h,by rw [fM];exact hw⟩
 | n + 1=>by
  obtain⟨ih,ihx⟩:=iO h hw n
  rw [cP]
  show aN (115 :: 114 :: (dP n [115,114] ++ w))∧∀x s,115 :: 114 :: (dP n [115,114] ++ w)=x :: s→x=115
  refine⟨bU mT (bU BG ih fun x s e=>?_) fun x s e=>by cases e;decide,fun x s e=>by cases e;rfl⟩
  have:=ihx x s e
  subst this;decide
theorem o6 {w:List Nat} (h:aN w) (hw:∀x s,w=x :: s→x≠115):∀n,aN (dP n [113,115] ++ w)∧∀x s,dP n [113,115] ++ w=x :: s→x≠115
 | 0=>⟨by rw [fM];exact h,by rw [fM];exact hw⟩
 | n + 1=>by
  obtain⟨ih,ihx⟩:=o6 h hw n
  rw [cP]
  show aN (113 :: 115 :: (dP n [113,115] ++ w))∧∀x s,113 :: 115 :: (dP n [113,115] ++ w)=x :: s→x≠115
  refine⟨bU ur (bU mT ih fun x s e=>?_) fun x s e=>by cases e;decide,fun x s e=>by cases e;decide⟩
  have:=ihx x s e
  exact⟨fun _=>this,fun _=>rfl⟩
def FO (v:List Nat):Prop:=v=[]∨(∃u,v=113 :: u)∨∃u,v=115 :: 114 :: u
theorem qV (k:Int):FO (tw k)∧aN (tw k):=by
 unfold tw;split
 ·obtain⟨n,hn⟩:∃n:Nat,k.toNat=n + 1:=⟨k.toNat - 1,by omega⟩
  have:=(o6 jA (fun x s e=>nomatch e) k.toNat).1
  rw [List.append_nil] at this
  refine⟨?_,this⟩
  rw [hn,cP];exact .inr (.inl ⟨_,rfl⟩)
 ·have:=(iO jA (fun x s e=>nomatch e) (-k).toNat).1
  rw [List.append_nil] at this
  refine⟨?_,this⟩
  cases e:(-k).toNat with
  | zero=>exact .inl rfl
  | succ n=>rw [cP];exact .inr (.inr ⟨_,rfl⟩)
theorem lH {u:List Nat} {c:Nat} (h:aN (c :: u)) (hc:c≠115):∀x s,u=x :: s→x=115:=fun x s e=>by
 subst e
 have:=h.1.1
 exact Classical.byContradiction fun z=>hc (this.mpr z)
theorem nR {v:List Nat} (m:Nat) (hv:aN v) (st:FO v):∃v',aN v'∧(2≤m→FO v')∧Eqv (aA v') (((tM (-(m:Int))).mul (aQ 115)).mul (aA v))∧v.length + 2 * m≤v'.length + 2:=by
 have sr:=nI m
 rcases st with rfl | ⟨u,rfl⟩ | ⟨u,rfl⟩
 ·refine⟨dP m [115,114] ++ [115],(iO (bU mT jA fun x s e=>nomatch e) (fun x s e=>by cases e;rfl) m).1,fun h=>?_,?_,by rw [List.length_append,fI];simp;omega⟩
  ·obtain⟨k,rfl⟩:∃k,m=k + 1:=⟨m - 1,by omega⟩
   rw [cP];exact .inr (.inr ⟨_,rfl⟩)
  ·rw [cw,bz]
   exact sr.mul (.refl _)
 ·refine⟨dP m [115,114] ++ 115 :: 113 :: u,(iO (bU mT hv fun x s e=>by cases e;decide) (fun x s e=>by cases e;rfl) m).1,fun h=>?_,?_,by rw [List.length_append,fI];simp;omega⟩
  ·obtain⟨k,rfl⟩:∃k,m=k + 1:=⟨m - 1,by omega⟩
   rw [cP];exact .inr (.inr ⟨_,rfl⟩)
  ·rw [cw,bz]
   exact sr.mul (.refl _)
 ·have hu:=lH hv.tail (by decide)
  rcases Nat.eq_zero_or_pos m with rfl | hm
  ·refine⟨114 :: u,hv.tail,fun h=>absurd h (by decide),?_,by simp⟩
   show Eqv ((aQ 114).mul (aA u)) (((tM (-((0:Nat):Int))).mul (aQ 115)).mul ((aQ 115).mul ((aQ 114).mul (aA u))))
   generalize (aQ 114).mul (aA u)=x
   right;apply nQ <;> simp [M4.mul,tM,aQ,M4.neg]
  ·obtain⟨k,rfl⟩:∃k,m=k + 1:=⟨m - 1,by omega⟩
   refine⟨dP k [115,114] ++ 115 :: 113 :: u,(iO (bU mT (bU ur hv.tail.tail fun x s e=>?_) fun x s e=>by cases e;decide) (fun x s e=>by cases e;rfl) k).1,fun h=>?_,?_,by rw [List.length_append,fI];simp;omega⟩
   ·have:=hu x s e
    subst this;decide
   ·obtain⟨j,rfl⟩:∃j,k=j + 1:=⟨k - 1,by omega⟩
    rw [cP];exact .inr (.inr ⟨_,rfl⟩)
   ·rw [cw]
    refine ((nI k).mul (.refl _)).trans ?_
    show Eqv ((tM (-(k:Int))).mul ((aQ 115).mul ((aQ 113).mul (aA u)))) (((tM (-((k + 1:Nat):Int))).mul (aQ 115)).mul ((aQ 115).mul ((aQ 114).mul (aA u))))
    rw [show (-((k + 1:Nat):Int)) = -(k:Int) + -1 by omega,← se,bz,bz]
    refine (Eqv.refl _).mul ?_
    generalize aA u=x
    first | (right;apply nQ <;> simp [M4.mul,tM,aQ,M4.neg] <;> omega) | (left;apply nQ <;> simp [M4.mul,tM,aQ,M4.neg] <;> omega)
theorem zK {v:List Nat} (n:Nat) (hv:aN v) (st:FO v):∃v',aN v'∧Eqv (aA v') (((tM ((n + 1:Nat):Int)).mul (aQ 115)).mul (aA v))∧v.length + 2 * (n + 1)≤v'.length + 2:=by
 have go:∀w:List Nat,aN w→(∀x s,w=x :: s→x≠115)→Eqv (aA w) ((aQ 113).mul (aA v))→v.length≤w.length→∃v',aN v'∧Eqv (aA v') (((tM ((n + 1:Nat):Int)).mul (aQ 115)).mul (aA v))∧v.length + 2 * (n + 1)≤v'.length + 2:=fun w hw hx he hl=>by
  refine⟨dP n [113,115] ++ w,(o6 hw hx n).1,?_,by rw [List.length_append,fI];simp;omega⟩
  rw [cw]
  refine ((sQ n).mul he).trans ?_
  rw [show (((n + 1:Nat):Int))=(n:Int) + 1 by omega,← se,bz,bz]
  refine (Eqv.refl _).mul ?_
  generalize aA v=x
  rw [← bz]
  refine Eqv.mul ?_ (.refl _)
  first | exact .inl (by decide) | exact .inr (by decide)
 rcases st with rfl | ⟨u,rfl⟩ | ⟨u,rfl⟩
 ·exact go [113] (bU ur jA fun x s e=>nomatch e) (fun x s e=>by cases e;decide) (.refl _) (by simp)
 ·have hu:=lH hv (by decide)
  refine go (114 :: u) (bU BG hv.tail fun x s e=>?_) (fun x s e=>by cases e;decide) ?_ (by simp)
  ·have:=hu x s e
   subst this;decide
  ·show Eqv ((aQ 114).mul (aA u)) ((aQ 113).mul ((aQ 113).mul (aA u)))
   rw [← bz]
   refine Eqv.mul ?_ (.refl _)
   first | exact .inl (by decide) | exact .inr (by decide)
 ·exact go (113 :: 115 :: 114 :: u) (bU ur hv fun x s e=>by cases e;decide) (fun x s e=>by cases e;decide) (.refl _) (by simp)
theorem Ax {v:List Nat} (k:Int) (hv:aN v) (st:FO v):∃v',aN v'∧Eqv (aA v') (((tM k).mul (aQ 115)).mul (aA v))∧v.length + 2 * k.natAbs≤v'.length + 2:=by
 by_cases h:0 < k
 ·obtain⟨n,rfl⟩:∃n:Nat,k=((n + 1:Nat):Int):=⟨k.toNat - 1,by omega⟩
  obtain⟨v',h1,h2,h3⟩:=zK n hv st
  exact⟨v',h1,h2,by omega⟩
 ·obtain⟨m,rfl⟩:∃m:Nat,k = -(m:Int):=⟨(-k).toNat,by omega⟩
  obtain⟨v',h1,_,h2,h3⟩:=nR m hv st
  exact⟨v',h1,h2,by omega⟩
def v8 (M:M4):M4:=⟨-M.c,-M.d,M.a - M.a.fdiv M.c * M.c,M.b - M.a.fdiv M.c * M.d⟩
theorem sh (M:M4):Eqv M (((tM (M.a.fdiv M.c)).mul (aQ 115)).mul (v8 M)):=by
 right
 generalize hk:M.a.fdiv M.c=k
 unfold v8
 rw [hk]
 apply nQ <;> simp [M4.mul,tM,aQ,M4.neg] <;> grind
theorem xv {M:M4} (h:M.det=1):(v8 M).det=1:=by
 rw [← h];unfold M4.det v8;simp only;grind
theorem EI {M:M4} (h:0 < M.c):0≤(v8 M).c∧(v8 M).c < M.c∧(v8 M).c < -(v8 M).a:=by
 have e:(v8 M).c=M.a % M.c:=by
  show M.a - M.a.fdiv M.c * M.c=M.a % M.c
  rw [Int.fdiv_eq_ediv_of_nonneg _ (by omega),Int.emod_def,Int.mul_comm]
 have h1:=Int.emod_nonneg M.a (show M.c≠0 by omega)
 have h2:=Int.emod_lt_of_pos M.a h
 rw [e]
 refine⟨h1,h2,?_⟩
 show M.a % M.c < -(-M.c)
 omega
theorem yh {M:M4} (h:0 < M.c) (ha:M.c < -M.a):M.a.fdiv M.c≤-2:=by
 rw [Int.fdiv_eq_ediv_of_nonneg _ (by omega)]
 have:=Int.ediv_lt_of_lt_mul h (show M.a < -1 * M.c by omega)
 omega
theorem yn {M:M4} (hd:M.det=1) (hc:M.c=0):Eqv M (tM (M.b * M.d))∧(M.b * M.d).natAbs=M.b.natAbs:=by
 unfold M4.det at hd
 rw [hc,Int.mul_zero,Int.sub_zero] at hd
 have hdd:M.d=1∨M.d = -1:=by
  rcases Int.natAbs_eq M.d with z | z
  ·left
   refine Int.eq_one_of_dvd_one (by omega) ⟨M.a,by rw [Int.mul_comm];exact hd.symm⟩
  ·right
   have:-M.d=1:=Int.eq_one_of_dvd_one (by omega) ⟨-M.a,by rw [Int.neg_mul_neg,Int.mul_comm];exact hd.symm⟩
   omega
 rcases hdd with z | z
 ·rw [z] at hd ⊢
  refine⟨.inl ?_,by simp⟩
  apply nQ
  ·show M.a=1;omega
  ·show M.b=M.b * 1;omega
  ·exact hc
  ·exact z
 ·rw [z] at hd ⊢
  refine⟨.inr ?_,by rw [Int.natAbs_mul];simp⟩
  apply nQ
  ·show M.a = -1;omega
  ·show M.b = -(M.b * -1);omega
  ·show M.c = -0;omega
  ·exact z
theorem BN:∀(n:Nat) (M:M4),M.c.toNat≤n→M.det=1→0≤M.c→(M.c=0∨M.c < -M.a)→∃v,aN v∧FO v∧Eqv M (aA v):=by
 intro n
 induction n with
 | zero =>
  intro M hn hd h0 _
  have hc:M.c=0:=by omega
  exact⟨_,(qV _).2,(qV _).1,(yn hd hc).1.trans (hG _).symm⟩
 | succ n ih =>
  intro M hn hd h0 ha
  by_cases hc:M.c=0
  ·exact⟨_,(qV _).2,(qV _).1,(yn hd hc).1.trans (hG _).symm⟩
  ·have hp:0 < M.c:=by omega
   obtain⟨c1,c2,c3⟩:=EI hp
   obtain⟨v,h1,h2,h3⟩:=ih (v8 M) (by omega) (xv hd) c1 (.inr c3)
   have two:=yh hp (ha.resolve_left hc)
   obtain⟨m,hm⟩:∃m:Nat,M.a.fdiv M.c = -(m:Int):=⟨(-(M.a.fdiv M.c)).toNat,by omega⟩
   obtain⟨v',g1,g2,g3,_⟩:=nR m h1 h2
   refine⟨v',g1,g2 (by omega),?_⟩
   have:=sh M
   rw [hm] at this
   exact this.trans (((Eqv.refl _).mul h3).trans g3.symm)
def J3 (x:D) (Q:D→Prop):Prop:=∃(m:M4) (v:List Nat) (n:Nat),x=m.toD∧m.det=1∧0≤m.c∧m.B n∧n≤9000∧aN v∧Eqv m (aA v)∧(v.length≤2000→Q (.str ⟨v.toArray⟩))∧(2000 < v.length→Q .non)
def cG:Fw:=F1 J3
structure zi (m:M4) (v:List Nat) (n:Nat) (M:M4) (w:Str):Prop where
 lw:LW w
 most:w.length≤12000
 det:M.det=1
 c0:0≤M.c
 cm:M.c≤m.c
 bits:M.B (n + w.length)
 eqv:Eqv m ((aA w.cps.toList).mul M)
 long:(w.length=0∧M=m)∨((M.c=0∨M.c < -M.a)∧∃u,aN u∧FO u∧Eqv M (aA u)∧2 * w.length + 5 * u.length≤5 * v.length + 17)
theorem qS {n s:Nat} {a k d:Int} (ha:cD n a) (hd:cD n d) (hk:k.natAbs≤s):cD (n + s) (a - k * d):=by
 unfold cD at *
 have h1:(a - k * d).natAbs≤a.natAbs + (k * d).natAbs:=by omega
 rw [Int.natAbs_mul] at h1
 have h2:s + 1≤2 ^ s:=Nat.lt_two_pow_self
 have h3:k.natAbs * d.natAbs≤s * d.natAbs:=Nat.mul_le_mul_right _ hk
 rw [Nat.pow_add]
 have h4:s * d.natAbs≤s * (2 ^ n - 1):=Nat.mul_le_mul_left _ (by omega)
 have h5:0 < 2 ^ n:=Nat.two_pow_pos n
 have h6:2 ^ n * (s + 1)≤2 ^ n * 2 ^ s:=Nat.mul_le_mul_left _ h2
 rw [Nat.mul_sub,Nat.mul_one] at h4
 rw [Nat.mul_add,Nat.mul_one,Nat.mul_comm] at h6
 have h7:s≤s * 2 ^ n:=Nat.le_mul_of_pos_right _ h5
 omega
theorem zi.step {m M:M4} {v:List Nat} {n:Nat} {w:Str} (I:zi m v n M w) (hv:aN v) (he:Eqv m (aA v)) (hp:0 < M.c) :
  (12000 < w.length + 2 * (M.a.fdiv M.c).natAbs + 1→2000 < v.length)∧∀w':Str,w'.cps.toList=w.cps.toList ++ tw (M.a.fdiv M.c) ++ [115]→w'.length≤12000→zi m v n (v8 M) w':=by
 obtain⟨c1,c2,c3⟩:=EI hp
 have hcm:=I.cm
 obtain⟨u,u1,u2,u3⟩:=BN _ (v8 M) (Nat.le_refl _) (xv I.det) c1 (.inr c3)
 have key:2 * (w.length + 2 * (M.a.fdiv M.c).natAbs + 1) + 5 * u.length≤5 * v.length + 17:=by
  rcases I.long with ⟨l0,e⟩ | ⟨ha,u0,g1,g2,g3,g4⟩
  ·obtain⟨v',p1,p2,p3⟩:=Ax (M.a.fdiv M.c) u1 u2
   have:v'=v:=ei v' v p1 hv (p2.trans ((((Eqv.refl _).mul u3.symm).trans ((sh M).symm)).trans (by rw [e];exact he)))
   subst this
   omega
  ·have two:=yh hp (ha.resolve_left (by omega))
   obtain⟨k,hk⟩:∃k:Nat,M.a.fdiv M.c = -(k:Int):=⟨(-(M.a.fdiv M.c)).toNat,by omega⟩
   obtain⟨v',p1,p4,p2,p3⟩:=nR k u1 u2
   have:v'=u0:=ei v' u0 p1 g1 (p2.trans ((((Eqv.refl _).mul u3.symm).trans (by rw [← hk];exact (sh M).symm)).trans g3))
   subst this
   rw [hk] at two ⊢
   omega
 refine⟨fun h=>by omega,fun w' hw hl=>?_⟩
 have lw':w'.length=w.length + 2 * (M.a.fdiv M.c).natAbs + 1:=by
  rw [dO,hw,List.length_append,List.length_append,Be,← dO];rfl
 refine⟨fun c hc=>?_,hl,xv I.det,c1,by omega,?_,?_,.inr ⟨.inr c3,u,u1,u2,u3,by omega⟩⟩
 ·rw [hw] at hc
  rcases List.mem_append.mp hc with hc | hc
  ·rcases List.mem_append.mp hc with hc | hc
   ·exact I.lw c hc
   ·exact ou _ c hc
  ·rw [List.mem_singleton.mp hc];exact mT
 ·obtain⟨b1,b2,b3,b4⟩:=I.bits
  rw [lw',show n + (w.length + 2 * (M.a.fdiv M.c).natAbs + 1)=n + w.length + (2 * (M.a.fdiv M.c).natAbs + 1) by omega]
  exact⟨bits_le (bits_neg b3) (by omega),bits_le (bits_neg b4) (by omega),qS b1 b3 (by omega),qS b2 b4 (by omega)⟩
 ·refine I.eqv.trans ?_
  rw [hw,cw,cw,bz,bz]
  refine (Eqv.refl _).mul ((sh M).trans ?_)
  rw [bz]
  refine (hG _).symm.mul ?_
  show Eqv ((aQ 115).mul (v8 M)) ((aA [115]).mul (v8 M))
  exact .inl (by rw [show aA [115]=aQ 115 from by decide])
theorem zi.done {m M:M4} {v:List Nat} {n:Nat} {w:Str} (I:zi m v n M w) (hv:aN v) (he:Eqv m (aA v)) (hc:M.c=0) :
  (12000 < w.length + 2 * M.b.natAbs→2000 < v.length)∧∀w':Str,w'.cps.toList=w.cps.toList ++ tw (M.b * M.d)→LW w'∧Eqv (aA v) (aA w'.cps.toList):=by
 obtain⟨e1,e2⟩:=yn I.det hc
 refine⟨fun h=>?_,fun w' hw=>⟨fun c hcc=>?_,?_⟩⟩
 ·have tl:=Be (M.b * M.d)
  rcases I.long with ⟨l0,e⟩ | ⟨ha,u0,g1,g2,g3,g4⟩
  ·have:tw (M.b * M.d)=v:=ei _ v (qV _).2 hv ((hG _).trans (e1.symm.trans (by rw [e];exact he)))
   rw [this] at tl
   omega
  ·have:tw (M.b * M.d)=u0:=ei _ u0 (qV _).2 g1 ((hG _).trans (e1.symm.trans g3))
   rw [this] at tl
   omega
 ·rw [hw] at hcc
  rcases List.mem_append.mp hcc with hcc | hcc
  ·exact I.lw c hcc
  ·exact ou _ c hcc
 ·rw [hw,cw]
  refine he.symm.trans (I.eqv.trans ((Eqv.refl _).mul (e1.trans (hG _).symm)))
end KR
namespace KR
open PySem L2 L2.L3 K55
theorem pE {A:Prop} {k:Int} {Q:D→Prop} (hA:A) (h1:-100000≤k) (h2:k≤100000) (hq:∀z:Str,z.cps.toList=tw k→z.length=2 * k.natAbs→Q (.str z)) :
  lh (.str (Str.ofString "sr")) (.int (0 - k)) fun x=>A∧lh (.str (Str.ofString "qs")) (.int k) fun y=>A∧cz (.lst [x,y]) (.int (if 0 < k then 1 else 0)) Q:=by
 refine yJ rfl (by omega) (by omega) fun z1 e1 l1=>⟨hA,yJ rfl (by omega) (by omega) fun z2 e2 l2=>⟨hA,?_⟩⟩
 by_cases h:0 < k
 ·rw [if_pos h]
  refine⟨_,rfl,hq z2 ?_ ?_⟩
  ·rw [e2];unfold tw;rw [if_pos h];rfl
  ·rw [l2];omega
 ·rw [if_neg h]
  refine⟨_,rfl,hq z1 ?_ ?_⟩
  ·rw [e1];unfold tw;rw [if_neg h,show (0 - k) = -k by omega];rfl
  ·rw [l1];omega
theorem yW {k:Int} {Q:D→Prop} (h1:-100000≤k) (h2:k≤100000) (hq:∀z:Str,z.cps.toList=tw k→z.length=2 * k.natAbs→Q (.str z)) :
  lh (.str (Str.ofString "sr")) (.int (0 - k)) fun x=>lh (.str (Str.ofString "qs")) (.int k) fun y=>cz (.lst [x,y]) (.int (if 0 < k then 1 else 0)) Q:=by
 have:=pE (A:=True) trivial h1 h2 hq
 simpa only [true_and] using this
def iz:bC:=(aF (fX (aM (aC DH (aC bM (ag 6) (aC fN (cC (.int 2)) (az my (af (ag 2) av)))) (cC (.int 12000)))) (bo (cC .non)) bq) (aF (aX 5 (az cF (af (aC bM (ag 5) (aC cz (gA (af (aC lh (cC (.str "sr")) (aC fF (cC (.int 0)) (aC fN (ag 2) (ag 4)))) (af (aC lh (cC (.str "qs")) (aC fN (ag 2) (ag 4))) av))) (az pG (af (aC DH (aC fN (ag 2) (ag 4)) (cC (.int 0))) av)))) av))) (aF (fX (aM (aC DH (az iN (af (ag 5) av)) (cC (.int 2000)))) (bo (cC .non)) bq) (bo (ag 5)))))
def gn:bC:=(aF (aX 7 (aC yy (ag 1) (ag 3))) (aF (aX 6 (aC bM (aC bM (ag 6) (aC fN (cC (.int 2)) (az my (af (ag 7) av)))) (cC (.int 1)))) (aF (fX (aM (aC DH (ag 6) (cC (.int 12000)))) (bo (cC .non)) bq) (aF (aX 5 (aC bM (aC bM (ag 5) (aC cz (gA (af (aC lh (cC (.str "sr")) (aC fF (cC (.int 0)) (ag 7))) (af (aC lh (cC (.str "qs")) (ag 7)) av))) (az pG (af (aC DH (ag 7) (cC (.int 0))) av)))) (cC (.str "s")))) (lO (bT (af (aC fF (cC (.int 0)) (ag 3)) (af (aC fF (cC (.int 0)) (ag 4)) (af (aC fF (ag 1) (aC fN (ag 7) (ag 3))) (af (aC fF (ag 2) (aC fN (ag 7) (ag 4))) av))))) (iG 4 (aZ (aP 1) (aZ (aP 2) (aZ (aP 3) (aZ (aP 4) iH))))))))))
def gw:bC:=(aF (lO (ag 0) (iG 4 (aZ (aP 1) (aZ (aP 2) (aZ (aP 3) (aZ (aP 4) iH)))))) (aF (aX 5 (cC (.str ""))) (aF (aX 6 (cC (.int 0))) (aF (gV (aM (aC pT (ag 3) (cC (.int 0)))) gn) iz))))
theorem nk:∀ds Q,cG ds Q→ds.length=1:=jc
theorem pH:∀ds (Q:D→Prop),cG ds Q→gw { nx:=fun _=>Q .non,rt:=Q } (aJ ["_law_one","_law_a","_law_b","_law_c","_law_d","_law_word_here","_law_many","_law_step"] ds):=by
 rintro ds Q ⟨x,rfl,m,v,n,rfl,hd,h0,hB,hn,hv,he,hq,hr⟩
 have sz:=PySem.sizeLine_eq
 simp_arith only [gw,M4.toD,gV]
 refine⟨fun e=>∃(M:M4) (w:Str) (k7:Option Lo),zi m v n M w∧e=[some (.d m.toD),some (.d (.int M.a)),some (.d (.int M.b)),some (.d (.int M.c)),some (.d (.int M.d)),some (.d (.str w)),some (.d (.int (w.length:Int))),k7],
  fun e=>match e with | [_,_,_,some (.d (.int c)),_,_,_,_]=>c.toNat | _=>0,⟨m,Str.ofString "",none,⟨(fun c hc=>nomatch (show c∈([]:List Nat) from hc)),by decide,hd,h0,Int.le_refl _,hB,?_,.inl ⟨rfl,rfl⟩⟩,rfl⟩,?_⟩
 ·show Eqv m (M4.one.mul m)
  rw [jr];exact .refl _
 rintro env ⟨M,w,k7,I,rfl⟩
 have hw:=I.most
 simp_arith only [and_true]
 by_cases hc:M.c=0
 ·rw [if_neg (by simpa using hc)]
  obtain⟨d1,d2⟩:=I.done hv he hc
  obtain⟨e1,e2⟩:=yn I.det hc
  simp_arith only [iz]
  refine⟨by (first | exact tF _ (by decide) | exact qe _ _ (by decide) | exact kh _ (by first | decide | omega) | exact cj (by decide) (by decide) | exact cV (by decide) (by decide) | omega | decide),?_⟩
  by_cases hl:12000 < w.length + 2 * M.b.natAbs
  ·rw [if_pos (by omega)]
   exact hr (d1 hl)
  ·rw [if_neg (by omega)]
   have mo:IntMulOk M.b M.d:=cj (by omega) (by omega)
   refine⟨mo,pE mo (by omega) (by omega) fun z ez lz=>?_⟩
   rw [g8]
   have ew:(w ++ z).cps.toList=w.cps.toList ++ tw (M.b * M.d):=by rw [bZ,ez]
   have el:(w ++ z).length=w.length + z.length:=by rw [dO,bZ,List.length_append,← dO,← dO]
   obtain⟨g1,g2⟩:=d2 _ ew
   simp only [cF,gQ]
   refine⟨by omega,_,rfl,g1,by omega,fun u hu ue ul=>?_⟩
   have:u=v:=ei u v hu hv (ue.trans g2.symm)
   subst this
   have lu:(⟨u.toArray⟩:Str).length=u.length:=by simp [Str.length]
   show iN [D.str ⟨u.toArray⟩] _
   rw [rX]
   refine⟨by omega,?_⟩
   rw [lu]
   simp_arith only [and_true]
   by_cases h2:2000 < u.length
   ·rw [if_pos (by omega)];exact hr h2
   ·rw [if_neg (by omega)];exact hq (by omega)
 ·rw [if_pos (by simpa using hc)]
  have hp:0 < M.c:=by have:=I.c0;omega
  obtain⟨s1,s2⟩:=I.step hv he hp
  simp_arith only [gn]
  have hcB:cD n M.c:=by
   have h1:=hB.2.2.1
   have h2:=I.cm
   unfold cD at *
   omega
  refine⟨we hcB hc hn,by (first | exact tF _ (by decide) | exact qe _ _ (by decide) | exact kh _ (by first | decide | omega) | exact cj (by decide) (by decide) | exact cV (by decide) (by decide) | omega | decide),?_⟩
  by_cases hl:12000 < w.length + 2 * (M.a.fdiv M.c).natAbs + 1
  ·rw [if_pos (by omega)];exact hr (s1 hl)
  ·rw [if_neg (by omega)]
   refine yW (by omega) (by omega) fun z ez lz=>?_
   simp only [g8]
   have el:(w ++ z).length=w.length + z.length:=by rw [dO,bZ,List.length_append,← dO,← dO]
   have el2:(w ++ z ++ Str.ofString "s").length=w.length + z.length + 1:=by rw [dO,bZ,List.length_append,← dO,el];rfl
   have ew:(w ++ z ++ Str.ofString "s").cps.toList=w.cps.toList ++ tw (M.a.fdiv M.c) ++ [115]:=by rw [bZ,bZ,ez];rfl
   refine⟨by omega,by rw [el,show (Str.ofString "s").length=1 from rfl];omega,cj (by omega) (by omega),cj (by omega) (by omega),⟨v8 M,_,_,s2 _ ew (by omega),?_,?_,rfl,rfl,rfl,by omega,rfl⟩,?_⟩
   ·show 0 - M.c = -M.c;omega
   ·show 0 - M.d = -M.d;omega
   ·obtain⟨c1,c2,_⟩:=EI hp
    have:M.a - M.a.fdiv M.c * M.c=(v8 M).c:=rfl
    rw [this]
    omega
end KR
namespace KR
open PySem L2 L2.L3 K55
theorem zM {x:Str} {n:Int} {Q:D→Prop} (h1:x.length≤2) (h2:0≤n) (h3:n≤100000) (hq:∀z:Str,z.cps.toList=dP n.toNat x.cps.toList→z.length≤2 * n.toNat→Q (.str z)):lh (.str x) (.int n) Q:=by
 have e:=uc n x
 have l:(sj n x).length=n.toNat * x.length:=by
  rw [dO,e,fI,← dO]
 have l2:n.toNat * x.length≤n.toNat * 2:=Nat.mul_le_mul_left _ h1
 exact⟨⟨by omega,by omega⟩,by rw [Nat.mul_comm];omega,by rw [l,PySem.sizeLine_eq];omega,hq _ e (by rw [l];omega)⟩
def Ii (x y:D) (Q:D→Prop):Prop:=∃m:Nat,x=.obj ef∧y=.int (m:Int)∧m≤3000∧∀z:Str,LW z→z.length≤m→Q (.str z)
def cM:Fw:=F2 Ii
def kb:bC:=(aF (aX 2 (cC (.str ""))) (aF (jP jK (af (aC bM (cC (.int 1)) (az aw (af (ag 0) (af (cC (.int 8)) av)))) av) (aP 3) (aF (aX 4 (aC bM (cC (.int 1)) (az aw (af (ag 0) (af (aC cz (gA (af (cC (.int 3)) (af (cC (.int 3)) (af (cC (.int 12)) (af (cC (.int 400)) av))))) (az aw (af (ag 0) (af (cC (.int 4)) av)))) av))))) (aF (aX 5 (aC bM (ag 2) (aC lh (aC cz (gA (af (cC (.str "sr")) (af (cC (.str "qs")) (af (cC (.str "qs")) (af (cC (.str "s")) av))))) (az aw (af (ag 0) (af (cC (.int 4)) av)))) (ag 4)))) (fX (pA (aM (aC JO (az iN (af (ag 5) av)) (ag 1))) (aM (aC wD (az vq (af (fu (kN [] (az aS (af (ag 5) av)) fg (az my (af (ag 0) av)))) av)) (aC xw (cC (.int 10)) (cC (.int 12)))))) (aX 2 (ag 5)) bq)))) (bo (ag 2))))
theorem sZ:∀ds Q,cM ds Q→ds.length=2:=je
theorem vd:∀ds (Q:D→Prop),cM ds Q→kb { nx:=fun _=>Q .non,rt:=Q } (aJ ["_law_rest","_law_most","_law_word_here","_law_turn","_law_many","_law_more"] ds):=by
 rintro ds Q ⟨x,y,rfl,m,rfl,rfl,hm,h⟩
 have sz:=PySem.sizeLine_eq
 simp_arith only [kb,aw,cU]
 refine⟨8,rfl,rfl,by decide,by decide,fun d0 a0 b0=>?_⟩
 simp_arith only [and_true]
 refine⟨by omega,by omega,?_⟩
 refine cf (fun i e=>∃z k3 k4 k5,LW z∧z.length≤m∧e=[some (.d (.obj ef)),some (.d (.int (m:Int))),some (.d (.str z)),k3,k4,k5]) ?_ ?_ ⟨Str.ofString "",_,_,_,Hi,by rw [show (Str.ofString "").length=0 from rfl];omega,rfl⟩
 ·rintro i x env N hx ⟨z,k3,k4,k5,hz,hzl,rfl⟩ hN
  simp_arith only [aw,cU,aS,gQ]
  refine⟨4,rfl,rfl,by decide,by decide,fun d1 a1 b1=>?_⟩
  refine wX a1 (by simpa using b1) fun v hv=>?_
  obtain⟨B,rfl,hB1,hB2⟩:∃B:Int,v=.int B∧3≤B∧B≤400:=by
   simp only [List.mem_cons,List.not_mem_nil,or_false] at hv
   rcases hv with rfl | rfl | rfl | rfl <;> exact⟨_,rfl,by decide,by decide⟩
  refine⟨B,rfl,rfl,by omega,by omega,fun d2 a2 b2=>?_⟩
  simp_arith only [and_true]
  refine⟨4,rfl,rfl,by decide,by decide,fun d3 a3 b3=>?_⟩
  refine wX a3 (by simpa using b3) fun v hv=>?_
  obtain⟨y,rfl,hy1,hy2⟩:∃y:Str,v=.str y∧y.length≤2∧LW y:=by
   simp only [List.mem_cons,List.not_mem_nil,or_false] at hv
   rcases hv with rfl | rfl | rfl | rfl
   ·exact⟨_,rfl,by decide,fun c hc=>by have:c∈[115,114]:=hc;unfold isLet;simp at this;omega⟩
   ·exact⟨_,rfl,by decide,fun c hc=>by have:c∈[113,115]:=hc;unfold isLet;simp at this;omega⟩
   ·exact⟨_,rfl,by decide,fun c hc=>by have:c∈[113,115]:=hc;unfold isLet;simp at this;omega⟩
   ·exact⟨_,rfl,by decide,fun c hc=>by have:c∈[115]:=hc;unfold isLet;simp at this;omega⟩
  refine zM hy1 (by omega) (by omega) fun z' ez lz=>?_
  simp_arith only [and_true]
  have el:(z ++ z').length=z.length + z'.length:=by rw [dO,bZ,List.length_append,← dO,← dO]
  have lw':LW (z ++ z'):=fun c hc=>by
   rw [bZ] at hc
   rcases List.mem_append.mp hc with hc | hc
   ·exact hz c hc
   ·rw [ez] at hc;exact pP hy2 _ c hc
  refine⟨by omega,by omega,?_⟩
  by_cases c1:((z ++ z').length:Int)≤(m:Int)
  ·rw [if_pos c1]
   refine⟨_,rfl,lw',by omega,_,rfl,?_⟩
   generalize dD (z ++ z').cps.toList=k
   refine gS (fun x=>match x with | .int i=>.int (i.natAbs:Int) | x=>x) _ _ (fun x hx N2 hN2=>?_) (by simp [M4.toD,sz]) ?_
   ·simp only [List.mem_cons,List.not_mem_nil,or_false] at hx
    rcases hx with rfl | rfl | rfl | rfl <;> simp_arith only [dX] <;> exact hN2
   ·refine⟨[(k.a.natAbs:Int),k.b.natAbs,k.c.natAbs,k.d.natAbs],rfl,by simp,fun M _ _=>?_⟩
    simp_arith only [and_true]
    refine⟨by (first | exact tF _ (by decide) | exact qe _ _ (by decide) | exact kh _ (by first | decide | omega) | exact cj (by decide) (by decide) | exact cV (by decide) (by decide) | omega | decide),?_⟩
    split
    ·exact hN _ ⟨z ++ z',_,_,_,lw',by omega,rfl⟩
    ·exact hN _ ⟨z,_,_,_,hz,hzl,rfl⟩
  ·rw [if_neg c1]
   exact hN _ ⟨z,_,_,_,hz,hzl,rfl⟩
 ·rintro env ⟨z,k3,k4,k5,hz,hzl,rfl⟩
  simp_arith only [and_true]
  exact h z hz hzl
theorem Bo:∀cs:List Nat,(∀c∈cs,isLet c)→LW (Str.join (Str.ofString "s") (cs.map dG))∧(Str.join (Str.ofString "s") (cs.map dG)).length≤2 * cs.length
 | [],_=>⟨Hi,by show (0:Nat)≤_;omega⟩
 | [c],h=>⟨fun x hx=>by have:x∈[c]:=hx;rw [List.mem_singleton.mp this];exact h c List.mem_cons_self,by show (1:Nat)≤_;simp⟩
 | c :: y :: r,h=>by
  obtain⟨h1,h2⟩:=Bo (y :: r) fun x hx=>h x (List.mem_cons_of_mem _ hx)
  show LW (dG c ++ Str.ofString "s" ++ Str.join (Str.ofString "s") ((y :: r).map dG))∧(dG c ++ Str.ofString "s" ++ Str.join (Str.ofString "s") ((y :: r).map dG)).length≤_
  constructor
  ·intro x hx
   rw [bZ,bZ] at hx
   rcases List.mem_append.mp hx with hx | hx
   ·have:x∈[c,115]:=hx
    rcases List.mem_cons.mp this with rfl | this
    ·exact h _ List.mem_cons_self
    ·rw [List.mem_singleton.mp this];exact mT
   ·exact h1 x hx
  ·rw [dO,bZ,List.length_append,← dO,← dO]
   have:(dG c ++ Str.ofString "s").length=2:=rfl
   simp only [List.length_cons] at h2 ⊢
   omega
theorem BY {ys:List D} (h:∀y∈ys,∃c:Nat,isLet c∧y=.str (dG c)):∃cs:List Nat,ys=(cs.map dG).map D.str∧cs.length=ys.length∧∀c∈cs,isLet c:=by
 induction ys with
 | nil=>exact⟨[],rfl,rfl,fun c hc=>nomatch hc⟩
 | cons y r ih =>
  obtain⟨cs,e,l,hc⟩:=ih fun x hx=>h x (List.mem_cons_of_mem _ hx)
  obtain⟨c,h1,rfl⟩:=h y List.mem_cons_self
  refine⟨c :: cs,by rw [e];rfl,by simp [l],fun x hx=>?_⟩
  rcases List.mem_cons.mp hx with rfl | hx
  ·exact h1
  ·exact hc x hx
def FY (x:D) (Q:D→Prop):Prop:=x=.obj ef∧∀z:Str,LW z→z.length≤2000→Q (.str z)
def dj:Fw:=F1 FY
def iL:bC:=(aF (aX 1 (aC bM (cC (.int 1)) (az aw (af (ag 0) (af (cC (.int 3)) av))))) (aF (aX 2 (fu (ie jK [0,1] (af (aC bM (cC (.int 940)) (az aw (af (ag 0) (af (cC (.int 41)) av)))) av) fg (aC cz (cC (.str "rq")) (aC oV (aC bM (aC yy (ag 0) (ag 2)) (az aw (af (ag 1) (af (cC (.int 2)) av)))) (cC (.int 2))))))) (bo (aC bM (cC (.str "s")) (uY (cC (.str "s")) (af (ag 2) av))))))
theorem p5:∀ds Q,dj ds Q→ds.length=1:=jc
theorem rD:∀ds (Q:D→Prop),dj ds Q→iL { nx:=fun _=>Q .non,rt:=Q } (aJ ["_law_rest","_law_by","_law_letters"] ds):=by
 rintro ds Q ⟨x,rfl,rfl,h⟩
 have sz:=PySem.sizeLine_eq
 simp_arith only [iL,aw,cU]
 refine⟨3,rfl,rfl,by decide,by decide,fun d0 a0 b0=>?_⟩
 simp_arith only [and_true]
 refine⟨41,rfl,rfl,by decide,by decide,fun d1 a1 b1=>?_⟩
 simp_arith only [and_true]
 refine⟨by omega,by omega,?_⟩
 refine mC (fun _ y=>∃c:Nat,isLet c∧y=.str (dG c)) _ _ (fun x hx N2 hN2=>?_) (by simp [a9,sz];omega) fun ys hys hr=>?_
 ·obtain⟨j,_,rfl⟩:=List.mem_map.mp hx
  simp_arith only [dX,aw,cU]
  refine⟨we (n:=64) (by unfold cD;omega) (by omega) (by decide),2,rfl,rfl,by decide,by decide,fun d2 a2 b2=>?_⟩
  simp_arith only [and_true]
  refine⟨by (first | exact tF _ (by decide) | exact qe _ _ (by decide) | exact kh _ (by first | decide | omega) | exact cj (by decide) (by decide) | exact cV (by decide) (by decide) | omega | decide),?_⟩
  have r2:=gW (a:=(0 + (j:Int)).fdiv (1 + d0) + d2) (b:=2) (by decide)
  generalize ((0 + (j:Int)).fdiv (1 + d0) + d2).fmod 2=q at *
  have hd:q=0∨q=1:=by omega
  rcases hd with rfl | rfl
  ·exact⟨by decide,114,rfl,hN2 _ ⟨114,BG,rfl⟩⟩
  ·exact⟨by decide,113,rfl,hN2 _ ⟨113,ur,rfl⟩⟩
 ·have lys:ys.length=(940 + d1).toNat:=by rw [hys];simp [a9]
  obtain⟨cs,e,lc,hc⟩:=BY (ys:=ys) fun y hy=>by
   obtain⟨i,hi,rfl⟩:=List.getElem_of_mem hy
   exact hr i _ _ (List.getElem?_eq_getElem (by rw [← hys];exact hi)) (List.getElem?_eq_getElem hi)
  obtain⟨j1,j2⟩:=Bo cs hc
  simp_arith only [uY]
  refine⟨_,rfl,cs.map dG,by rw [e],by decide,by rw [oh,List.length_map];omega,?_⟩
  rw [show Txt.join (Str.ofString "s") (cs.map dG)=Str.join (Str.ofString "s") (cs.map dG) from StrLaws.glued_eq_join _ _]
  generalize Str.join (Str.ofString "s") (cs.map dG)=w at *
  show bM (D.str (Str.ofString "s")) (D.str w) Q
  rw [g8]
  have l1:(Str.ofString "s").length=1:=rfl
  refine⟨by omega,h _ (fun x hx=>?_) ?_⟩
  ·rw [bZ] at hx
   rcases List.mem_append.mp hx with hx | hx
   ·have:x∈[115]:=hx
    rw [List.mem_singleton.mp this];exact mT
   ·exact j1 x hx
  ·rw [dO,bZ,List.length_append,← dO,← dO];omega
end KR
namespace KR
open PySem L2 L2.L3 K55
def Ei (t o:D) (Q:D→Prop):Prop:=∃(a b v:List Nat) (m:M4),t=lN a b∧o=m.toD∧kE a b∧0 < a.length∧aN v∧Eqv m (aA v)∧(v.length≤2000→Q (.int ((lw a b v 0:Nat):Int)))∧(2000 < v.length→Q (.str "TooLong"))
def bR:Fw:=F2 Ei
def j6:bC:=(Bp 2 "TooLong" (mf dC (af (ag 0) (af (ag 1) av))) (bo (az cI (af (ag 2) av))))
theorem rZ:∀ds Q,bR ds Q→ds.length=2:=je
theorem vJ:∀ds (Q:D→Prop),bR ds Q→j6 { nx:=fun _=>Q .non,rt:=Q } (aJ ["_law_table_here","_law_one","_law_e"] ds):=by
 rintro ds Q ⟨t,o,rfl,a,b,v,m,rfl,rfl,tab,la,hv,he,hq,hr⟩
 simp_arith only [j6,Bp,dC,cI,gQ,Eu]
 exact⟨a,b,v,m,rfl,rfl,tab,la,hv,he,hq,fun hl=>⟨rfl,rfl,hr hl⟩⟩
theorem vS {a b:List Nat} (t:kE a b) (la:0 < a.length) {w:List Nat} (hw:∀c∈w,isLet c) (hl:w.length≤2000) {Q:D→Prop} (h:Q (.int ((lw a b w 0:Nat):Int))):Ei (lN a b) (dD w).toD Q:=by
 obtain⟨v,v1,v2,v3⟩:=nX w hw
 refine⟨a,b,v,dD w,rfl,rfl,t,la,v1,(ra w).trans v2.symm,fun _=>?_,fun h'=>by omega⟩
 rw [CO t v1.2 hw v2 la]
 exact h
def EV (t o:D) (Q:D→Prop):Prop:=∃(a b v:List Nat) (m:M4) (n:Nat),t=lN a b∧o=m.toD∧kE a b∧0 < a.length∧m.det=1∧0≤m.c∧m.B n∧n≤9000∧aN v∧Eqv m (aA v)∧Q (.bl true)
def dE:Fw:=F2 EV
def iW:bC:=(aF (aX 2 (az cG (af (ag 1) av))) (aF (aX 3 (az bR (af (ag 0) (af (ag 1) av)))) (aF (fX (aM (aC (dN false) (ag 2) (cC .non))) (bo (aC gI (ag 3) (cC (.str "TooLong")))) bq) (bo (oF (az b9 (af (ag 3) av)) (aC gI (ag 3) (az cH (af (ag 0) (af (cC (.int 0)) (af (ag 2) av))))))))))
theorem qm:∀ds Q,dE ds Q→ds.length=2:=je
theorem rJ:∀ds (Q:D→Prop),dE ds Q→iW { nx:=fun _=>Q .non,rt:=Q } (aJ ["_law_table_here","_law_one","_law_word","_law_found"] ds):=by
 rintro ds Q ⟨t,o,rfl,a,b,v,m,n,rfl,rfl,tab,la,hd,h0,hB,hn,hv,he,h⟩
 simp_arith only [iW,cG,bR,b9,gQ,cU,ia]
 refine⟨m,v,n,rfl,hd,h0,hB,hn,hv,he,fun hl=>?_,fun hl=>?_⟩
 ·refine⟨a,b,v,m,rfl,rfl,tab,la,hv,he,fun _=>?_,fun h'=>by omega⟩
  show dN _ _ _ _
  refine⟨rfl,false,rfl,?_⟩
  rw [if_neg (by decide)]
  have vz:(⟨v.toArray⟩:Str).cps.toList=v:=by simp
  refine⟨by simp [Pl,G3],true,rfl,?_⟩
  rw [if_pos rfl]
  refine⟨a,b,⟨v.toArray⟩,0,rfl,rfl,rfl,tab,la,fun c hc=>hv.2 c (by rwa [vz] at hc),by rw [dO,vz];omega,?_⟩
  show gI (D.int _) (D.int _) Q
  rw [vz,t5,decide_eq_true rfl]
  exact h
 ·refine⟨a,b,v,m,rfl,rfl,tab,la,hv,he,fun h'=>by omega,fun _=>?_⟩
  show dN _ _ _ _
  refine⟨rfl,true,rfl,?_⟩
  rw [if_pos rfl,rC]
  exact h
theorem CJ:∀ds Q,zy 63 ds Q→ds.length=1:=by rintro ds Q ⟨ns,rfl,_⟩;rfl
def ma:bC:=(aF (aX 7 (gA (af (aC bM (cC (.int 990)) (az aw (af (ag 2) (af (cC (.int 20)) av)))) (af (aC xw (cC (.int 10)) (cC (.int 6))) (af (az aw (af (ag 2) (af (aC xw (cC (.int 10)) (cC (.int 11))) av))) (af (aC bM (cC (.int 1)) (az aw (af (ag 2) (af (cC (.int 9)) av)))) av)))))) (aF (aX 8 (aC fN (aC cz (ag 7) (az aw (af (ag 2) (af (cC (.int 4)) av)))) (aC fF (cC (.int 1)) (aC fN (cC (.int 2)) (az aw (af (ag 2) (af (cC (.int 2)) av))))))) (aF (aX 9 (az aS (af (az cM (af (ag 2) (af (cC (.int 12)) av))) av))) (lZ (gA (af (bT (af (cC (.int 1)) (af (ag 8) (af (cC (.int 0)) (af (cC (.int 1)) av))))) (af (az bL (af (ag 9) (af (bT (af (cC (.int 1)) (af (ag 8) (af (cC (.int 0)) (af (cC (.int 1)) av))))) av))) (af (az bL (af (bT (af (cC (.int 1)) (af (ag 8) (af (cC (.int 0)) (af (cC (.int 1)) av))))) (af (ag 9) av))) av)))) (aP 10) (fX (pA (aM (aC wD (az vq (af (fu (kN [] (ag 10) fg (az my (af (ag 0) av)))) av)) (aC xw (cC (.int 10)) (cC (.int 12))))) (xo (aM (az dE (af (ag 3) (af (ag 10) av)))))) (bo (cC (.bl false))) bq)))))
def l8:bC:=(aF (fX (aM (aC gI (az aw (af (ag 2) (af (cC (.int 4)) av))) (cC (.int 1)))) (aF (aX 4 (az dj (af (ag 2) av))) (fX (aM (aC pT (az bR (af (ag 3) (af (az aS (af (ag 4) av)) av))) (az cH (af (ag 3) (af (cC (.int 0)) (af (ag 4) av)))))) (bo (cC (.bl false))) bq)) bq) ma)
def qx:bC:=(aF (aX 4 (az cM (af (ag 2) (af (cC (.int 1500)) av)))) (aF (aX 5 (az aS (af (ag 4) av))) (aF (aX 6 (az bR (af (ag 3) (af (ag 5) av)))) (aF (fX (AR (xo (aM (az b9 (af (ag 6) av)))) (aM (aC pT (ag 6) (az cH (af (ag 3) (af (cC (.int 0)) (af (ag 4) av))))))) (bo (cC (.bl false))) bq) l8))))
def AN:bC:=(aF (jP jK (af (az An (af (cC (.int 1)) (af (az B3 (af (cC (.int 4)) (af (az iN (af (ag 0) av)) av))) av))) av) (aP 1) (aF (pf 2 (az fK (af (ag 0) (af (ag 1) av)))) (aF (aX 3 (az dk (af (az fJ (af (ag 2) (af (cC (.int 7)) (af (cC (.int 16)) av)))) av))) qx))) (bo (cC (.bl true))))
theorem Gh:∀ds (Q:D→Prop),zy 63 ds Q→AN { nx:=fun _=>Q .non,rt:=Q } (aJ ["_law_script","_law_k","_law_rest","_law_table_here","_law_word","_law_one","_law_found","_law_far","_law_step","_law_near","_law_other"] ds):=by
 rintro ds Q ⟨ns,rfl,hl,h⟩
 have sz:=PySem.sizeLine_eq
 simp_arith only [AN,List.length_map]
 refine⟨by omega,by omega,?_⟩
 refine cf (fun _ e=>∃k1 k2 k3 k4 k5 k6 k7 k8 k9 k10,e=[some (.d (.lst (ns.map D.int))),k1,k2,k3,k4,k5,k6,k7,k8,k9,k10]) ?_ ?_ ⟨_,_,_,_,_,_,_,_,_,_,rfl⟩
 ·rintro i x env N hx ⟨k1,k2,k3,k4,k5,k6,k7,k8,k9,k10,rfl⟩ hN
  have hi:=(List.getElem?_eq_some_iff.mp hx).1
  have hxe:x=.int (0 + (i:Int)):=by
   unfold a9 at hx
   rw [List.getElem?_map] at hx
   simp [a9] at hi
   rw [List.getElem?_range (by omega)] at hx
   cases hx;rfl
  subst hxe
  have hi2:i < 4:=by simp [a9] at hi;omega
  simp_arith only [pf,fK,fJ,dk,gQ,cU,oK,Hq,Em,Ee]
  refine⟨ns,_,rfl,rfl,by omega,by omega,fun r=>⟨7,16,rfl,rfl,by omega,by omega,by omega,by omega,fun fs ms hf=>?_⟩⟩
  refine⟨fs,ms,rfl,hf,fun a b t sm la=>?_⟩
  have s7:∀(Z:Ends3) (q4 q5 q6:Option Lo),Z.nx=N→ma Z [some (.d (.lst (ns.map D.int))),some (.d (.int (0 + (i:Int)))),some (.d (.obj ef)),some (.d (lN a b)),q4,q5,q6,k7,k8,k9,k10]:=by
   intro Z q4 q5 q6 hZ
   have hN':∀e,(∃k1 k2 k3 k4 k5 k6 k7 k8 k9 k10,e=[some (.d (.lst (ns.map D.int))),k1,k2,k3,k4,k5,k6,k7,k8,k9,k10])→Z.nx e:=by rw [hZ];exact hN
   simp_arith only [ma,aw,cU,cM,aS,bL,gQ]
   refine⟨20,rfl,rfl,by decide,by decide,fun d0 a0 b0=>?_⟩
   simp_arith only [and_true]
   refine⟨by (first | exact tF _ (by decide) | exact qe _ _ (by decide) | exact kh _ (by first | decide | omega) | exact cj (by decide) (by decide) | exact cV (by decide) (by decide) | omega | decide),by (first | exact tF _ (by decide) | exact qe _ _ (by decide) | exact kh _ (by first | decide | omega) | exact cj (by decide) (by decide) | exact cV (by decide) (by decide) | omega | decide),_,rfl,rfl,by decide,by decide,fun d1 a1 b1=>?_⟩
   refine⟨9,rfl,rfl,by decide,by decide,fun d2 a2 b2=>?_⟩
   simp_arith only [and_true]
   refine⟨4,rfl,rfl,by decide,by decide,fun d3 a3 b3=>?_⟩
   refine wX a3 (by simpa using b3) fun v hv=>?_
   obtain⟨B,rfl,hB1,hB2⟩:∃B:Int,v=.int B∧0≤B∧B≤100000000000:=by
    simp only [List.mem_cons,List.not_mem_nil,or_false] at hv
    rcases hv with rfl | rfl | rfl | rfl <;> exact⟨_,rfl,by omega,by omega⟩
   refine⟨2,rfl,rfl,by decide,by decide,fun d4 a4 b4=>?_⟩
   simp_arith only [and_true]
   have hd4:d4=0∨d4=1:=by omega
   refine⟨by (first | exact tF _ (by decide) | exact qe _ _ (by decide) | exact kh _ (by first | decide | omega) | exact cj (by decide) (by decide) | exact cV (by decide) (by decide) | omega | decide),cj (by omega) (by omega),?_⟩
   have hst:(B * (1 - 2 * d4)).natAbs≤100000000000:=by rcases hd4 with rfl | rfl <;> omega
   generalize B * (1 - 2 * d4)=st at *
   refine⟨12,rfl,rfl,by decide,fun z hz hzl=>⟨z,rfl,hz,by omega,?_⟩⟩
   have tB:(tM st).B 40:=⟨by show (1:Int).natAbs < 2 ^ 40;decide,by show st.natAbs < 2 ^ 40;omega,by show (0:Int).natAbs < 2 ^ 40;decide,by show (1:Int).natAbs < 2 ^ 40;decide⟩
   have tT:(tM st).T:=⟨by unfold M4.det tM;simp,.inr ⟨rfl,rfl⟩⟩
   have wB:(dD z.cps.toList).B 25:=(yj _).le (by rw [← dO];omega)
   have wT:=Dt z.cps.toList
   have wE:=ra z.cps.toList
   show rH _ _ _
   refine⟨dD _,tM st,25,40,rfl,rfl,wB,tB,by decide,?_⟩
   show rH _ _ _
   refine⟨tM st,dD _,40,25,rfl,rfl,tB,wB,by decide,?_⟩
   have good:∀(j:Nat) (y:D),[D.tup [.int 1,.int st,.int 0,.int 1],((dD z.cps.toList).mul (tM st)).up.toD,((tM st).mul (dD z.cps.toList)).up.toD][j]?=some y→∃(m:M4) (u:List Nat),y=m.toD∧m.T∧m.B 66∧(∀c∈u,isLet c)∧Eqv m (aA u):=fun j y hj=>by
    match j,hj with
    | 0,hj=>cases hj;exact⟨tM st,tw st,rfl,tT,tB.le (by decide),ou st,(hG st).symm⟩
    | 1,hj =>
     cases hj
     refine⟨_,z.cps.toList ++ tw st,rfl,M4.Ec wT tT,(wB.mul tB).up,fun c hc=>(List.mem_append.mp hc).elim (hz c) (ou st c),(Eqv.up _).trans ?_⟩
     rw [cw];exact wE.mul (hG st).symm
    | 2,hj =>
     cases hj
     refine⟨_,tw st ++ z.cps.toList,rfl,M4.Ec tT wT,(tB.mul wB).up,fun c hc=>(List.mem_append.mp hc).elim (ou st c) (hz c),(Eqv.up _).trans ?_⟩
     rw [cw];exact (hG st).symm.mul wE
    | _ + 3,hj=>simp at hj
   refine cf (fun _ e=>∃q10,e=[some (.d (.lst (ns.map D.int))),some (.d (.int (0 + (i:Int)))),some (.d (.obj ef)),some (.d (lN a b)),q4,q5,q6,some (.d (.lst [.int (990 + d0),.int 1000000,.int d1,.int (1 + d2)])),some (.d (.int st)),some (.d (dD z.cps.toList).toD),q10]) ?_ ?_ ⟨_,rfl⟩
   ·rintro j y env N2 hy ⟨q10,rfl⟩ hN2
    obtain⟨m,u,rfl,hT,hB,hu,he⟩:=good j y hy
    simp_arith only [dE,cU]
    refine⟨_,rfl,?_⟩
    refine gS (fun x=>match x with | .int i=>.int (i.natAbs:Int) | x=>x) _ _ (fun x hx N3 hN3=>?_) (by simp [M4.toD,sz]) ?_
    ·simp only [List.mem_cons,List.not_mem_nil,or_false] at hx
     rcases hx with rfl | rfl | rfl | rfl <;> simp_arith only [dX] <;> exact hN3
    ·refine⟨[(m.a.natAbs:Int),m.b.natAbs,m.c.natAbs,m.d.natAbs],rfl,by simp,fun M _ _=>?_⟩
     simp_arith only [and_true]
     refine⟨by (first | exact tF _ (by decide) | exact qe _ _ (by decide) | exact kh _ (by first | decide | omega) | exact cj (by decide) (by decide) | exact cV (by decide) (by decide) | omega | decide),?_⟩
     split
     ·obtain⟨v,v1,v2,v3⟩:=nX u hu
      refine⟨a,b,v,m,66,rfl,rfl,t.ok,t.pos,hT.1,by rcases hT.2 with w | w <;> omega,hB,by decide,v1,he.trans v2.symm,true,rfl,?_⟩
      rw [if_neg (by decide)]
      exact hN2 _ ⟨_,rfl⟩
     ·exact hN2 _ ⟨_,rfl⟩
   ·rintro env ⟨q10,rfl⟩
    exact hN' _ ⟨_,_,_,_,_,_,_,_,_,_,rfl⟩
  have s6:∀(Z:Ends3) (q4 q5 q6:Option Lo),Z.nx=N→l8 Z [some (.d (.lst (ns.map D.int))),some (.d (.int (0 + (i:Int)))),some (.d (.obj ef)),some (.d (lN a b)),q4,q5,q6,k7,k8,k9,k10]:=by
   intro Z q4 q5 q6 hZ
   simp_arith only [l8,aw,dj,cU,gQ,oK]
   refine⟨4,rfl,rfl,by decide,by decide,fun d0 a0 b0=>?_⟩
   simp_arith only [and_true]
   split
   ·refine⟨rfl,fun z hz hl=>?_⟩
    simp_arith only [bR,aS,gQ,cU,oK,ia]
    refine⟨z,rfl,hz,by omega,vS t.ok t.pos hz (by rw [← dO];exact hl) ?_⟩
    refine⟨a,b,z,0,rfl,rfl,rfl,t.ok,t.pos,hz,by omega,?_⟩
    simp_arith only [and_true]
    exact s7 Z _ _ _ hZ
   ·exact s7 Z _ _ _ hZ
  simp_arith only [qx,cM,aS,bR,b9,gQ,cU,oK,ia]
  refine⟨1500,rfl,rfl,by decide,fun z hz hzl=>⟨z,rfl,hz,by omega,vS t.ok t.pos hz (by rw [← dO];omega) ?_⟩⟩
  refine⟨by simp [Pl,G3],true,rfl,?_⟩
  rw [if_neg (by decide)]
  refine⟨a,b,z,0,rfl,rfl,rfl,t.ok,t.pos,hz,by omega,?_⟩
  show pT (D.int _) (D.int _) _
  rw [rS]
  refine⟨_,rfl,?_⟩
  rw [if_neg (by simp)]
  exact s6 _ _ _ _ rfl
 ·rintro env ⟨k1,k2,k3,k4,k5,k6,k7,k8,k9,k10,rfl⟩
  simp_arith only [and_true]
  exact h
end KR
namespace KR
open PySem L2 L2.L3
open K55
def top (i:Nat):Stmt:=PySem.Challenge.pw_fanglue_k32_places_of_turnings.main.body.getD i (.Pass ⟨0,0,0,0⟩)
structure Fh where
 c_Open:Addr
 c_NoTurning:Addr
 c_NotIn:Addr
 c_NoText:Addr
 c_NoFan:Addr
 c_Full:Addr
 c_TooMany:Addr
 c_TooLong:Addr
 c_NoTable:Addr
 c_FanError:Addr
 t_MOST_LETTERS:Tok
structure Tc (K:PySem.W.Frag) (w:World) (n:Fh):Prop where
 g_MOST_LETTERS:PySem.W.nsIn K mainGlobals "MOST_LETTERS" = some (some (.int 2000 n.t_MOST_LETTERS))
 n_Open:PySem.W.nsIn K mainGlobals "Open" = some (some (.ref n.c_Open))
 n_NoTurning:PySem.W.nsIn K mainGlobals "NoTurning" = some (some (.ref n.c_NoTurning))
 n_NotIn:PySem.W.nsIn K mainGlobals "NotIn" = some (some (.ref n.c_NotIn))
 n_NoText:PySem.W.nsIn K mainGlobals "NoText" = some (some (.ref n.c_NoText))
 n_NoFan:PySem.W.nsIn K mainGlobals "NoFan" = some (some (.ref n.c_NoFan))
 n_Full:PySem.W.nsIn K mainGlobals "Full" = some (some (.ref n.c_Full))
 n_TooMany:PySem.W.nsIn K mainGlobals "TooMany" = some (some (.ref n.c_TooMany))
 n_TooLong:PySem.W.nsIn K mainGlobals "TooLong" = some (some (.ref n.c_TooLong))
 n_NoTable:PySem.W.nsIn K mainGlobals "NoTable" = some (some (.ref n.c_NoTable))
 n_FanError:PySem.W.nsIn K mainGlobals "FanError" = some (some (.ref n.c_FanError))
 e_TooLong:PySem.W.excIn K n.c_TooLong [.type "ValueError",.type "Exception",.type "BaseException",.type "object"] "ValueError.__new__" = true
 o1_TooLong:PySem.W.findIn K (.ref n.c_TooLong) "__getattribute__" = some (some (.builtin "BaseException.__getattribute__"))
 o2_TooLong:PySem.W.findIn K (.ref n.c_TooLong) "__getattr__" = some none
 o3_TooLong:PySem.W.hasDictIn K n.c_TooLong=true
 o4_TooLong:PySem.W.findIn K (.ref n.c_TooLong) "__class__" = some (some (.builtin "object.__class__"))
 o5_TooLong:PySem.W.specialIn K (.builtin "object.__class__") "__get__" = some (some (.builtin "getset_descriptor.__get__"))
 o6_TooLong:PySem.W.takesIn K (.builtin "object.__class__")=some true
 o7_TooLong:PySem.W.mroIn K n.c_TooLong (.type "object")=some true
 o8_TooLong:PySem.W.subIn K (.ref n.c_TooLong) (.type "BaseException")=some true
 u1_TooLong_FanError:PySem.W.typeIn K (.ref n.c_FanError)=some (.type "type")
 u2_TooLong_FanError:PySem.W.hasDictIn K n.c_FanError=true
 u3_TooLong_FanError:PySem.W.subIn K (.ref n.c_FanError) (.type "BaseException")=some true
 u4_TooLong_FanError:PySem.W.subIn K (.ref n.c_TooLong) (.ref n.c_FanError)=some true
 kt0:PySem.W.kitAny K (.ref n.c_TooLong) [.ref n.c_Full,.ref n.c_NoFan,.ref n.c_NoText,.ref n.c_NotIn,.ref n.c_NoTurning,.ref n.c_Open]=some false
 kt1:PySem.W.kitOne K (.ref n.c_TooLong) (.type "ValueError")=some true
 kt2:PySem.W.kitOne K (.ref n.c_TooLong) (.ref n.c_TooMany)=some false
 kt3:PySem.W.kitOne K (.ref n.c_TooLong) (.ref n.c_TooLong)=some true
 kt4:PySem.W.kitOne K (.ref n.c_TooLong) (.ref n.c_NoTable)=some false
theorem Tc.jV {K:PySem.W.Frag} {w:World} {n:Fh} (TC:Tc K w n):BF K n.c_TooLong n.c_FanError:=⟨TC.u1_TooLong_FanError,TC.u2_TooLong_FanError,TC.u3_TooLong_FanError,TC.u4_TooLong_FanError⟩
theorem Tc.gM {K:PySem.W.Frag} {w:World} {n:Fh} (TC:Tc K w n):vx K n.c_TooLong:=⟨TC.o1_TooLong,TC.o2_TooLong,TC.o3_TooLong,TC.o4_TooLong,TC.o5_TooLong,TC.o6_TooLong,TC.o7_TooLong,TC.o8_TooLong⟩
abbrev cN:Stmt:=top 13
abbrev dJ:Stmt:=top 14
abbrev jw:Stmt:=top 15
abbrev eU:Stmt:=top 16
abbrev jE:Stmt:=top 17
abbrev dH:Stmt:=top 19
abbrev eV:Stmt:=top 20
abbrev iq:Stmt:=top 21
abbrev eZ:Stmt:=top 23
abbrev jB:Stmt:=top 24
abbrev gq:Stmt:=top 25
abbrev c6:Stmt:=top 26
abbrev e8:Stmt:=top 27
abbrev jy:Stmt:=top 28
abbrev gj:Stmt:=top 29
abbrev fW:Stmt:=top 30
abbrev gf:Stmt:=top 31
abbrev eN:Stmt:=top 32
abbrev f6:Stmt:=top 33
abbrev fj:Stmt:=top 34
abbrev eR:Stmt:=top 35
abbrev jD:Stmt:=top 36
abbrev eQ:Stmt:=top 37
abbrev eY:Stmt:=top 38
abbrev eS:Stmt:=top 39
abbrev fZ:Stmt:=top 40
abbrev fV:Stmt:=top 41
abbrev fi:Stmt:=top 42
abbrev gX:Stmt:=top 43
abbrev gc:Stmt:=top 44
abbrev yk:Stmt:=top 45
structure Txt (mg:Str→Option Value):Prop where
 ValueError:mg "ValueError" = none
 abs:mg "abs" = none
 bool:mg "bool" = none
 enumerate:mg "enumerate" = none
 int:mg "int" = none
 isinstance:mg "isinstance" = none
 len:mg "len" = none
 list:mg "list" = none
 max:mg "max" = none
 min:mg "min" = none
 range:mg "range" = none
 tuple:mg "tuple" = none
theorem gd:aG ["p","q"] ["p","q"] (ak cN):=⟨rfl,rfl,rfl,by decide +kernel,rfl,by decide +kernel,by decide +kernel⟩
theorem iC:aG ["one","a","b","c","d","upper","lower"] ["one"] (ak dJ):=⟨rfl,rfl,rfl,by decide +kernel,rfl,by decide +kernel,by decide +kernel⟩
theorem oX:aG ["letter","one","a","b","c","d"] ["letter","one"] (ak jw):=⟨rfl,rfl,rfl,by decide +kernel,rfl,by decide +kernel,by decide +kernel⟩
theorem iZ:aG ["one","most","letters","left"] ["one","most"] (ak eU):=⟨rfl,rfl,rfl,by decide +kernel,rfl,by decide +kernel,by decide +kernel⟩
theorem oR:aG ["one"] ["one"] (ak jE):=⟨rfl,rfl,rfl,by decide +kernel,rfl,by decide +kernel,by decide +kernel⟩
theorem iA:aG ["table","place","letter","halves","thirds","behind"] ["table","place","letter"] (ak dH):=⟨rfl,rfl,rfl,by decide +kernel,rfl,by decide +kernel,by decide +kernel⟩
theorem iT:aG ["table","word","first","place","letter"] ["table","word","first"] (ak eV):=⟨rfl,rfl,rfl,by decide +kernel,rfl,by decide +kernel,by decide +kernel⟩
theorem mE:aG ["table","one"] ["table","one"] (ak iq):=⟨rfl,rfl,rfl,by decide +kernel,rfl,by decide +kernel,by decide +kernel⟩
theorem i8:aG ["_law_script","_law_k"] ["_law_script","_law_k"] (ak eZ):=⟨rfl,rfl,rfl,by decide +kernel,rfl,by decide +kernel,by decide +kernel⟩
theorem oA:aG ["_law_script","_law_at","_law_by","_law_prime","_law_cell","_law_big_here","_law_k","_law_one"] ["_law_script","_law_at"] (ak jB):=⟨rfl,rfl,rfl,by decide +kernel,rfl,by decide +kernel,by decide +kernel⟩
theorem kD:aG ["_law_rest","_law_many","_law_digit_here"] ["_law_rest","_law_many"] (ak gq):=⟨rfl,rfl,rfl,by decide +kernel,rfl,by decide +kernel,by decide +kernel⟩
theorem gO:aG ["_law_rest","_law_many","_law_row","_law_k","_law_at"] ["_law_rest","_law_many"] (ak c6):=⟨rfl,rfl,rfl,by decide +kernel,rfl,by decide +kernel,by decide +kernel⟩
theorem kG:aG ["_law_rest","_law_many","_law_marks_here","_law_left","_law_gap","_law_way","_law_other"] ["_law_rest","_law_many"] (ak e8):=⟨rfl,rfl,rfl,by decide +kernel,rfl,by decide +kernel,by decide +kernel⟩
theorem nT:aG ["_law_rest","_law_most","_law_great_here","_law_many"] ["_law_rest","_law_most","_law_great_here"] (ak jy):=⟨rfl,rfl,rfl,by decide +kernel,rfl,by decide +kernel,by decide +kernel⟩
theorem lA:aG ["_law_fractions_here","_law_row","_law_tiles_here","_law_i","_law_near","_law_far"] ["_law_fractions_here"] (ak gj):=⟨rfl,rfl,rfl,by decide +kernel,rfl,by decide +kernel,by decide +kernel⟩
theorem mV:aG ["_law_fractions_here"] ["_law_fractions_here"] (ak fW):=⟨rfl,rfl,rfl,by decide +kernel,rfl,by decide +kernel,by decide +kernel⟩
theorem kY:aG ["_law_fan_here","_law_fractions_here","_law_marks_here","_law_gaps_here","_law_thirds","_law_one","_law_mid","_law_other","_law_halves","_law_i","_law_mark","_law_first"] ["_law_fan_here"] (ak gf):=⟨rfl,rfl,rfl,by decide +kernel,rfl,by decide +kernel,by decide +kernel⟩
theorem mH:aG ["_law_halves","_law_thirds","_law_first","_law_met","_law_at","_law_behind"] ["_law_halves","_law_thirds","_law_first"] (ak eN):=⟨rfl,rfl,rfl,by decide +kernel,rfl,by decide +kernel,by decide +kernel⟩
theorem kA:aG ["_law_fan_here","_law_halves","_law_thirds","_law_first"] ["_law_fan_here"] (ak f6):=⟨rfl,rfl,rfl,by decide +kernel,rfl,by decide +kernel,by decide +kernel⟩
theorem lb:aG ["_law_one","_law_other","_law_a","_law_b","_law_c","_law_d","_law_e","_law_f","_law_g","_law_h","_law_found"] ["_law_one","_law_other"] (ak fj):=⟨rfl,rfl,rfl,by decide +kernel,rfl,by decide +kernel,by decide +kernel⟩
theorem iY:aG ["_law_word","_law_found","_law_letter"] ["_law_word"] (ak eR):=⟨rfl,rfl,rfl,by decide +kernel,rfl,by decide +kernel,by decide +kernel⟩
theorem oP:aG ["_law_table_here","_law_place","_law_word","_law_letter"] ["_law_table_here","_law_place","_law_word"] (ak jD):=⟨rfl,rfl,rfl,by decide +kernel,rfl,by decide +kernel,by decide +kernel⟩
theorem jo:aG ["_law_word","_law_row","_law_letter","_law_last"] ["_law_word"] (ak eQ):=⟨rfl,rfl,rfl,by decide +kernel,rfl,by decide +kernel,by decide +kernel⟩
theorem iS:aG ["_law_one","_law_a","_law_b","_law_c","_law_d","_law_word","_law_many","_law_step"] ["_law_one"] (ak eY):=⟨rfl,rfl,rfl,by decide +kernel,rfl,by decide +kernel,by decide +kernel⟩
theorem jk:aG ["_law_e","_law_kinds"] ["_law_e"] (ak eS):=⟨rfl,rfl,rfl,by decide +kernel,rfl,by decide +kernel,by decide +kernel⟩
theorem kz:aG ["_law_thing"] ["_law_thing"] (ak fZ):=⟨rfl,rfl,rfl,by decide +kernel,rfl,by decide +kernel,by decide +kernel⟩
theorem mF:aG ["_law_rest","_law_most","_law_word","_law_turn","_law_many","_law_more"] ["_law_rest","_law_most"] (ak fV):=⟨rfl,rfl,rfl,by decide +kernel,rfl,by decide +kernel,by decide +kernel⟩
theorem ko:aG ["_law_rest","_law_by","_law_letters"] ["_law_rest"] (ak fi):=⟨rfl,rfl,rfl,by decide +kernel,rfl,by decide +kernel,by decide +kernel⟩
theorem mU:aG ["_law_table_here","_law_one","_law_e"] ["_law_table_here","_law_one"] (ak gX):=⟨rfl,rfl,rfl,by decide +kernel,rfl,by decide +kernel,by decide +kernel⟩
theorem lD:aG ["_law_table_here","_law_one","_law_word","_law_found"] ["_law_table_here","_law_one"] (ak gc):=⟨rfl,rfl,rfl,by decide +kernel,rfl,by decide +kernel,by decide +kernel⟩
theorem AF:aG ["_law_script","_law_k","_law_rest","_law_table_here","_law_word","_law_one","_law_found","_law_far","_law_step","_law_near","_law_other"] ["_law_script"] (ak yk):=⟨rfl,rfl,rfl,by decide +kernel,rfl,by decide +kernel,by decide +kernel⟩
section
variable {P:Program} {w:World} {K:PySem.W.Frag} {mg:Str→Option Value} {base:Heap}
theorem kH (F:Df K mg "differ_in_sign" cN ["p","q"]):Known P w K mg base 1 "differ_in_sign" bp :=
 have nd:=gd.nd;F.known gd j9 fun fa cdv A outer s H E hr=>⟨eL,(aq (aO (Hn (Al (qv 0) au (qv 1)) (w8 (Al (qv 1) au (qv 0)))))),kO⟩
theorem m6 (F:Df K mg "first_letter" dJ ["one"]) (T:Txt mg) (k_differ_in_sign:Known P w K mg base 1 "differ_in_sign" bp):Known P w K mg base 2 "first_letter" bW :=
 have nd:=iC.nd;F.known iC lU fun fa cdv A outer s H E hr=>⟨fQ,(aj (ig (qv 0) (ft rfl (aK (aD 1 nd) (aK (aD 2 nd) (aK (aD 3 nd) (aK (aD 4 nd) c9)))))) (aj (aH 5 nd (bc (kX T.abs (ae (qv 1) ah)) (kX T.abs (ae (qv 2) ah)))) (aj (aH 6 nd (bc (kX T.abs (ae (qv 3) ah)) (kX T.abs (ae (qv 4) ah)))) (aj (bt (QW.t (o3 (gN hr.units (qv 5) (qv 6)) (o3 (lX (aL k_differ_in_sign (hr.mono (by decide)) (ae (qv 1) (ae (qv 3) ah)))) (lM (lX (aL k_differ_in_sign (hr.mono (by decide)) (ae (qv 2) (ae (qv 4) ah)))))))) (aq (aO bE)) aV) (aq (aO (Hs (xQ (qv 5) (qv 6)) bE bE))))))),nz⟩
theorem wy (F:Df K mg "without" jw ["letter","one"]):Known P w K mg base 1 "without" et :=
 have nd:=oX.nd;F.known oX uG fun fa cdv A outer s H E hr=>⟨lR,(aj (ig (qv 1) (ft rfl (aK (aD 2 nd) (aK (aD 3 nd) (aK (aD 4 nd) (aK (aD 5 nd) c9)))))) (aj (bt (gN hr.units (qv 0) bE) (aq (aO (aT (ae (gm (qv 4)) (ae (gm (qv 5)) (ae (qv 2) (ae (qv 3) ah))))))) aV) (aj (bt (gN hr.units (qv 0) bE) (aq (aO (aT (ae (cZ (qv 2) (qv 4)) (ae (cZ (qv 3) (qv 5)) (ae (qv 2) (ae (qv 3) ah))))))) aV) (aq (aO (aT (ae (gm (qv 4)) (ae (gm (qv 5)) (ae (cZ (qv 2) (qv 4)) (ae (cZ (qv 3) (qv 5)) ah)))))))))),xG⟩
theorem m7 (F:Df K mg "word_within" eU ["one","most"]) (T:Txt mg) {n:Fh} (TC:Tc K w n) (k_first_letter:Known P w K mg base 2 "first_letter" bW) (k_without:Known P w K mg base 1 "without" et):fP P w K mg base 3 "word_within" cu :=
 have nd:=iZ.nd;F.xJ iZ lT fun fa cdv A outer s H E hr=>⟨fO,(jm (qp (va (fL 2 nd (rM ah)))) (jm (qp (va (aH 3 nd (qv 0)))) (jm (Bm (QW.t (o3 (ub hr.units (bN (qv 3) au (fun _ _=>rfl)) au) (lM (ub hr.units (bN (qv 3) au (fun _ _=>rfl)) au)))) (jm (qp (G5 (gN hr.units (fT 2 T.len) (qv 1)) (sC (y0 TC.n_TooLong TC.e_TooLong (ae bE ah))) (EA aV))) (jm (qp (va (l4 2 (aL k_first_letter (hr.mono (by decide)) (ae (qv 3) ah))))) (yd (qp (va (aH 3 nd (aL k_without (hr.mono (by decide)) (ae (dM 2 (gm au) (fun _ _=>rfl)) (ae (qv 3) ah)))))))))) (yd (qp (va (gP 2 (aO (AK bE (ae (qv 2) ah)))))))))),nj⟩
theorem vO (F:Df K mg "word_of" jE ["one"]) {n:Fh} (TC:Tc K w n) (kx_word_within:fP P w K mg base 3 "word_within" cu):fP P w K mg base 4 "word_of" eG :=
 have nd:=oR.nd;F.sP oR t6 fun fa cdv A outer s H E hr=>⟨j5,(sC (Fx (tQ kx_word_within (hr.mono (by decide)) (ae (qv 0) (ae (J2 TC.g_MOST_LETTERS) ah))))),vy⟩
theorem nh (F:Df K mg "place_behind" dH ["table","place","letter"]):Known P w K mg base 1 "place_behind" cp :=
 have nd:=iA.nd;F.known iA mD fun fa cdv A outer s H E hr=>⟨fU,(aj (ig (qv 0) (ft rfl (aK (aD 3 nd) (aK (aD 4 nd) c9)))) (aj (bt (gN hr.units (qv 2) bE) (aq (aO (bN (qv 3) (qv 1) (fun _ _=>rfl)))) aV) (aj (aH 5 nd (bN (qv 4) (qv 1) (fun _ _=>rfl))) (aj (bt (QW.t (j3 (gN hr.units (qv 2) bE) (iu (E3 (qv 5) wd)))) (aq (aO (bN (qv 4) (qv 5) (fun _ _=>rfl)))) aV) (aq (aO (qv 5))))))),mZ⟩
theorem oH (F:ID K mg "place_along" eV ["table","word","first"] 0) (k_place_behind:Known P w K mg base 1 "place_behind" cp):oY P w K mg base 2 "place_along" cJ 0 :=
 have nd:=iT.nd;F.known iT m4 fun fa cdv A outer s H E hr=>⟨gD,(aj (aH 3 nd (qv 2)) (aj (iM PassesOwn.never rfl (qv 1) (aD 4 nd) (aj (bt (DX (qv 3) wd) (aq (aO wd)) aV) (aq (aH 3 nd (aL k_place_behind (hr.mono (by decide)) (ae (qv 0) (ae (qv 3) (ae (qv 4) ah)))))))) (aq (aO (qv 3))))),n5⟩
theorem rL (F:Df K mg "place_of" iq ["table","one"]) (k_place_along:oY P w K mg base 2 "place_along" cJ 0) (kx_word_of:fP P w K mg base 4 "word_of" eG):fP P w K mg base 5 "place_of" dC :=
 have nd:=mE.nd;F.sP mE pZ fun fa cdv A outer s H E hr=>⟨jd,(sC (Dz k_place_along (hr.mono (by decide)) (qv 0) (tQ kx_word_of (hr.mono (by decide)) (ae (qv 1) ah)))),r8⟩
theorem ow (F:Df K mg "_law_cell_at" eZ ["_law_script","_law_k"]) (T:Txt mg):Known P w K mg base 1 "_law_cell_at" bK :=
 have nd:=i8.nd;F.known i8 mY fun fa cdv A outer s H E hr=>⟨jM,(aj (bt (xQ (qv 1) (mP T.len (ae (qv 0) ah))) (aq (aO (bN (qv 0) (qv 1) (fun _ _=>rfl)))) aV) (aq (aO au))),oS⟩
theorem wN (F:Df K mg "_law_big" jB ["_law_script","_law_at"]) (T:Txt mg) (k_law_cell_at:Known P w K mg base 1 "_law_cell_at" bK):Known P w K mg base 2 "_law_big" fK :=
 have nd:=oA.nd;F.known oA vj fun fa cdv A outer s H E hr=>⟨lP,(aj (aH 2 nd (aT (ae au (ae au (ae au (ae au (ae au (ae au (ae au (ae au ah)))))))))) (aj (aH 3 nd (aT (ae au (ae au (ae au (ae au (ae au (ae au (ae au (ae au ah)))))))))) (aj (aH 4 nd (aL k_law_cell_at (hr.mono (by decide)) (ae (qv 0) (ae (qv 1) ah)))) (aj (bt (Jy (qv 4) (qQ au au)) (aq (aO (qv 4))) aV) (aj (aH 5 nd au) (aj (kJ PassesOwn.never rfl rfl T.range (ae au ah) (aD 6 nd) (aj (aH 7 nd (bc (bc (jT (aL k_law_cell_at (hr.mono (by decide)) (ae (qv 0) (ae (bc (qv 1) (jT (qv 6) au)) ah))) (qQ au au)) au) (cR (qv 6) (qv 6)))) (aq (aH 5 nd (bc (cR (qv 5) au) (jT (jT (cR (qv 7) (bN (qv 2) (jT (qv 6) au) (fun _ _=>rfl))) (bN (qv 3) (jT (qv 6) au) (fun _ _=>rfl))) au)))))) (aq (aO (qv 5))))))))),xn⟩
theorem sd (F:Df K mg "_law_digit" gq ["_law_rest","_law_many"]):Known P w K mg base 1 "_law_digit" aw :=
 have nd:=kD.nd;F.known kD pU fun fa cdv A outer s H E hr=>⟨i9,(aj (aH 2 nd (jT (BM (qv 0)) (qv 1))) (aj (wx (qv 0) (xb (BM (qv 0)) (qv 1))) (aq (aO (qv 2))))),tO⟩
theorem mr (F:Df K mg "_law_fractions" c6 ["_law_rest","_law_many"]) (T:Txt mg) (k_law_digit:Known P w K mg base 1 "_law_digit" aw):Known P w K mg base 2 "_law_fractions" bY :=
 have nd:=gO.nd;F.known gO kr fun fa cdv A outer s H E hr=>⟨fq,(aj (fL 2 nd (rM (ae (aT (ae (gm au) (ae au ah))) (ae (aT (ae au (ae au ah))) (ae (aT (ae au (ae au ah))) ah))))) (aj (kJ PassesOwn.never rfl rfl T.range (ae (cZ (qv 1) au) ah) (aD 3 nd) (aj (aH 4 nd (aL k_law_digit (hr.mono (by decide)) (ae (qv 0) (ae (cZ (fT 2 T.len) au) ah)))) (aq (zo 2 (bc (qv 4) au) (aT (ae (bc (bN (dM 2 (qv 4) (fun _ _=>rfl)) au (fun _ _=>rfl)) (bN (dM 2 (bc (qv 4) au) (fun _ _=>rfl)) au (fun _ _=>rfl))) (ae (bc (bN (dM 2 (qv 4) (fun _ _=>rfl)) au (fun _ _=>rfl)) (bN (dM 2 (bc (qv 4) au) (fun _ _=>rfl)) au (fun _ _=>rfl))) ah))))))) (aq (gP 2 (aO (gK T.tuple (ae (bc (dR (ae (aT (ae au (ae au ah))) ah)) (Jk (qv 2) (lC au) (lC (cZ (mP T.len (ae (qv 2) ah)) au)))) ah))))))),lQ⟩
theorem tS (F:Df K mg "_law_marks" e8 ["_law_rest","_law_many"]) (T:Txt mg) (k_law_digit:Known P w K mg base 1 "_law_digit" aw):Known P w K mg base 2 "_law_marks" dB :=
 have nd:=kG.nd;F.known kG pW fun fa cdv A outer s H E hr=>⟨iU,(aj (nr 2 nd (N':=["_law_gap"]) (ix:=[]) rfl (cn.of (ak e8) rfl rfl (by decide +kernel) (by decide +kernel) (by decide +kernel) (fun j i h=>by simp at h) rfl) (by decide) rfl rfl rfl T.range (ae (qv 1) ah) (fun C s H fp pins=>fb) (fun C s H fp pins=>bE)) (aj (fL 3 nd (B8 T.list T.range (ae (qv 1) ah))) (aj (kQ PassesOwn.never (yo 3 hr.units) (aj (qH 4 3 nd au) (aj (aH 5 nd (aL k_law_digit (hr.mono (by decide)) (ae (qv 0) (ae au ah)))) (aj (bt (gN hr.units (qv 5) au) (aq (xp 2 (qv 4) bE)) aV) (aq (bt (QW.t (j3 (Bc (qv 5) au) (iu (yo 3 hr.units)))) (aj (qH 6 3 nd (aL k_law_digit (hr.mono (by decide)) (ae (qv 0) (ae (fT 3 T.len) ah)))) (aj (xp 2 (qv 4) (qv 6)) (aq (xp 2 (qv 6) (qv 4))))) aV)))))) (aj (gP 2 (bt (QW.t (j3 (gN hr.units (qv 1) au) (iu (E5 hr.units bE (qv 2))))) (aq (aH 2 nd (dR (ae bE (ae bE ah))))) aV)) (aq (aO (gK T.tuple (ae (qv 2) ah)))))))),sS⟩
theorem xy (F:Df K mg "_law_fan" jy ["_law_rest","_law_most","_law_great_here"]) (k_law_digit:Known P w K mg base 1 "_law_digit" aw) (k_law_fractions:Known P w K mg base 2 "_law_fractions" bY) (k_law_marks:Known P w K mg base 2 "_law_marks" dB):Known P w K mg base 3 "_law_fan" fJ :=
 have nd:=nT.nd;F.known nT vi fun fa cdv A outer s H E hr=>⟨l6,(aj (aH 3 nd (bc au (aL k_law_digit (hr.mono (by decide)) (ae (qv 0) (ae (cZ (qv 1) au) ah))))) (aj (bt (gN hr.units (aL k_law_digit (hr.mono (by decide)) (ae (qv 0) (ae au ah))) au) (aq (aH 3 nd (bc au (aL k_law_digit (hr.mono (by decide)) (ae (qv 0) (ae (cZ (qv 2) au) ah)))))) aV) (aq (aO (aT (ae (aL k_law_fractions (hr.mono (by decide)) (ae (qv 0) (ae (qv 3) ah))) (ae (aL k_law_marks (hr.mono (by decide)) (ae (qv 0) (ae (qv 3) ah))) ah))))))),xT⟩
theorem sU (F:Df K mg "_law_tiles" gj ["_law_fractions_here"]) (T:Txt mg):Known P w K mg base 1 "_law_tiles" dm :=
 have nd:=lA.nd;F.known lA pY fun fa cdv A outer s H E hr=>⟨iX,(aj (fL 1 nd (yU T.list (ae (qv 0) ah))) (aj (fL 2 nd (rM ah)) (aj (kQ PassesOwn.never (Bc (fT 1 T.len) au) (aq (BO PassesOwn.never rfl rfl T.range (ae au (ae (fT 1 T.len) ah)) (aD 3 nd) (aj (aH 4 nd (dM 1 (cZ (qv 3) au) (fun _ _=>rfl))) (aj (aH 5 nd (dM 1 (jT (bc (qv 3) au) (fT 1 T.len)) (fun _ _=>rfl))) (aq (bt (QW.t (j3 (ub hr.units (dM 1 (qv 3) (fun _ _=>rfl)) (aT (ae au (ae au ah)))) (iu (gN hr.units (kX T.abs (ae (cZ (cR (bN (qv 4) au (fun _ _=>rfl)) (bN (qv 5) au (fun _ _=>rfl))) (cR (bN (qv 4) au (fun _ _=>rfl)) (bN (qv 5) au (fun _ _=>rfl)))) ah)) au)))) (aj (l4 2 (aT (ae (qv 4) (ae (dM 1 (qv 3) (fun _ _=>rfl)) (ae (qv 5) ah))))) (aj (Dy 1 (qv 3)) (aq zW))) aV))))))) (aq (gP 2 (aO (qv 2))))))),sk⟩
theorem uQ (F:Df K mg "_law_gaps" fW ["_law_fractions_here"]) (T:Txt mg):Known P w K mg base 1 "_law_gaps" eB :=
 have nd:=mV.nd;F.known mV tm fun fa cdv A outer s H E hr=>⟨j7,(aq (aO (QF.e (zv (N':=["_law_i","_law_fractions_here"]) (ix:=[0]) rfl (cn.of (ak fW) rfl rfl (by decide +kernel) (by decide +kernel) (by decide +kernel) (fun j i h=>match j,h with | 0,h=>by cases h;exact⟨_,rfl,rfl,by decide,rfl⟩ | _ + 1,h=>by simp at h) rfl) (by decide) rfl rfl rfl T.range (ae (mP T.len (ae (qv 0) ah)) ah) (fun C s H fp pins=>fb) (fun C s H fp pins=>(aT (ae (bN (qv 1) (qv 0) (fun _ _=>rfl)) (ae (bN (qv 1) (jT (bc (qv 0) au) (mP T.len (ae (qv 1) ah))) (fun _ _=>rfl)) ah)))))))),u9⟩
theorem tW (F:Df K mg "_law_links" gf ["_law_fan_here"]) (T:Txt mg) (k_law_gaps:Known P w K mg base 1 "_law_gaps" eB) (k_law_tiles:Known P w K mg base 1 "_law_tiles" dm):Known P w K mg base 2 "_law_links" di :=
 have nd:=kY.nd;F.known kY p9 fun fa cdv A outer s H E hr=>⟨ji,(aj (ig (qv 0) (ft rfl (aK (aD 1 nd) (aK (aD 2 nd) c9)))) (aj (aH 3 nd (aL k_law_gaps (hr.mono (by decide)) (ae (qv 1) ah))) (aj (qI 4 nd) (aj (iM PassesOwn.never rfl (aL k_law_tiles (hr.mono (by decide)) (ae (qv 1) ah)) (ft rfl (aK (aD 5 nd) (aK (aD 6 nd) (aK (aD 7 nd) c9)))) (aj (cE 4 hr.units (aT (ae (qv 5) (ae (qv 6) ah))) (aT (ae (qv 6) (ae (qv 7) ah)))) (aj (cE 4 hr.units (aT (ae (qv 6) (ae (qv 7) ah))) (aT (ae (qv 7) (ae (qv 5) ah)))) (aq (cE 4 hr.units (aT (ae (qv 7) (ae (qv 5) ah))) (aT (ae (qv 5) (ae (qv 6) ah)))))))) (aj (qI 8 nd) (aj (y9 4 PassesOwn.never rfl (ft rfl (aK (aD 5 nd) (aK (aD 7 nd) c9))) (aq (cE 8 hr.units (aT (ae (qv 5) (ae (qv 7) ah))) (aT (ae (qv 7) (ae (qv 5) ah)))))) (aj (CZ PassesOwn.never rfl rfl T.enumerate (ae (qv 2) ah) (ft rfl (aK (aD 9 nd) (aK (aD 10 nd) c9))) (aq (bt (gN hr.units (qv 10) bE) (aj (cE 4 hr.units (qv 9) (qv 9)) (aj (cE 8 hr.units (qv 9) (bN (qv 3) (qv 9) (fun _ _=>rfl))) (aq (cE 8 hr.units (bN (qv 3) (qv 9) (fun _ _=>rfl)) (qv 9))))) (aq (bt (gN hr.units (qv 10) bE) (aq (cE 8 hr.units (bN (qv 3) (qv 9) (fun _ _=>rfl)) (bN (qv 3) (qv 9) (fun _ _=>rfl)))) (aq (cE 8 hr.units (bN (qv 3) (qv 9) (fun _ _=>rfl)) (bN (qv 3) (qv 10) (fun _ _=>rfl))))))))) (aj (aH 11 nd (aT (ae (aT (ae au (ae au ah))) (ae (aT (ae au (ae au ah))) ah)))) (aj (oZ 4 (bt (gN hr.units (mP T.len (ae (qv 1) ah)) au) (aj (aH 11 nd (bN (dR (ae au (ae au ah))) (nG T.int (ae (Je hr.units (bN (qv 2) au (fun _ _=>rfl)) bE) ah)) (fun _ _=>rfl))) (aq (iM PassesOwn.never rfl (dR (ae au (ae au ah))) (aD 9 nd) (aq (bt (gN hr.units (bN (qv 2) (qv 9) (fun _ _=>rfl)) bE) (aq (cE 8 hr.units (qv 9) (bN (dR (ae (qv 9) (ae (cZ au (qv 9)) ah))) (nG T.int (ae (AB hr.units (bN (qv 2) (cZ au (qv 9)) (fun _ _=>rfl)) bE) ah)) (fun _ _=>rfl)))) aV))))) (aq (bt (GG hr.units (qv 11) (qv 4)) (aq (aH 11 nd (Ab 8 hr.units (bN (qv 3) (gm au) (fun _ _=>rfl)) (fun _ _=>rfl)))) aV)))) (aq (oZ 8 (aO (aT (ae (qv 8) (ae (qv 4) (ae (qv 11) ah)))))))))))))))),sq⟩
theorem ug (F:Df K mg "_law_anew" eN ["_law_halves","_law_thirds","_law_first"]) (T:Txt mg):Known P w K mg base 1 "_law_anew" eJ :=
 have nd:=mH.nd;F.known mH rT fun fa cdv A outer s H E hr=>⟨jX,(aj (fL 3 nd (rM (ae (qv 2) ah))) (aj (aH 4 nd au) (aj (kQ PassesOwn.never (xQ (qv 4) (fT 3 T.len)) (aj (iM PassesOwn.never rfl (dR (ae (tK hr.units (qv 0) (dM 3 (qv 4) (fun _ _=>rfl)) (fun _ _=>rfl)) (ae (tK hr.units (qv 1) (dM 3 (qv 4) (fun _ _=>rfl)) (fun _ _=>rfl)) ah))) (aD 5 nd) (aq (bt (zV 3 hr.units (qv 5)) (aq (l4 3 (qv 5))) aV))) (aq (aH 4 nd (bc (qv 4) au))))) (aq (gP 3 (aO (aT (ae (gK T.tuple (ae (QF.e (kI (N':=["_law_one","_law_halves","_law_met"]) (ix:=[0,3]) rfl (cn.of (ak eN) rfl rfl (by decide +kernel) (by decide +kernel) (by decide +kernel) (fun j i h=>match j,h with | 0,h=>by cases h;exact⟨_,rfl,rfl,by decide,rfl⟩ | 1,h=>by cases h;exact⟨_,rfl,rfl,by decide,rfl⟩ | _ + 2,h=>by simp at h) rfl) (by decide) rfl rfl (qv 3) (fun C s H fp pins=>fb) (fun C s H fp pins=>(tG hr.units (qv 2) (tK hr.units (qv 1) (qv 0) (fun _ _=>rfl)))))) ah)) (ae (gK T.tuple (ae (QF.e (kI (N':=["_law_one","_law_thirds","_law_met"]) (ix:=[1,3]) rfl (cn.of (ak eN) rfl rfl (by decide +kernel) (by decide +kernel) (by decide +kernel) (fun j i h=>match j,h with | 0,h=>by cases h;exact⟨_,rfl,rfl,by decide,rfl⟩ | 1,h=>by cases h;exact⟨_,rfl,rfl,by decide,rfl⟩ | _ + 2,h=>by simp at h) rfl) (by decide) rfl rfl (qv 3) (fun C s H fp pins=>fb) (fun C s H fp pins=>(tG hr.units (qv 2) (tK hr.units (qv 1) (qv 0) (fun _ _=>rfl)))))) ah)) ah))))))))),vY⟩
theorem sX (F:Df K mg "_law_table" f6 ["_law_fan_here"]) (k_law_anew:Known P w K mg base 1 "_law_anew" eJ) (k_law_links:Known P w K mg base 2 "_law_links" di):Known P w K mg base 3 "_law_table" dk :=
 have nd:=kA.nd;F.known kA p6 fun fa cdv A outer s H E hr=>⟨iJ,(aj (ig (aL k_law_links (hr.mono (by decide)) (ae (qv 0) ah)) (ft rfl (aK (aD 1 nd) (aK (aD 2 nd) (aK (aD 3 nd) c9))))) (aq (aO (aL k_law_anew (hr.mono (by decide)) (ae (qv 1) (ae (qv 2) (ae (qv 3) ah))))))),sD⟩
theorem rF (F:Df K mg "_law_times" fj ["_law_one","_law_other"]) (T:Txt mg):Known P w K mg base 1 "_law_times" bL :=
 have nd:=lb.nd;F.known lb qf fun fa cdv A outer s H E hr=>⟨jt,(aj (ig (qv 0) (ft rfl (aK (aD 2 nd) (aK (aD 3 nd) (aK (aD 4 nd) (aK (aD 5 nd) c9)))))) (aj (ig (qv 1) (ft rfl (aK (aD 6 nd) (aK (aD 7 nd) (aK (aD 8 nd) (aK (aD 9 nd) c9)))))) (aj (aH 10 nd (aT (ae (bc (cR (qv 2) (qv 6)) (cR (qv 3) (qv 8))) (ae (bc (cR (qv 2) (qv 7)) (cR (qv 3) (qv 9))) (ae (bc (cR (qv 4) (qv 6)) (cR (qv 5) (qv 8))) (ae (bc (cR (qv 4) (qv 7)) (cR (qv 5) (qv 9))) ah)))))) (aj (bt (QW.t (o3 (xQ (bN (qv 10) au (fun _ _=>rfl)) au) (lM (QW.t (j3 (gN hr.units (bN (qv 10) au (fun _ _=>rfl)) au) (iu (xQ (bN (qv 10) au (fun _ _=>rfl)) au))))))) (aq (aO (gK T.tuple (ae (QF.e (kI (N':=["_law_number"]) (ix:=[]) rfl (cn.of (ak fj) rfl rfl (by decide +kernel) (by decide +kernel) (by decide +kernel) (fun j i h=>by simp at h) rfl) (by decide) rfl rfl (qv 10) (fun C s H fp pins=>fb) (fun C s H fp pins=>(cZ au (qv 0))))) ah)))) aV) (aq (aO (qv 10))))))),rO⟩
theorem oM (F:Df K mg "_law_turning" eR ["_law_word"]) (k_law_times:Known P w K mg base 1 "_law_times" bL):Known P w K mg base 2 "_law_turning" aS :=
 have nd:=iY.nd;F.known iY m3 fun fa cdv A outer s H E hr=>⟨gB,(aj (aH 1 nd (aT (ae au (ae au (ae au (ae au ah)))))) (aj (iM PassesOwn.never rfl (qv 0) (aD 2 nd) (aq (aH 1 nd (aL k_law_times (hr.mono (by decide)) (ae (qv 1) (ae (Eg hr.units (A7 (wC (aT (ae au (ae (gm au) (ae au (ae au ah))))) (wC (aT (ae au (ae (gm au) (ae au (ae (gm au) ah))))) (wC (aT (ae au (ae (gm au) (ae au (ae au ah))))) Bg)))) (qv 2) (fun _ _=>rfl)) ah)))))) (aq (aO (qv 1))))),pO⟩
theorem wF (F:Df K mg "_law_led" jD ["_law_table_here","_law_place","_law_word"]):Known P w K mg base 1 "_law_led" cH :=
 have nd:=oP.nd;F.known oP vX fun fa cdv A outer s H E hr=>⟨mi,(aj (iM PassesOwn.never rfl (qv 2) (aD 3 nd) (aq (bt (gN hr.units (qv 3) bE) (aq (aH 1 nd (bN (bN (qv 0) au (fun _ _=>rfl)) (qv 1) (fun _ _=>rfl)))) (aq (bt (gN hr.units (qv 3) bE) (aq (aH 1 nd (bN (bN (qv 0) au (fun _ _=>rfl)) (qv 1) (fun _ _=>rfl)))) (aq (aH 1 nd (bN (bN (qv 0) au (fun _ _=>rfl)) (bN (bN (qv 0) au (fun _ _=>rfl)) (qv 1) (fun _ _=>rfl)) (fun _ _=>rfl))))))))) (aq (aO (qv 1)))),wU⟩
theorem pg (F:Df K mg "_law_shorter" eQ ["_law_word"]):Known P w K mg base 1 "_law_shorter" cF :=
 have nd:=jo.nd;F.known jo m9 fun fa cdv A outer s H E hr=>⟨gF,(aj (aH 1 nd bE) (aj (iM PassesOwn.never rfl (qv 0) (aD 2 nd) (aj (aH 3 nd (Aq (qv 1) (lC (gm au)) sY)) (aq (bt (QW.t (o3 (gN hr.units (qv 3) bE) (lM (ub hr.units (AB hr.units (qv 3) bE) (AB hr.units (qv 2) bE))))) (aq (aH 1 nd (bc (qv 1) (qv 2)))) (aq (bt (gN hr.units (qv 2) bE) (aq (aH 1 nd (Aq (qv 1) sY (lC (gm au))))) (aq (aH 1 nd (bc (Aq (qv 1) sY (lC (gm au))) (Eg hr.units (A7 (wC bE (wC bE (wC bE (wC bE Bg))))) (bc (qv 3) (qv 2)) (fun _ _=>rfl))))))))))) (aq (aO (qv 1))))),pq⟩
theorem o7 (F:Df K mg "_law_word_of" eY ["_law_one"]) (T:Txt mg) (k_law_shorter:Known P w K mg base 1 "_law_shorter" cF):Known P w K mg base 2 "_law_word_of" cG :=
 have nd:=iS.nd;F.known iS nk fun fa cdv A outer s H E hr=>⟨gw,(aj (ig (qv 0) (ft rfl (aK (aD 1 nd) (aK (aD 2 nd) (aK (aD 3 nd) (aK (aD 4 nd) c9)))))) (aj (aH 5 nd bE) (aj (aH 6 nd au) (aj (kQ PassesOwn.never (ub hr.units (qv 3) au) (aj (aH 7 nd (xb (qv 1) (qv 3))) (aj (aH 6 nd (bc (bc (qv 6) (cR au (kX T.abs (ae (qv 7) ah)))) au)) (aj (bt (Bc (qv 6) au) (aq (aO wd)) aV) (aj (aH 5 nd (bc (bc (qv 5) (bN (dR (ae (uz bE (cZ au (qv 7))) (ae (uz bE (qv 7)) ah))) (nG T.int (ae (G8 (qv 7) au) ah)) (fun _ _=>rfl))) bE)) (aq (ig (aT (ae (cZ au (qv 3)) (ae (cZ au (qv 4)) (ae (cZ (qv 1) (cR (qv 7) (qv 3))) (ae (cZ (qv 2) (cR (qv 7) (qv 4))) ah))))) (ft rfl (aK (aD 1 nd) (aK (aD 2 nd) (aK (aD 3 nd) (aK (aD 4 nd) c9)))))))))))) (aj (bt (Bc (bc (qv 6) (cR au (kX T.abs (ae (qv 2) ah)))) au) (aq (aO wd)) aV) (aj (aH 5 nd (aL k_law_shorter (hr.mono (by decide)) (ae (bc (qv 5) (bN (dR (ae (uz bE (cZ au (cR (qv 2) (qv 4)))) (ae (uz bE (cR (qv 2) (qv 4))) ah))) (nG T.int (ae (G8 (cR (qv 2) (qv 4)) au) ah)) (fun _ _=>rfl))) ah))) (aj (bt (Bc (mP T.len (ae (qv 5) ah)) au) (aq (aO wd)) aV) (aq (aO (qv 5)))))))))),pH⟩
theorem nq (F:Df K mg "_law_refusal" eS ["_law_e"]) (T:Txt mg) {n:Fh} (TC:Tc K w n):oE P w K mg base 1 "_law_refusal" cI :=
 have nd:=jk.nd;F.xx jk m8 fun fa cdv A outer s H E hr=>⟨gG,(aj (bt (QW.t (o3 (xW (lX (uk "TooLong" (.ty "ValueError") true T.isinstance TC.n_TooLong TC.gM (.ty TC.kt1) (ae (qv 0) (ae (JK rfl T.ValueError DD) ah))))) (lM (lX (uk "TooLong" (.tup [.cls "Full",.cls "NoFan",.cls "NoText",.cls "NotIn",.cls "NoTurning",.cls "Open"]) false T.isinstance TC.n_TooLong TC.gM (.tup (.cons TC.n_Full (.cons TC.n_NoFan (.cons TC.n_NoText (.cons TC.n_NotIn (.cons TC.n_NoTurning (.cons TC.n_Open .nil)))))) TC.kt0) (ae (qv 0) (ae (aT (ae (tH TC.n_Full) (ae (tH TC.n_NoFan) (ae (tH TC.n_NoText) (ae (tH TC.n_NotIn) (ae (tH TC.n_NoTurning) (ae (tH TC.n_Open) ah))))))) ah))))))) (aq (aO bE)) aV) (aj (aH 1 nd (dR (ae (uk "TooLong" (.cls "NoTable") false T.isinstance TC.n_TooLong TC.gM (.cls TC.n_NoTable TC.kt4) (ae (qv 0) (ae (tH TC.n_NoTable) ah))) (ae (uk "TooLong" (.cls "TooLong") true T.isinstance TC.n_TooLong TC.gM (.cls TC.n_TooLong TC.kt3) (ae (qv 0) (ae (tH TC.n_TooLong) ah))) (ae (uk "TooLong" (.cls "TooMany") false T.isinstance TC.n_TooLong TC.gM (.cls TC.n_TooMany TC.kt2) (ae (qv 0) (ae (tH TC.n_TooMany) ah))) ah))))) (aj (bt (ub hr.units (A8 hr.units (qv 1) GP) au) (aq (aO bE)) aV) (aq (aO (bN (dR (ae bE (ae bE (ae bE ah)))) (tG hr.units (qv 1) GP) (fun _ _=>rfl))))))),pF⟩
theorem sV (F:Df K mg "_law_whole" fZ ["_law_thing"]) (T:Txt mg):Known P w K mg base 1 "_law_whole" b9 :=
 have nd:=kz.nd;F.known kz qd fun fa cdv A outer s H E hr=>⟨mW,(aq (aO (Bb (Ep T.isinstance T.int rj (qv 0)) (w8 (Gz (Ep T.isinstance T.bool wK (qv 0))))))),rP⟩
theorem uN (F:Df K mg "_law_long" fV ["_law_rest","_law_most"]) (T:Txt mg) (k_law_digit:Known P w K mg base 1 "_law_digit" aw) (k_law_turning:Known P w K mg base 2 "_law_turning" aS):Known P w K mg base 3 "_law_long" cM :=
 have nd:=mF.nd;F.known mF sZ fun fa cdv A outer s H E hr=>⟨kb,(aj (aH 2 nd bE) (aj (kJ PassesOwn.never rfl rfl T.range (ae (bc au (aL k_law_digit (hr.mono (by decide)) (ae (qv 0) (ae au ah)))) ah) (aD 3 nd) (aj (aH 4 nd (bc au (aL k_law_digit (hr.mono (by decide)) (ae (qv 0) (ae (bN (dR (ae au (ae au (ae au (ae au ah))))) (aL k_law_digit (hr.mono (by decide)) (ae (qv 0) (ae au ah))) (fun _ _=>rfl)) ah))))) (aj (aH 5 nd (bc (qv 2) (uz (bN (dR (ae bE (ae bE (ae bE (ae bE ah))))) (aL k_law_digit (hr.mono (by decide)) (ae (qv 0) (ae au ah))) (fun _ _=>rfl)) (qv 4)))) (aq (bt (QW.t (j3 (IX (mP T.len (ae (qv 5) ah)) (qv 1)) (iu (xQ (BW T.max (ae (QF.e (kI (N':=["_law_number"]) (ix:=[]) rfl (cn.of (ak fV) rfl rfl (by decide +kernel) (by decide +kernel) (by decide +kernel) (fun j i h=>by simp at h) rfl) (by decide) rfl rfl (aL k_law_turning (hr.mono (by decide)) (ae (qv 5) ah)) (fun C s H fp pins=>fb) (fun C s H fp pins=>(kX T.abs (ae (qv 0) ah))))) ah)) (qQ au au))))) (aq (aH 2 nd (qv 5))) aV))))) (aq (aO (qv 2))))),vd⟩
theorem su (F:Df K mg "_law_great" fi ["_law_rest"]) (T:Txt mg) (k_law_digit:Known P w K mg base 1 "_law_digit" aw):Known P w K mg base 2 "_law_great" dj :=
 have nd:=ko.nd;F.known ko p5 fun fa cdv A outer s H E hr=>⟨iL,(aj (aH 1 nd (bc au (aL k_law_digit (hr.mono (by decide)) (ae (qv 0) (ae au ah))))) (aj (rE 2 nd (N':=["_law_k","_law_rest","_law_by"]) (ix:=[0,1]) rfl (cn.of (ak fi) rfl rfl (by decide +kernel) (by decide +kernel) (by decide +kernel) (fun j i h=>match j,h with | 0,h=>by cases h;exact⟨_,rfl,rfl,by decide,rfl⟩ | 1,h=>by cases h;exact⟨_,rfl,rfl,by decide,rfl⟩ | _ + 2,h=>by simp at h) rfl) (by decide) rfl rfl rfl T.range (ae (bc au (aL k_law_digit (hr.mono (by decide)) (ae (qv 0) (ae au ah)))) ah) (fun C s H fp pins=>fb) (fun C s H fp pins=>(bN bE (jT (bc (xb (qv 0) (qv 2)) (aL k_law_digit (hr.mono (by decide)) (ae (qv 1) (ae au ah)))) au) (fun _ _=>rfl)))) (aq (aO (bc bE (AK bE (ae (qv 2) ah))))))),rD⟩
theorem vU (F:Df K mg "_law_told" gX ["_law_table_here","_law_one"]) {n:Fh} (TC:Tc K w n) (kx_place_of:fP P w K mg base 5 "place_of" dC) (kh_law_refusal:oE P w K mg base 1 "_law_refusal" cI):Known P w K mg base 6 "_law_told" bR :=
 have nd:=mU.nd;F.known mU rZ fun fa cdv A outer s H E hr=>⟨j6,(aq (Cv 2 nd rfl rfl TC.n_FanError TC.n_TooLong TC.jV (tQ kx_place_of (hr.mono (by decide)) (ae (qv 0) (ae (qv 1) ah))) (fun _=>(aq (aO (Dr kh_law_refusal ((hr.mono (by decide)).hand _) (ae (qv 2) ah))))))),vJ⟩
theorem sT (F:Df K mg "_law_right" gc ["_law_table_here","_law_one"]) (k_law_led:Known P w K mg base 1 "_law_led" cH) (k_law_told:Known P w K mg base 6 "_law_told" bR) (k_law_whole:Known P w K mg base 1 "_law_whole" b9) (k_law_word_of:Known P w K mg base 2 "_law_word_of" cG):Known P w K mg base 7 "_law_right" dE :=
 have nd:=lD.nd;F.known lD qm fun fa cdv A outer s H E hr=>⟨iW,(aj (aH 2 nd (aL k_law_word_of (hr.mono (by decide)) (ae (qv 1) ah))) (aj (aH 3 nd (aL k_law_told (hr.mono (by decide)) (ae (qv 0) (ae (qv 1) ah)))) (aj (bt (DX (qv 2) wd) (aq (aO (AB hr.units (qv 3) bE))) aV) (aq (aO (Bb (aL k_law_whole (hr.mono (by decide)) (ae (qv 3) ah)) (w8 (AB hr.units (qv 3) (aL k_law_led (hr.mono (by decide)) (ae (qv 0) (ae au (ae (qv 2) ah)))))))))))),rJ⟩
theorem FV {fa:Addr} {fd:FuncData} (F:mX K "law" "law" yk fa fd) (T:Txt mg) (k_law_big:Known P w K mg base 2 "_law_big" fK) (k_law_digit:Known P w K mg base 1 "_law_digit" aw) (k_law_fan:Known P w K mg base 3 "_law_fan" fJ) (k_law_great:Known P w K mg base 2 "_law_great" dj) (k_law_led:Known P w K mg base 1 "_law_led" cH) (k_law_long:Known P w K mg base 3 "_law_long" cM) (k_law_right:Known P w K mg base 7 "_law_right" dE) (k_law_table:Known P w K mg base 3 "_law_table" dk) (k_law_times:Known P w K mg base 1 "_law_times" bL) (k_law_told:Known P w K mg base 6 "_law_told" bR) (k_law_turning:Known P w K mg base 2 "_law_turning" aS) (k_law_whole:Known P w K mg base 1 "_law_whole" b9):l7 P w K mg base qD 8 fa fd ["_law_script"] (DI K (zy 63)) :=
 have nd:=AF.nd;mX.CA F AF CJ fun cdv A outer s H E hr=>⟨AN,(aj (kJ PassesOwn.never rfl rfl T.range (ae (HE T.max (ae au (ae (HV T.min (ae au (ae (mP T.len (ae (qv 0) ah)) ah))) ah))) ah) (aD 1 nd) (aj (xM 2 nd (aL k_law_big (hr.mono (by decide)) (ae (qv 0) (ae (qv 1) ah)))) (aj (aH 3 nd (aL k_law_table (hr.mono (by decide)) (ae (aL k_law_fan (hr.mono (by decide)) (ae (qv 2) (ae au (ae au ah)))) ah))) (aj (aH 4 nd (aL k_law_long (hr.mono (by decide)) (ae (qv 2) (ae au ah)))) (aj (aH 5 nd (aL k_law_turning (hr.mono (by decide)) (ae (qv 4) ah))) (aj (aH 6 nd (aL k_law_told (hr.mono (by decide)) (ae (qv 3) (ae (qv 5) ah)))) (aj (bt (QW.t (o3 (xW (lX (aL k_law_whole (hr.mono (by decide)) (ae (qv 6) ah)))) (lM (ub hr.units (qv 6) (aL k_law_led (hr.mono (by decide)) (ae (qv 3) (ae au (ae (qv 4) ah)))))))) (aq (aO GP)) aV) (aj (bt (gN hr.units (aL k_law_digit (hr.mono (by decide)) (ae (qv 2) (ae au ah))) au) (aj (aH 4 nd (aL k_law_great (hr.mono (by decide)) (ae (qv 2) ah))) (aq (bt (ub hr.units (aL k_law_told (hr.mono (by decide)) (ae (qv 3) (ae (aL k_law_turning (hr.mono (by decide)) (ae (qv 4) ah)) ah))) (aL k_law_led (hr.mono (by decide)) (ae (qv 3) (ae au (ae (qv 4) ah))))) (aq (aO GP)) aV))) aV) (aj (aH 7 nd (dR (ae (bc au (aL k_law_digit (hr.mono (by decide)) (ae (qv 2) (ae au ah)))) (ae (qQ au au) (ae (aL k_law_digit (hr.mono (by decide)) (ae (qv 2) (ae (qQ au au) ah))) (ae (bc au (aL k_law_digit (hr.mono (by decide)) (ae (qv 2) (ae au ah)))) ah)))))) (aj (aH 8 nd (cR (bN (qv 7) (aL k_law_digit (hr.mono (by decide)) (ae (qv 2) (ae au ah))) (fun _ _=>rfl)) (cZ au (cR au (aL k_law_digit (hr.mono (by decide)) (ae (qv 2) (ae au ah))))))) (aj (aH 9 nd (aL k_law_turning (hr.mono (by decide)) (ae (aL k_law_long (hr.mono (by decide)) (ae (qv 2) (ae au ah))) ah))) (aq (iM PassesOwn.never rfl (dR (ae (aT (ae au (ae (qv 8) (ae au (ae au ah))))) (ae (aL k_law_times (hr.mono (by decide)) (ae (qv 9) (ae (aT (ae au (ae (qv 8) (ae au (ae au ah))))) ah))) (ae (aL k_law_times (hr.mono (by decide)) (ae (aT (ae au (ae (qv 8) (ae au (ae au ah))))) (ae (qv 9) ah))) ah)))) (aD 10 nd) (aq (bt (QW.t (j3 (xQ (BW T.max (ae (QF.e (kI (N':=["_law_number"]) (ix:=[]) rfl (cn.of (ak yk) rfl rfl (by decide +kernel) (by decide +kernel) (by decide +kernel) (fun j i h=>by simp at h) rfl) (by decide) rfl rfl (qv 10) (fun C s H fp pins=>fb) (fun C s H fp pins=>(kX T.abs (ae (qv 0) ah))))) ah)) (qQ au au)) (iu (xW (lX (aL k_law_right (hr.mono (by decide)) (ae (qv 3) (ae (qv 10) ah)))))))) (aq (aO GP)) aV))))))))))))))) (aq (aO GP))),Gh⟩
end
theorem all_mk {l:PySem.W.OpenLaw} {w:World} {K:PySem.W.Frag} {h:Heap} {mg:Str→Option Value} {fa:Addr} {c_Open:Addr} {c_NoTurning:Addr} {c_NotIn:Addr} {c_NoText:Addr} {c_NoFan:Addr} {c_Full:Addr} {c_TooMany:Addr} {c_TooLong:Addr} {c_NoTable:Addr} {c_FanError:Addr} {t_MOST_LETTERS:Tok} (X:K.In h) (G:h.Ns mainGlobals mg) (hfa:mg "law" = some (.ref fa))
  (D1:bB K "differ_in_sign" cN)
  (D2:bB K "first_letter" dJ)
  (D3:bB K "without" jw)
  (D4:bB K "word_within" eU)
  (D5:bB K "word_of" jE)
  (D6:bB K "place_behind" dH)
  (D8:bB K "place_of" iq)
  (D9:bB K "_law_cell_at" eZ)
  (D10:bB K "_law_big" jB)
  (D11:bB K "_law_digit" gq)
  (D12:bB K "_law_fractions" c6)
  (D13:bB K "_law_marks" e8)
  (D14:bB K "_law_fan" jy)
  (D15:bB K "_law_tiles" gj)
  (D16:bB K "_law_gaps" fW)
  (D17:bB K "_law_links" gf)
  (D18:bB K "_law_anew" eN)
  (D19:bB K "_law_table" f6)
  (D20:bB K "_law_times" fj)
  (D21:bB K "_law_turning" eR)
  (D22:bB K "_law_led" jD)
  (D23:bB K "_law_shorter" eQ)
  (D24:bB K "_law_word_of" eY)
  (D25:bB K "_law_refusal" eS)
  (D26:bB K "_law_whole" fZ)
  (D27:bB K "_law_long" fV)
  (D28:bB K "_law_great" fi)
  (D29:bB K "_law_told" gX)
  (D30:bB K "_law_right" gc)
  (D31:bB K "law" yk)
  (D7:xl K "place_along" eV 0)
  (z0:PySem.W.nsIn K mainGlobals "ValueError" = some none)
  (z1:PySem.W.nsIn K mainGlobals "abs" = some none)
  (z2:PySem.W.nsIn K mainGlobals "bool" = some none)
  (z3:PySem.W.nsIn K mainGlobals "enumerate" = some none)
  (z4:PySem.W.nsIn K mainGlobals "int" = some none)
  (z5:PySem.W.nsIn K mainGlobals "isinstance" = some none)
  (z6:PySem.W.nsIn K mainGlobals "len" = some none)
  (z7:PySem.W.nsIn K mainGlobals "list" = some none)
  (z8:PySem.W.nsIn K mainGlobals "max" = some none)
  (z9:PySem.W.nsIn K mainGlobals "min" = some none)
  (z10:PySem.W.nsIn K mainGlobals "range" = some none)
  (z11:PySem.W.nsIn K mainGlobals "tuple" = some none)
  (g_MOST_LETTERS:PySem.W.nsIn K mainGlobals "MOST_LETTERS" = some (some (.int 2000 t_MOST_LETTERS)))
  (n_Open:PySem.W.nsIn K mainGlobals "Open" = some (some (.ref c_Open)))
  (n_NoTurning:PySem.W.nsIn K mainGlobals "NoTurning" = some (some (.ref c_NoTurning)))
  (n_NotIn:PySem.W.nsIn K mainGlobals "NotIn" = some (some (.ref c_NotIn)))
  (n_NoText:PySem.W.nsIn K mainGlobals "NoText" = some (some (.ref c_NoText)))
  (n_NoFan:PySem.W.nsIn K mainGlobals "NoFan" = some (some (.ref c_NoFan)))
  (n_Full:PySem.W.nsIn K mainGlobals "Full" = some (some (.ref c_Full)))
  (n_TooMany:PySem.W.nsIn K mainGlobals "TooMany" = some (some (.ref c_TooMany)))
  (n_TooLong:PySem.W.nsIn K mainGlobals "TooLong" = some (some (.ref c_TooLong)))
  (n_NoTable:PySem.W.nsIn K mainGlobals "NoTable" = some (some (.ref c_NoTable)))
  (n_FanError:PySem.W.nsIn K mainGlobals "FanError" = some (some (.ref c_FanError)))
  (e_TooLong:PySem.W.excIn K c_TooLong [.type "ValueError",.type "Exception",.type "BaseException",.type "object"] "ValueError.__new__" = true)
  (o1_TooLong:PySem.W.findIn K (.ref c_TooLong) "__getattribute__" = some (some (.builtin "BaseException.__getattribute__")))
  (o2_TooLong:PySem.W.findIn K (.ref c_TooLong) "__getattr__" = some none)
  (o3_TooLong:PySem.W.hasDictIn K c_TooLong=true)
  (o4_TooLong:PySem.W.findIn K (.ref c_TooLong) "__class__" = some (some (.builtin "object.__class__")))
  (o5_TooLong:PySem.W.specialIn K (.builtin "object.__class__") "__get__" = some (some (.builtin "getset_descriptor.__get__")))
  (o6_TooLong:PySem.W.takesIn K (.builtin "object.__class__")=some true)
  (o7_TooLong:PySem.W.mroIn K c_TooLong (.type "object")=some true)
  (o8_TooLong:PySem.W.subIn K (.ref c_TooLong) (.type "BaseException")=some true)
  (u1_TooLong_FanError:PySem.W.typeIn K (.ref c_FanError)=some (.type "type"))
  (u2_TooLong_FanError:PySem.W.hasDictIn K c_FanError=true)
  (u3_TooLong_FanError:PySem.W.subIn K (.ref c_FanError) (.type "BaseException")=some true)
  (u4_TooLong_FanError:PySem.W.subIn K (.ref c_TooLong) (.ref c_FanError)=some true)
  (kt0:PySem.W.kitAny K (.ref c_TooLong) [.ref c_Full,.ref c_NoFan,.ref c_NoText,.ref c_NotIn,.ref c_NoTurning,.ref c_Open]=some false)
  (kt1:PySem.W.kitOne K (.ref c_TooLong) (.type "ValueError")=some true)
  (kt2:PySem.W.kitOne K (.ref c_TooLong) (.ref c_TooMany)=some false)
  (kt3:PySem.W.kitOne K (.ref c_TooLong) (.ref c_TooLong)=some true)
  (kt4:PySem.W.kitOne K (.ref c_TooLong) (.ref c_NoTable)=some false)
  : ∃fd:FuncData,(∀(s:Shared) (v:Value),BindsTo s fd ⟨[v],[]⟩ [("_law_script",v)])∧∀base:Heap,K.In base→base.Ns mainGlobals mg→l7 l.prog w K mg base qD 8 fa fd ["_law_script"] (DI K (zy 63)):=by
 have T:Txt mg:=⟨PySem.W.mg_none_of X G z0,PySem.W.mg_none_of X G z1,PySem.W.mg_none_of X G z2,PySem.W.mg_none_of X G z3,PySem.W.mg_none_of X G z4,PySem.W.mg_none_of X G z5,PySem.W.mg_none_of X G z6,PySem.W.mg_none_of X G z7,PySem.W.mg_none_of X G z8,PySem.W.mg_none_of X G z9,PySem.W.mg_none_of X G z10,PySem.W.mg_none_of X G z11⟩
 have TC:Tc K w ⟨c_Open,c_NoTurning,c_NotIn,c_NoText,c_NoFan,c_Full,c_TooMany,c_TooLong,c_NoTable,c_FanError,t_MOST_LETTERS⟩:=⟨g_MOST_LETTERS,n_Open,n_NoTurning,n_NotIn,n_NoText,n_NoFan,n_Full,n_TooMany,n_TooLong,n_NoTable,n_FanError,e_TooLong,o1_TooLong,o2_TooLong,o3_TooLong,o4_TooLong,o5_TooLong,o6_TooLong,o7_TooLong,o8_TooLong,u1_TooLong_FanError,u2_TooLong_FanError,u3_TooLong_FanError,u4_TooLong_FanError,kt0,kt1,kt2,kt3,kt4⟩
 obtain⟨dl,FL,bl⟩:=D31.JW X G hfa fun _ _ _ _ _ _ _=>rfl
 refine⟨dl,bl,fun base _ _=>?_⟩
 have F1:Df K mg _ cN ["p","q"]:=⟨D1.get X G fun _ _ _ _ _ _=>zl fun _ _=>rfl⟩
 have k_differ_in_sign:=kH (P:=l.prog) (w:=w) (base:=base) F1
 have F2:Df K mg _ dJ ["one"]:=⟨D2.get X G fun _ _ _ _ _ _=>zB fun _=>rfl⟩
 have k_first_letter:=m6 (P:=l.prog) (w:=w) (base:=base) F2 T k_differ_in_sign
 have F3:Df K mg _ jw ["letter","one"]:=⟨D3.get X G fun _ _ _ _ _ _=>zl fun _ _=>rfl⟩
 have k_without:=wy (P:=l.prog) (w:=w) (base:=base) F3
 have F4:Df K mg _ eU ["one","most"]:=⟨D4.get X G fun _ _ _ _ _ _=>zl fun _ _=>rfl⟩
 have kx_word_within:=m7 (P:=l.prog) (w:=w) (base:=base) F4 T TC k_first_letter k_without
 have F5:Df K mg _ jE ["one"]:=⟨D5.get X G fun _ _ _ _ _ _=>zB fun _=>rfl⟩
 have kx_word_of:=vO (P:=l.prog) (w:=w) (base:=base) F5 TC kx_word_within
 have F6:Df K mg _ dH ["table","place","letter"]:=⟨D6.get X G fun _ _ _ _ _ _=>IC fun _ _ _=>rfl⟩
 have k_place_behind:=nh (P:=l.prog) (w:=w) (base:=base) F6
 have F7:ID K mg _ eV ["table","word","first"] 0:=⟨D7.get X G fun _ _ _ _ _ _ _ _ _ _ q s us KX hl=>match us,(show us.length=2 by simpa using hl) with | [_,_],_=>PySem.W.binds_K KX rfl q rfl rfl rfl⟩
 have k_place_along:=oH (P:=l.prog) (w:=w) (base:=base) F7 k_place_behind
 have F8:Df K mg _ iq ["table","one"]:=⟨D8.get X G fun _ _ _ _ _ _=>zl fun _ _=>rfl⟩
 have kx_place_of:=rL (P:=l.prog) (w:=w) (base:=base) F8 k_place_along kx_word_of
 have F9:Df K mg _ eZ ["_law_script","_law_k"]:=⟨D9.get X G fun _ _ _ _ _ _=>zl fun _ _=>rfl⟩
 have k_law_cell_at:=ow (P:=l.prog) (w:=w) (base:=base) F9 T
 have F10:Df K mg _ jB ["_law_script","_law_at"]:=⟨D10.get X G fun _ _ _ _ _ _=>zl fun _ _=>rfl⟩
 have k_law_big:=wN (P:=l.prog) (w:=w) (base:=base) F10 T k_law_cell_at
 have F11:Df K mg _ gq ["_law_rest","_law_many"]:=⟨D11.get X G fun _ _ _ _ _ _=>zl fun _ _=>rfl⟩
 have k_law_digit:=sd (P:=l.prog) (w:=w) (base:=base) F11
 have F12:Df K mg _ c6 ["_law_rest","_law_many"]:=⟨D12.get X G fun _ _ _ _ _ _=>zl fun _ _=>rfl⟩
 have k_law_fractions:=mr (P:=l.prog) (w:=w) (base:=base) F12 T k_law_digit
 have F13:Df K mg _ e8 ["_law_rest","_law_many"]:=⟨D13.get X G fun _ _ _ _ _ _=>zl fun _ _=>rfl⟩
 have k_law_marks:=tS (P:=l.prog) (w:=w) (base:=base) F13 T k_law_digit
 have F14:Df K mg _ jy ["_law_rest","_law_most","_law_great_here"]:=⟨D14.get X G fun _ _ _ _ _ _=>IC fun _ _ _=>rfl⟩
 have k_law_fan:=xy (P:=l.prog) (w:=w) (base:=base) F14 k_law_digit k_law_fractions k_law_marks
 have F15:Df K mg _ gj ["_law_fractions_here"]:=⟨D15.get X G fun _ _ _ _ _ _=>zB fun _=>rfl⟩
 have k_law_tiles:=sU (P:=l.prog) (w:=w) (base:=base) F15 T
 have F16:Df K mg _ fW ["_law_fractions_here"]:=⟨D16.get X G fun _ _ _ _ _ _=>zB fun _=>rfl⟩
 have k_law_gaps:=uQ (P:=l.prog) (w:=w) (base:=base) F16 T
 have F17:Df K mg _ gf ["_law_fan_here"]:=⟨D17.get X G fun _ _ _ _ _ _=>zB fun _=>rfl⟩
 have k_law_links:=tW (P:=l.prog) (w:=w) (base:=base) F17 T k_law_gaps k_law_tiles
 have F18:Df K mg _ eN ["_law_halves","_law_thirds","_law_first"]:=⟨D18.get X G fun _ _ _ _ _ _=>IC fun _ _ _=>rfl⟩
 have k_law_anew:=ug (P:=l.prog) (w:=w) (base:=base) F18 T
 have F19:Df K mg _ f6 ["_law_fan_here"]:=⟨D19.get X G fun _ _ _ _ _ _=>zB fun _=>rfl⟩
 have k_law_table:=sX (P:=l.prog) (w:=w) (base:=base) F19 k_law_anew k_law_links
 have F20:Df K mg _ fj ["_law_one","_law_other"]:=⟨D20.get X G fun _ _ _ _ _ _=>zl fun _ _=>rfl⟩
 have k_law_times:=rF (P:=l.prog) (w:=w) (base:=base) F20 T
 have F21:Df K mg _ eR ["_law_word"]:=⟨D21.get X G fun _ _ _ _ _ _=>zB fun _=>rfl⟩
 have k_law_turning:=oM (P:=l.prog) (w:=w) (base:=base) F21 k_law_times
 have F22:Df K mg _ jD ["_law_table_here","_law_place","_law_word"]:=⟨D22.get X G fun _ _ _ _ _ _=>IC fun _ _ _=>rfl⟩
 have k_law_led:=wF (P:=l.prog) (w:=w) (base:=base) F22
 have F23:Df K mg _ eQ ["_law_word"]:=⟨D23.get X G fun _ _ _ _ _ _=>zB fun _=>rfl⟩
 have k_law_shorter:=pg (P:=l.prog) (w:=w) (base:=base) F23
 have F24:Df K mg _ eY ["_law_one"]:=⟨D24.get X G fun _ _ _ _ _ _=>zB fun _=>rfl⟩
 have k_law_word_of:=o7 (P:=l.prog) (w:=w) (base:=base) F24 T k_law_shorter
 have F25:Df K mg _ eS ["_law_e"]:=⟨D25.get X G fun _ _ _ _ _ _=>zB fun _=>rfl⟩
 have kh_law_refusal:=nq (P:=l.prog) (w:=w) (base:=base) F25 T TC
 have F26:Df K mg _ fZ ["_law_thing"]:=⟨D26.get X G fun _ _ _ _ _ _=>zB fun _=>rfl⟩
 have k_law_whole:=sV (P:=l.prog) (w:=w) (base:=base) F26 T
 have F27:Df K mg _ fV ["_law_rest","_law_most"]:=⟨D27.get X G fun _ _ _ _ _ _=>zl fun _ _=>rfl⟩
 have k_law_long:=uN (P:=l.prog) (w:=w) (base:=base) F27 T k_law_digit k_law_turning
 have F28:Df K mg _ fi ["_law_rest"]:=⟨D28.get X G fun _ _ _ _ _ _=>zB fun _=>rfl⟩
 have k_law_great:=su (P:=l.prog) (w:=w) (base:=base) F28 T k_law_digit
 have F29:Df K mg _ gX ["_law_table_here","_law_one"]:=⟨D29.get X G fun _ _ _ _ _ _=>zl fun _ _=>rfl⟩
 have k_law_told:=vU (P:=l.prog) (w:=w) (base:=base) F29 TC kx_place_of kh_law_refusal
 have F30:Df K mg _ gc ["_law_table_here","_law_one"]:=⟨D30.get X G fun _ _ _ _ _ _=>zl fun _ _=>rfl⟩
 have k_law_right:=sT (P:=l.prog) (w:=w) (base:=base) F30 k_law_led k_law_told k_law_whole k_law_word_of
 exact FV FL T k_law_big k_law_digit k_law_fan k_law_great k_law_led k_law_long k_law_right k_law_table k_law_times k_law_told k_law_turning k_law_whole
end KR
namespace PySem.W.Fast
theorem tw2136316286471589845:True:=trivial
theorem tw16145762718380908441:True:=trivial
theorem tw14837842826696175631:True:=trivial
theorem tw9923651813134689988:True:=trivial
theorem tw2410527272518464788:True:=trivial
theorem tw2998077406250206480:True:=trivial
theorem tw7899107084697946444:True:=trivial
theorem tw17620021352452537182:True:=trivial
theorem tw671459595988894213:True:=trivial
theorem tw2133991817942155348:True:=trivial
theorem tw5014209743526090975:True:=trivial
theorem tw8233900054245745766:True:=trivial
theorem tw99731071616927176:True:=trivial
theorem tw6116564069260786053:True:=trivial
theorem tw6870447540268352496:True:=trivial
theorem tw10886561859667820302:True:=trivial
theorem tw5063584508759599091:True:=trivial
theorem tw5309985329447643972:True:=trivial
theorem tw10523314429404611676:True:=trivial
theorem tw1921258040392402035:True:=trivial
theorem tw16569246262980452883:True:=trivial
theorem tw318183797553566476:True:=trivial
theorem tw1910314287034452234:True:=trivial
theorem tw13237817179292092614:True:=trivial
theorem tw1612134567011729444:True:=trivial
theorem tw12509317848051050058:True:=trivial
theorem tw7513101549566697789:True:=trivial
theorem tw11980191349387126218:True:=trivial
theorem tw12769290170902215555:True:=trivial
theorem tw3167980120360528380:True:=trivial
theorem tw5489362667271565274:True:=trivial
theorem tw4162916064770943663:True:=trivial
theorem tw11703080888761585170:True:=trivial
theorem tw14295985877553116383:True:=trivial
theorem tw13312051671418514020:True:=trivial
theorem tw9586224018298582867:True:=trivial
theorem tw3317588821352998141:True:=trivial
theorem tw12476509514053920112:True:=trivial
theorem tw11188291061870133264:True:=trivial
theorem tw932070458294557813:True:=trivial
theorem tw10295410923860185671:True:=trivial
theorem tw17221036515441273586:True:=trivial
theorem tw1186694727872542832:True:=trivial
theorem tw4891597850098799620:True:=trivial
theorem tw4031090908388267806:True:=trivial
theorem tw15300972129968965345:True:=trivial
theorem tw14091925880978856006:True:=trivial
theorem tw11229711249502587122:True:=trivial
theorem tw9317505974985857833:True:=trivial
theorem tw11621873561567102122:True:=trivial
theorem tw8238505137049160759:True:=trivial
theorem tw5548747335161806153:True:=trivial
theorem tw4457378446227657556:True:=trivial
theorem tw1035382843101512506:True:=trivial
theorem tw8710878000920404973:True:=trivial
theorem tw14851500236066135792:True:=trivial
theorem tw6239747581284249553:True:=trivial
theorem tw8857884322637205320:True:=trivial
theorem tw5684321194321964819:True:=trivial
theorem tw9738823871137892133:True:=trivial
theorem tw2402357830113364387:True:=trivial
theorem tw13541305713144853431:True:=trivial
theorem tw15553572331876005700:True:=trivial
theorem tw12896859591744317991:True:=trivial
theorem tw6967542405649040313:True:=trivial
theorem tw5976868743911360717:True:=trivial
theorem tw8153142676653817951:True:=trivial
theorem tw5787991856654366282:True:=trivial
theorem tw7920971955823807088:True:=trivial
theorem tw13924480020226297604:True:=trivial
theorem tw3396052110217717450:True:=trivial
theorem tw4673129556644764533:True:=trivial
theorem tw3247716870350010797:True:=trivial
theorem tw15600531440605321582:True:=trivial
theorem tw10373156328141893593:True:=trivial
theorem tw5559092553073960565:True:=trivial
theorem tw9962186948556720132:True:=trivial
theorem tw16003468689023682886:True:=trivial
theorem tw2726517974259583051:True:=trivial
theorem tw10729452383106457516:True:=trivial
theorem tw184616219853791577:True:=trivial
theorem tw6702397548526352136:True:=trivial
theorem tw2091423227701732650:True:=trivial
theorem tw16749083254920344665:True:=trivial
theorem tw4290191267544338370:True:=trivial
theorem tw5450454058848343807:True:=trivial
theorem tw15599858233641724849:True:=trivial
theorem tw14876371780172019888:True:=trivial
theorem tw13999151093667448183:True:=trivial
theorem tw2483438940424186979:True:=trivial
theorem tw3841416519045404110:True:=trivial
theorem tw4597492935178274702:True:=trivial
theorem tw5095432107390436621:True:=trivial
theorem tw2087956443045947920:True:=trivial
theorem tw6144047377417987491:True:=trivial
theorem tw9376314504742792425:True:=trivial
end PySem.W.Fast
open PySem PySem.W PyProof.Rows
set_option maxRecDepth 100000 in
set_option maxHeartbeats 0 in
theorem PySem.Challenge.cw_fanglue_k32_places_of_turnings_holds : PySem.Challenge.rw_fanglue_k32_places_of_turnings.Holds := by
 w_on;o_law;k_head;(case hw=>w_witness2)
 k_fill
 refine L2.Du (l:=PySem.Challenge.rw_fanglue_k32_places_of_turnings) (n:=63) (k:=8) (x:="_law_script") (CX:=fun _=>L2.qD) (sp:=fun w=>L2.L3.DI _ (L2.L3.zy 63)) rfl (by decide) rfl ⟨rfl,by decide,by decide⟩ (fun w h Y=>PySem.W.kIn_of Y) ?F (fun _ _ a ns hl _ hS=>L2.L3.Fs hl hS) (fun _ _ _ _ _ z=>z)
 case F =>
  intro w mg fa h KX G hmg
  refine' KR.all_mk KX G hmg ?_ ?_ ?_ ?_ ?_ ?_ ?_ ?_ ?_ ?_ ?_ ?_ ?_ ?_ ?_ ?_ ?_ ?_ ?_ ?_ ?_ ?_ ?_ ?_ ?_ ?_ ?_ ?_ ?_ ?_ ?_ ?_ ?_ ?_ ?_ ?_ ?_ ?_ ?_ ?_ ?_ ?_ ?_ ?_ ?_ ?_ ?_ ?_ ?_ ?_ ?_ ?_ ?_ ?_ ?_ ?_ ?_ ?_ ?_ ?_ ?_ ?_ ?_ ?_ ?_ ?_ ?_ ?_ ?_ ?_ ?_ ?_
  rotate_left 11
  iterate 30 exact⟨⟨_,_,_,_,_,_,_,_,_,_,by k_is,by k_is,by k_is,by k_is⟩⟩
  exact⟨⟨_,_,_,_,_,_,_,_,_,_,_,_,_,_,by k_is,by k_is,by k_is,by k_is,by k_is⟩⟩
  iterate 12 k_is
  iterate 11 (k_is)
  k_exc
  iterate 12 (k_is)
  iterate 5 (kit_is)
