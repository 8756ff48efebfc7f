import PyProof.Rows.All
import Wide.All
import OpenK.AllK
import Wide.FinOn
import Lean
import PyProof.EqAt
import PyProof.EqKinds
import PyProof.TupleCall
import PyProof.NeKinds
import PyProof.CompFree
import KE.KIsAll
import OpenK.KOwn
import PyProof.RulesAs
import KE.RegKIsAll
import PyProof.ExcAttrAll.ValueError
import KE.KUnpack
import PyProof.Rows.StrWeight2
import PyProof.StrBlockI
import OpenK.KTop
import PyProof.ListStr
import PyProof.EnumMake
import PyProof.TupleIter
import PyProof.ListRange
import PyProof.PassesOwn
import PyProof.ExcInit
import PyProof.InstStoreFacts
import PyProof.DictFindH
import PyProof.DictIter
import PyProof.DictWalks
import PyProof.DictCompW
import PyProof.DictUpdate
import PyProof.SumWalk
import PyProof.ZipIter
import PySem.Challenge.RW_fanglue_k44_turned
set_option Elab.async false
set_option linter.all false
set_option maxRecDepth 100000
section
open PySem PySem.Spec PyProof.Rows
abbrev Mn := @wpAny_bind
abbrev Mo := @List.getElem?_eq_some_iff
abbrev Mp := @List.getElem?_set_ne
abbrev Mq := @List.getElem?_eq_getElem
abbrev Mr := @wpAny_pure
abbrev Ms := @if_neg
abbrev Mt := @Bool.false_eq_true
abbrev Mu := @List.getElem?_map
abbrev Mv := @List.getElem?_set_self
abbrev Mw := @if_pos
abbrev Mx := @Nat.le_refl
abbrev My := @Option.some.inj
abbrev Mz := @Heap.get?_push_of_some
abbrev MA := @List.mem_of_getElem?
abbrev MB := @List.length_map
abbrev MD := @Nat.lt_of_lt_of_le
abbrev ME := @List.mem_cons_of_mem
abbrev MF := @List.getElem?_eq_none
abbrev MG := @List.size_toArray
abbrev MH := @List.getElem?_append_right
abbrev MI := @Heap.lt_size
abbrev MJ := @List.getElem?_append_left
abbrev MK := @List.mem_singleton
abbrev ML := @List.mem_cons
abbrev MM := @Heap.get?_push_size
abbrev MN := @List.mem_cons_self
abbrev MO := @wpAny_mono
abbrev MP := @List.mem_append
abbrev MQ := @List.map_cons
abbrev MR := @Nat.ne_of_lt
abbrev MS := @List.length_append
abbrev MT := @List.not_mem_nil
abbrev MU := @List.getD_eq_getElem?_getD
abbrev MV := @List.append_nil
abbrev MW := @List.getElem?_replicate
abbrev MX := @Nat.zero_le
abbrev MY := @Nat.lt_succ_iff_lt_or_eq
abbrev MZ := @Option.map_eq_some_iff
abbrev M0 := @List.getElem?_of_mem
abbrev M3 := @List.mem_map
abbrev M5 := @List.getElem?_range
abbrev M6 := @List.drop_eq_nil_of_le
abbrev M7 := @Nat.le_trans
abbrev M8 := @Array.getElem?_eq_some_iff
abbrev M9 := @List.nodup_cons
abbrev Na := @List.mem_range
abbrev Nb := @List.take_of_length_le
abbrev Nc := @List.getElem_mem
abbrev Nd := @Nat.not_lt_zero
abbrev Nf := @Nat.lt_or_ge
abbrev Ng := @List.nodup_append
abbrev Nh := @List.getLast?_concat
abbrev Ni := @PySem.W.mg_of
abbrev Nj := @Int.toNat_of_nonneg
abbrev Nk := @List.take_succ
abbrev Nl := @List.concat_eq_append
abbrev Nn := @List.eq_nil_or_concat
abbrev Np := @Nat.lt_of_le_of_lt
abbrev Nq := @Calls.spliced_cons
end
namespace L2
open PySem PySem.Spec PyProof.Rows
abbrev Key:=Sum Int Str
def sO:Key→Value→Bool
 | .inl k,v=>Value.isInt k v
 | .inr x,v=>Value.isStrOf x v
def LD (w:World):Key→Int
 | .inl k=>hashInt k
 | .inr x=>hashStr w x
theorem ck:∀{k:Key} {v:Value},sO k v=true→(∃i t,k=Sum.inl i∧v=Value.int i t)∨(∃x t,k=Sum.inr x∧v=Value.str x t)
 | .inl i,v,h=>by
  obtain⟨t,e⟩:=Value.isInt_shape (k:=i) (v:=v) h
  exact .inl ⟨i,t,rfl,e⟩
 | .inr x,v,h=>by
  obtain⟨t,e⟩:=Value.isStrOf_shape (x:=x) (v:=v) h
  exact .inr ⟨x,t,rfl,e⟩
theorem tE (i:Int) (t:Tok):sO (.inl i) (.int i t)=true:=by simp [sO,Value.isInt]
theorem AH (x:Str) (t:Tok):sO (.inr x) (.str x t)=true:=by simp [sO,Value.isStrOf]
theorem HK (a b:Int):decide ((Sum.inl a:Key)=Sum.inl b)=(a == b):=by
 by_cases e:a=b
 ·subst e;simp
 ·have h:¬ (Sum.inl a:Key)=Sum.inl b:=fun q=>e (Sum.inl.inj q)
  rw [decide_eq_false h]
  exact (beq_eq_false_iff_ne.mpr e).symm
theorem IL (a b:Str):decide ((Sum.inr a:Key)=Sum.inr b)=decide (a=b):=by
 by_cases e:a=b
 ·subst e;simp
 ·have h:¬ (Sum.inr a:Key)=Sum.inr b:=fun q=>e (Sum.inr.inj q)
  rw [decide_eq_false h,decide_eq_false e]
theorem GL (a:Int) (b:Str):decide ((Sum.inl a:Key)=Sum.inr b)=false:=decide_eq_false (fun q=>nomatch q)
theorem Ja (a:Str) (b:Int):decide ((Sum.inr a:Key)=Sum.inl b)=false:=decide_eq_false (fun q=>nomatch q)
def cK (prog:Program) (w:World):PySem.KeyKind prog w Key where
 is:=sO
 hash:=LD w
 inj:=fun v a b ha hb=>by
  rcases ck ha with ⟨i,t,rfl,rfl⟩ | ⟨x,t,rfl,rfl⟩
  ·rcases ck hb with ⟨j,u,rfl,e⟩ | ⟨y,u,rfl,e⟩
   ·injection e with e1 _;rw [e1]
   ·exact nomatch e
  ·rcases ck hb with ⟨j,u,rfl,e⟩ | ⟨y,u,rfl,e⟩
   ·exact nomatch e
   ·injection e with e1 _;rw [e1]
 byValue:=fun k v h=>by
  rcases ck h with ⟨i,t,rfl,rfl⟩ | ⟨x,t,rfl,rfl⟩ <;> rfl
 pyHash:=fun hv h=>by
  rcases ck hv with ⟨i,t,rfl,rfl⟩ | ⟨x,t,rfl,rfl⟩
  ·exact wpAny_pyHash_int h
  ·exact wpAny_pyHash_str h
 eqBool:=fun hu hv h=>by
  rcases ck hu with ⟨i,t,rfl,rfl⟩ | ⟨x,t,rfl,rfl⟩
  ·rcases ck hv with ⟨j,u,rfl,rfl⟩ | ⟨y,u,rfl,rfl⟩
   ·rw [HK] at h;exact wpAny_eqBool_int h
   ·rw [GL] at h;exact SeqAt.EqAt.int_str i t y u _ _ _ _ h
  ·rcases ck hv with ⟨j,u,rfl,rfl⟩ | ⟨y,u,rfl,rfl⟩
   ·rw [Ja] at h;exact SeqAt.EqAt.str_int x t j u _ _ _ _ h
   ·rw [IL] at h;exact wpAny_eqBool_str h
 «strs»:=fun k x t v h=>by
  rcases ck h with ⟨i,u,rfl,e⟩ | ⟨y,u,rfl,e⟩
  ·exact nomatch e
  ·injection e with e1 _
   subst e1
   cases v <;> rfl
theorem xf (prog:Program) (w:World) (i:Int) (t:Tok):(cK prog w).is (.inl i) (.int i t)=true:=tE i t
theorem vO (prog:Program) (w:World) (x:Str) (t:Tok):(cK prog w).is (.inr x) (.str x t)=true:=AH x t
end L2
namespace L2
open PySem PySem.Spec PyProof.Rows
inductive V where
 | non | bl (b:Bool) | int (i:Int) | str (x:Str) | byt (b:Array UInt8) | flt (b:UInt64) | ref (a:Addr) | ty (n:String)
 deriving DecidableEq
def RelV:V→Value→Prop
 | .non,u=>u=Value.none
 | .bl b,u=>u=Value.bool b
 | .int i,u=>∃t,u=Value.int i t
 | .str x,u=>∃t,u=Value.str x t
 | .byt b,u=>∃t,u=Value.bytes b t
 | .flt b,u=>∃t,u=Value.float b t
 | .ref a,u=>u=Value.ref a
 | .ty n,u=>u=Value.type n
abbrev Vals:List V→List Value→Prop:=Paired RelV
theorem Vals.length {xs:List V} {us:List Value} (r:Vals xs us):xs.length=us.length:=Paired.length r
theorem Vals.get:∀{xs:List V} {us:List Value} {i:Nat} {x:V},Vals xs us→xs[i]?=some x→∃u,us[i]?=some u∧RelV x u
 | _,_,_,_,.nil,e=>by simp at e
 | _,_,0,_,.cons r _,e=>by simp at e;subst e;exact⟨_,rfl,r⟩
 | _,_,i + 1,x,.cons _ t,e=>by
  obtain⟨u,h1,h2⟩:=Vals.get (i:=i) (x:=x) t (by simpa using e)
  exact⟨u,by simpa using h1,h2⟩
theorem Vals.set {x:V} {u:Value} (r:RelV x u):∀{xs:List V} {us:List Value} (i:Nat),Vals xs us→Vals (xs.set i x) (us.set i u)
 | _,_,_,.nil=>.nil
 | _,_,0,.cons _ t=>.cons r t
 | _,_,i + 1,.cons q t=>.cons q (Vals.set r i t)
theorem Vals.append:∀{xs ys:List V} {us ws:List Value},Vals xs us→Vals ys ws→Vals (xs ++ ys) (us ++ ws)
 | _,_,_,_,.nil,s=>s
 | _,_,_,_,.cons r t,s=>.cons r (Vals.append t s)
theorem Vals.take:∀{xs:List V} {us:List Value} (n:Nat),Vals xs us→Vals (xs.take n) (us.take n)
 | _,_,0,_=>.nil
 | _,_,_ + 1,.nil=>.nil
 | _,_,n + 1,.cons r t=>.cons r (Vals.take n t)
theorem Vals.drop:∀{xs:List V} {us:List Value} (n:Nat),Vals xs us→Vals (xs.drop n) (us.drop n)
 | _,_,0,r=>r
 | _,_,_ + 1,.nil=>.nil
 | _,_,n + 1,.cons _ t=>Vals.drop n t
def wM:Option V→Option Value→Prop
 | some v,some u=>RelV v u
 | none,none=>True
 | _,_=>False
def KV {κ:Type}:List (κ×V)→List (κ×Value)→Prop:=Paired fun (p:κ×V) (q:κ×Value)=>p.1=q.1∧RelV p.2 q.2
def kV:Key→V
 | .inl i=>.int i
 | .inr x=>.str x
inductive HO where
 | lst (xs:List V)
 | tup (xs:List V)
 | dK (kvs:List (Key×V)) | dT (kvs:List (List Key×V))
 | set (S:Int→Bool) (n:Nat)
 | ins (C dx:Addr) (fs:List (Str×V))
 | own (x:Addr)
 | xd (fs:List (Str×V))
 | met (f x:Addr)
 | rng (lo hi:Int)
 | frz (o:Obj) (u:HO)
 | DS (ps:Array Value)
 | ext (φ:Heap→Prop)
abbrev Hp:=Addr→Option HO
def upd (H:Hp) (a:Addr) (o:HO):Hp:=fun b=>if b=a then some o else H b
theorem aG {H:Hp} {a:Addr} {o:HO}:upd H a o a=some o:=by unfold upd;rw [Mw rfl]
theorem aC {H:Hp} {a b:Addr} {o:HO} (h:b≠a):upd H a o b=H b:=by unfold upd;rw [Ms h]
theorem bY {H:Hp} {a b:Addr} {o:HO} (h:H a=some o) (h':H b=none):a≠b:=by
 intro e;subst e;rw [h] at h';cases h'
def uo (h:Heap) (a:Addr) (its:Array Value):Prop:=∃o,h.get? a=some o∧o.cls=.type "tuple"∧(∃n,o.data=.seq its n)∧o.dict=none
theorem uo.tup {h:Heap} {a:Addr} {its:Array Value} (x:uo h a its):IsTup h a its:=let ⟨o,e,c,d,_⟩:=x;⟨o,e,c,d⟩
theorem uo.new (h:Heap) (its:Array Value):uo (h.push { cls:=.type "tuple",data:=.seq its }) h.objs.size its:=⟨_,MM _ rfl,rfl,⟨_,rfl⟩,rfl⟩
section
variable (P:Program) (w:World)
def bO (H:Hp) (h:Heap) (a:Addr):HO→Prop
 | .lst xs=>xs.length≤sizeLine∧∃(its:List Value) (n:Nat),Vals xs its∧h.get? a=some { cls:=.type "list",data:=.seq its.toArray n }
 | .tup xs=>xs.length≤sizeLine∧∃its:List Value,Vals xs its∧uo h a its.toArray
 | .dK kvs=>kvs.length≤sizeLine∧(a == sysModules)=false∧∃vs,KV kvs vs∧h.DictOf (cK P w) a vs
 | .dT kvs=>kvs.length≤sizeLine∧(a == sysModules)=false∧∃xs:List (List Key×Addr×Value),
   Paired (fun (p:List Key×V) (q:List Key×Addr×Value)=>p.1=q.1∧H q.2.1=some (.tup (p.1.map kV))∧RelV p.2 q.2.2) kvs xs ∧
   ∃o es ep,h.get? a=some o∧o.ExactDict∧o.data=.dict es ep∧es.toList=xs.map (entryOfKey (tupleKind (cK P w)))∧(xs.map (·.1)).Nodup
 | .set S n=>h.SetOf (intKind P w) a S n
 | .ins C dx fs=>H dx=some (.own a)∧fs.length≤1000∧dx≠a∧h.get? a=some (PySem.W.instObj C dx) ∧
   ∃mA,h.Ns1 dx mA∧(∀f,wM (fs.lookup f) (mA f))∧PySem.Within mA (fs.map (·.1))
 | .own _=>∃o,h.get? a=some o
 | .xd fs=>∃mA,h.Ns1 a mA∧∀f,wM (fs.lookup f) (mA f)
 | .rng lo hi=>∃t u v,h.get? a=some { cls:=.type "range",data:=.fields #[.int lo t,.int hi u,.int 1 v] }
 | .frz o u=>h.get? a=some o∧bO H h a u
 | .DS ps=>h.get? a=some { cls:=.none,data:=.fields ps }
 | .met f x=>h.get? a=some (PySem.W.methodObj (.ref f) (.ref x))
 | .ext φ=>φ h∧(∃o,h.get? a=some o)∧∀h1 h2:Heap,φ h1→(∀o,h1.get? a=some o→h2.get? a=some o)→φ h2
def lB (H:Hp) (h:Heap):Prop:=∀a o,H a=some o→bO P w H h a o
end
section
variable {P:Program} {w:World} {H H':Hp} {h h':Heap} {a:Addr} {o:HO}
theorem bO.lt (x:bO P w H h a o):a < h.objs.size:=by
 cases o with
 | lst xs=>obtain⟨_,_,_,_,e⟩:=x;exact MI e
 | tup xs=>obtain⟨_,_,_,p⟩:=x;exact p.tup.lt
 | dK kvs=>obtain⟨_,_,_,_,o,_,_,e,_⟩:=x;exact MI e
 | dT kvs=>obtain⟨_,_,_,_,o,_,_,e,_⟩:=x;exact MI e
 | set S n=>obtain⟨o,_,_,_,e,_⟩:=x;exact MI e
 | ins C dx fs=>obtain⟨_,_,_,e,_⟩:=x;exact MI e
 | own y=>obtain⟨_,e⟩:=x;exact MI e
 | xd fs=>obtain⟨_,⟨_,_,_,e,_⟩,_⟩:=x;exact MI e
 | rng lo hi=>obtain⟨_,_,_,e⟩:=x;exact MI e
 | frz ob u=>obtain⟨e,_⟩:=x;exact MI e
 | DS ps=>exact MI (show h.get? a=some _ from x)
 | met f y=>exact MI (show h.get? a=some _ from x)
 | ext φ=>obtain⟨_,⟨_,e⟩,_⟩:=x;exact MI e
theorem Paired.Ks {α β:Type} {F G:α→β→Prop}:∀{l₁:List α} {l₂:List β},Paired F l₁ l₂→(∀a b,F a b→G a b)→Paired G l₁ l₂
 | _,_,.nil,_=>.nil
 | _,_,.cons r t,f=>.cons (f _ _ r) (Paired.Ks t f)
theorem bO.pX (x:bO P w H h a o) (k:∀b u,(b=a∨H b=some (.own a))→h.get? b=some u→h'.get? b=some u)
  (ho:∀b,H b=some (.own a)→H' b=some (.own a)) (ht:∀b xs,H b=some (.tup xs)→H' b=some (.tup xs)):bO P w H' h' a o:=by
 induction o with
 | lst xs=>obtain⟨z,its,n,r,e⟩:=x;exact⟨z,its,n,r,k _ _ (.inl rfl) e⟩
 | tup xs=>obtain⟨z,its,r,ob,e,c⟩:=x;exact⟨z,its,r,ob,k _ _ (.inl rfl) e,c⟩
 | dK kvs=>obtain⟨z,y,vs,r,ob,es,ep,e,c⟩:=x;exact⟨z,y,vs,r,ob,es,ep,k _ _ (.inl rfl) e,c⟩
 | dT kvs =>
  obtain⟨z,y,xs,r,ob,es,ep,e,c⟩:=x
  exact⟨z,y,xs,Paired.Ks r fun p q z=>⟨z.1,ht _ _ z.2.1,z.2.2⟩,ob,es,ep,k _ _ (.inl rfl) e,c⟩
 | set S n=>obtain⟨ob,es,ep,t,e,c⟩:=x;exact⟨ob,es,ep,t,k _ _ (.inl rfl) e,c⟩
 | ins C dx fs =>
  obtain⟨d,z,ne,e,mA,⟨od,es,ep,e2,c⟩,r⟩:=x
  exact⟨ho _ d,z,ne,k _ _ (.inl rfl) e,mA,⟨od,es,ep,k _ _ (.inr d) e2,c⟩,r⟩
 | own y=>obtain⟨ob,e⟩:=x;exact⟨ob,k _ _ (.inl rfl) e⟩
 | xd fs=>obtain⟨mA,⟨od,es,ep,e,c⟩,r⟩:=x;exact⟨mA,⟨od,es,ep,k _ _ (.inl rfl) e,c⟩,r⟩
 | rng lo hi=>obtain⟨t,u,v,e⟩:=x;exact⟨t,u,v,k _ _ (.inl rfl) e⟩
 | frz ob u ih=>obtain⟨e,q⟩:=x;exact⟨k _ _ (.inl rfl) e,ih q⟩
 | DS ps =>
  have e:h.get? a=some { cls:=.none,data:=.fields ps }:=x
  show h'.get? a=some { cls:=.none,data:=.fields ps }
  exact k a _ (.inl rfl) e
 | met f y =>
  have e:h.get? a=some (PySem.W.methodObj (.ref f) (.ref y)):=x
  show h'.get? a=some (PySem.W.methodObj (.ref f) (.ref y))
  exact k a _ (.inl rfl) e
 | ext φ=>obtain⟨p,⟨o,e⟩,st⟩:=x;exact⟨st _ _ p fun o q=>k _ _ (.inl rfl) q,⟨o,k _ _ (.inl rfl) e⟩,st⟩
theorem lB.lt (x:lB P w H h) (e:H a=some o):a < h.objs.size:=(x a o e).lt
theorem lB.fresh (x:lB P w H h) (e:h.objs.size≤a):H a=none:=by
 cases q:H a with
 | none=>rfl
 | some u=>exact absurd (MD (x.lt q) e) (Nat.lt_irrefl _)
theorem lB.kept (x:lB P w H h) (k:∀b u,h.get? b=some u→h'.get? b=some u):lB P w H h':=fun a o e =>
 (x a o e).pX (fun b u _ q=>k b u q) (fun _ q=>q) fun _ _ q=>q
theorem lB.laid (x:lB P w H h) (k:∀b u,h.get? b=some u→h'.get? b=some u) (hp:h.objs.size≤a) (new:bO P w (upd H a o) h' a o):lB P w (upd H a o) h':=fun b u e=>by
 have hn:=x.fresh hp
 by_cases hb:b=a
 ·subst hb;rw [aG] at e;cases e;exact new
 ·rw [aC hb] at e
  exact (x b u e).pX (fun c v _ q=>k c v q) (fun c q=>by rw [aC (bY q hn)];exact q) fun c xs q=>by rw [aC (bY q hn)];exact q
end
def Rd (H:Hp) (a:Addr) (u:HO):Prop:=H a=some u∨∃o,H a=some (.frz o u)
theorem Rd.ok {P:Program} {w:World} {H:Hp} {h:Heap} {a:Addr} {u:HO} (r:Rd H a u) (x:lB P w H h):bO P w H h a u:=by
 rcases r with r | ⟨o,r⟩
 ·exact x a u r
 ·obtain⟨_,q⟩:=x a _ r
  exact q
def J3:Option HO→Prop
 | some (.lst _)=>True
 | some (.dK _)=>True
 | some (.dT _)=>True
 | some (.set _ _)=>True
 | some (.ins _ _ _)=>True
 | some (.ext _)=>True
 | _=>False
section
variable {P:Program} {w:World} {H:Hp} {h h':Heap} {x e:Addr} {o':HO}
theorem lB.write (ok:lB P w H h) (mu:J3 (H x)) (he:e=x∨H e=some (.own x)) (k:∀b u,b≠e→h.get? b=some u→h'.get? b=some u) (heo:∃u,h'.get? e=some u)
  (new:bO P w (upd H x o') h' x o'):lB P w (upd H x o') h':=fun b u q=>by
 have nown:∀c y,H c=some (.own y)→c≠x:=fun c y r z=>by subst z;rw [r] at mu;exact mu
 have ntup:∀c xs,H c=some (.tup xs)→c≠x:=fun c xs r z=>by subst z;rw [r] at mu;exact mu
 by_cases hb:b=x
 ·subst hb;rw [aG] at q;cases q;exact new
 ·rw [aC hb] at q
  by_cases hbe:b=e
  ·have q':H b=some (.own x):=by
    rcases he with z | z
    ·exact absurd (hbe.trans z) hb
    ·rw [hbe];exact z
   rw [q] at q';cases q'
   obtain⟨v,hv⟩:=heo
   exact⟨v,by rw [hbe];exact hv⟩
  ·refine (ok b u q).pX (fun c v hc r=>k c v ?_ r) (fun c r=>by rw [aC (nown c b r)];exact r) fun c xs r=>by rw [aC (ntup c xs r)];exact r
   rcases hc with rfl | hc
   ·exact hbe
   ·rintro rfl
    rcases he with z | z
    ·exact nown c b hc z
    ·rw [hc] at z;cases z;exact hb rfl
end
structure Un (fs ex:List Addr) (H H':Hp) (h h':Heap):Prop where
 keep:∀b o,h.get? b=some o→H b=none→b∉fs→b∉ex→h'.get? b=some o
 slot:∀b o,h.get? b=some o→H b=none→b∈fs→b∉ex→∃sl,h'.get? b=some { o with slots:=sl }
 free:∀b o,h.get? b=some o→H b=none→b∉ex→H' b=none
 there:∀b o,h.get? b=some o→b∉ex→∃o',h'.get? b=some o'
 tups:∀b xs,H b=some (.tup xs)→H' b=some (.tup xs)
 frzs:∀b o u,H b=some (.frz o u)→H' b=some (.frz o u)
 tbls:∀b ps,H b=some (.DS ps)→∃more,H' b=some (.DS (ps ++ more))
section
variable {fs fs' ex ex':List Addr} {H H1 H2:Hp} {h h1 h2 h':Heap} {a x e:Addr} {o:HO}
theorem Un.any (u:Un fs ex H H1 h h1) {b:Addr} {ob:Obj} (q:h.get? b=some ob) (n:H b=none) (hx:b∉ex):∃sl,h1.get? b=some { ob with slots:=sl }:=by
 by_cases hb:b∈fs
 ·exact u.slot b ob q n hb hx
 ·exact⟨ob.slots,u.keep b ob q n hb hx⟩
theorem Un.kept (k:∀b u,h.get? b=some u→h'.get? b=some u):Un fs ex H H h h' :=
 ⟨fun b ob q _ _ _=>k b ob q,fun b ob q _ _ _=>⟨ob.slots,k b ob q⟩,fun _ _ _ n _=>n,fun b ob q _=>⟨ob,k b ob q⟩,fun _ _ q=>q,fun _ _ _ q=>q,fun _ ps q=>⟨#[],by rw [q];simp⟩⟩
theorem Un.refl:Un fs ex H H h h:=Un.kept fun _ _ q=>q
theorem Un.laid (k:∀b u,h.get? b=some u→h'.get? b=some u) (hp:h.objs.size≤a) (hn:H a=none):Un fs ex H (upd H a o) h h' where
 keep:=fun b u q _ _ _=>k b u q
 slot:=fun b u q _ _ _=>⟨u.slots,k b u q⟩
 free:=fun b u q n _=>by rw [aC (MR (MD (MI q) hp))];exact n
 there:=fun b u q _=>⟨u,k b u q⟩
 tups:=fun b xs q=>by rw [aC (bY q hn)];exact q
 frzs:=fun b u xs q=>by rw [aC (bY q hn)];exact q
 tbls:=fun b ps q=>⟨#[],by rw [aC (bY q hn),q];simp⟩
theorem Un.write (mu:J3 (H x)) (he:e=x∨H e=some (.own x)) (k:∀b u,b≠e→h.get? b=some u→h'.get? b=some u) (heo:∃u,h'.get? e=some u):Un fs ex H (upd H x o) h h':=by
 have hx:∀b,H b=none→b≠x:=fun b n z=>by subst z;rw [n] at mu;exact mu
 have hb:∀b,H b=none→b≠e:=fun b n z=>by
  subst z
  rcases he with r | r
  ·exact hx b n r
  ·rw [n] at r;cases r
 have hm:∀b u,H b=some u→¬ J3 (some u)→b≠x:=fun b u q nm z=>by subst z;rw [q] at mu;exact nm mu
 refine⟨fun b u q n _ _=>k b u (hb b n) q,fun b u q n _ _=>⟨u.slots,k b u (hb b n) q⟩,fun b u q n _=>by rw [aC (hx b n)];exact n,fun b u q _=>?_,
  fun b xs q=>by rw [aC (hm b _ q fun z=>z)];exact q,fun b u xs q=>by rw [aC (hm b _ q fun z=>z)];exact q,fun b ps q=>⟨#[],by rw [aC (hm b _ q fun z=>z),q];simp⟩⟩
 by_cases hbe:b=e
 ·subst hbe;exact heo
 ·exact⟨u,k b u hbe q⟩
end
def Hy (h:Heap) (H:Hp):List Addr:=(List.range h.objs.size).filter fun a=>(H a).isSome
def vA (h:Heap) (H:Hp):Heap:=PySem.W.hideAll h (Hy h H)
theorem A0 (h:Heap) (H:Hp):(vA h H).objs.size=h.objs.size:=PySem.W.hideAll_size _ _
theorem Br {h:Heap} {H:Hp} {b:Addr} {o:Obj} (e:h.get? b=some o) (n:H b=none):(vA h H).get? b=some o :=
 PySem.W.hideAll_get _ e fun hm=>by
  have q:(H b).isSome=true:=(List.mem_filter.mp hm).2
  rw [n] at q;simp at q
theorem Fi {h:Heap} {H:Hp} {b:Addr} {o:Obj} (e:(vA h H).get? b=some o):h.get? b=some o∧H b=none:=by
 have e':h.get? b=some o:=PySem.W.of_hideAll (Hy h H) e
 refine⟨e',?_⟩
 cases q:H b with
 | none=>rfl
 | some x =>
  have hm:b∈Hy h H:=List.mem_filter.mpr ⟨Na.mpr (MI e'),by simp [q]⟩
  have z:(vA h H).get? b=none:=PySem.W.hideAll_none (Hy h H) hm
  rw [z] at e;cases e
end L2
namespace L2
open PySem PySem.Spec PyProof.Rows
structure Mod (K:PySem.W.Frag) (mg:Str→Option Value) (base:Heap):Prop where
 kin:K.In base
 glob:base.Ns mainGlobals mg
 blt:∃mb,base.Ns builtinsNs mb∧∀x:Str,x≠"__name__"→mb x=bootBuiltins x
 nolimit:base.NoLimit
structure Cx where
 prog:Program
 w:World
 K:PySem.W.Frag
 mg:Str→Option Value
 base:Heap
 A:Around
 N:List Str
 s₀:Shared
 H₀:Hp
 env:Env
 outer:List Env
 stack:List Env
 ex:List Addr
 fn:Str→Bool
 calm:Bool
 pn:List (Addr×Obj)
 xe:Value→Shared→Prop
def pR (l:List Env):List Addr:=l.filterMap (·.frame)
abbrev Cx.fs (X:Cx):List Addr:=pR X.outer
def xA (sc:Scope) (x:Str):Prop:=sc.names.lookup x=some .local∨sc.names.lookup x=some .cell∨sc.names.lookup x=some .free
def Loc (sc:Scope) (x:Str):Prop:=sc.names.lookup x=some .local∨sc.names.lookup x=some .cell
def Look (env:Env) (h:Heap) (m:Str→Option Value) (x:Str) (u:Value):Prop :=
 (env.kindOf x=some .local∧m x=some u)∨((env.kindOf x=some .cell∨env.kindOf x=some .free)∧∃c,env.cells.lookup x=some c∧h.IsCell c (some u))
structure Cx.Ok (X:Cx):Prop where
 mod:Mod X.K X.mg X.base
 kind:X.env.scope.kind=.function
 glob:X.env.globals=mainGlobals
 blt:X.env.builtins=builtinsNs
 above:X.s₀.heap.objs.size≤X.env.locals
 inj:∀x y c,X.env.cells.lookup x=some c→X.env.cells.lookup y=some c→x=y
 has:∀x,(X.env.kindOf x=some .cell∨X.env.kindOf x=some .free)→∃c,X.env.cells.lookup x=some c
 cab:∀x c,X.fn x=true→X.env.cells.lookup x=some c→X.s₀.heap.objs.size≤c
 hd:X.calm=true→X.A.handled=none
 frames:X.A.frames=some X.stack
 stk:X.stack=X.outer∨(X.stack=X.env :: X.outer∧X.env.frame=some X.env.locals)
 exf:∀b∈X.ex,b≠X.env.locals∧∀x c,X.env.cells.lookup x=some c→c≠b
 bs:∀b o,X.base.get? b=some o→X.s₀.heap.get? b=some o∧X.H₀ b=none
 bsz:X.base.objs.size≤X.s₀.heap.objs.size
 noex:∀b o,X.base.get? b=some o→b∉X.ex
 exfs:∀b∈X.ex,b∉X.fs
 nc:X.s₀.heap.FunFrames X.base X.outer
 frf:∀b∈X.fs,X.H₀ b=none
structure Inv (X:Cx) (pins:List (Addr×Obj)) (σ:List (Option V)) (H:Hp) (s:Shared):Prop where
 ok:X.Ok
 os:s.os=X.s₀.os
 bare:AllBare s.gens
 base:Un X.fs X.ex X.H₀ H X.s₀.heap s.heap
 loc:∃m,s.heap.Ns X.env.locals m∧∀(i:Nat) (x:Str) (v:V),X.N[i]?=some x→σ[i]?=some (some v)→xA X.env.scope x→∃u,RelV v u∧Look X.env s.heap m x u
 cell:∀x c,X.env.cells.lookup x=some c→∃v,s.heap.IsCell c v
 free:H X.env.locals=none
 freeC:∀x c,X.env.cells.lookup x=some c→H c=none
 pin:∀p∈X.pn ++ pins,s.heap.get? p.1=some p.2∧H p.1=none∧p.1≠X.env.locals∧p.1∉X.fs∧∀v,p.2.data≠.cell v
 hok:lB X.prog X.w H s.heap
 len:σ.length=X.N.length
section
variable {X:Cx} {pins:List (Addr×Obj)} {σ:List (Option V)} {H H':Hp} {s:Shared} {h':Heap}
theorem Cx.Ok.Lx (ok:X.Ok) {b:Addr} {o:Obj} (e:X.base.get? b=some o):b∉X.fs:=fun hb=>by
 have:=(ok.nc.mem hb).1
 rw [e] at this;cases this
theorem Inv.bs (I:Inv X pins σ H s):∀b o,X.base.get? b=some o→s.heap.get? b=some o∧H b=none:=fun b o e =>
 ⟨I.base.keep b o (I.ok.bs b o e).1 (I.ok.bs b o e).2 (I.ok.Lx e) (I.ok.noex b o e),I.base.free b o (I.ok.bs b o e).1 (I.ok.bs b o e).2 (I.ok.noex b o e)⟩
theorem Inv.bk (I:Inv X pins σ H s):∀b o,X.base.get? b=some o→s.heap.get? b=some o:=fun b o e=>(I.bs b o e).1
theorem Inv.mod (I:Inv X pins σ H s):Mod X.K X.mg X.base:=I.ok.mod
theorem Inv.tD (I:Inv X pins σ H s):X.K.In s.heap:=I.ok.mod.kin.keeps I.bk
theorem Inv.lt (I:Inv X pins σ H s):X.env.locals < s.heap.objs.size:=let ⟨_,hn,_⟩:=I.loc;hn.lt
theorem Inv.sz (I:Inv X pins σ H s):X.s₀.heap.objs.size≤s.heap.objs.size:=M7 I.ok.above (Nat.le_of_lt I.lt)
theorem Inv.K1 (I:Inv X pins σ H s) {a:Addr} (h:s.heap.objs.size≤a):a∉X.fs:=fun hb=>by
 obtain⟨_,o,ho,_⟩:=I.ok.nc.mem hb
 exact absurd (MD (MI ho) (M7 I.sz h)) (Nat.lt_irrefl _)
theorem Inv.Gn (I:Inv X pins σ H s):∀x c,X.env.cells.lookup x=some c→c≠X.env.locals:=fun x c e z=>by
 obtain⟨v,o,ho,hd⟩:=I.cell x c e
 obtain⟨m,⟨o',es,ep,ho',hd',_⟩,_⟩:=I.loc
 rw [z,ho'] at ho;cases ho;rw [hd'] at hd;cases hd
theorem Inv.nc (I:Inv X pins σ H s):s.heap.FunFrames X.base X.outer:=by
 have all:∀(l:List Env),(∀b∈pR l,b∈X.fs)→X.s₀.heap.FunFrames X.base l→s.heap.FunFrames X.base l:=by
  intro l
  induction l with
  | nil=>intro _ _;trivial
  | cons env r ih =>
   intro hs hl
   obtain⟨hk,⟨L,o,hf,hn,ho,hd⟩,hr⟩:=hl
   have hL:L∈X.fs:=hs L (by unfold pR;rw [List.filterMap_cons,hf];exact MN)
   obtain⟨sl,e⟩:=I.base.slot L o ho (I.ok.frf L hL) hL fun z=>I.ok.exfs L z hL
   exact⟨hk,⟨L,_,hf,hn,e,hd⟩,ih (fun b hb=>hs b (by unfold pR;rw [List.filterMap_cons,hf];exact ME _ hb)) hr⟩
 exact all X.outer (fun _ hb=>hb) I.ok.nc
theorem Inv.stack (I:Inv X pins σ H s):s.heap.FunFrames X.base X.stack:=by
 rcases I.ok.stk with e | ⟨e,hf⟩
 ·rw [e];exact I.nc
 ·rw [e]
  obtain⟨m,hn,_⟩:=I.loc
  refine .cons (by rw [I.ok.kind];decide) hf hn ?_ I.nc
  exact Heap.get?_none_of_le (M7 I.ok.bsz I.ok.above)
theorem Inv.oi (I:Inv X pins σ H s):∀b∈pR X.stack,b∈X.env.locals :: X.fs:=fun b hb=>by
 rcases I.ok.stk with e | ⟨e,hf⟩
 ·rw [e] at hb;exact ME _ hb
 ·rw [e] at hb
  unfold pR at hb
  rw [List.filterMap_cons,hf] at hb
  exact hb
theorem Inv.vG (I:Inv X pins σ H s):∀b∈pR X.stack,H b=none:=fun b hb=>by
 rcases ML.mp (I.oi b hb) with e | hb
 ·rw [e];exact I.free
 ·obtain⟨_,o,ho,_⟩:=I.ok.nc.mem hb
  exact I.base.free b o ho (I.ok.frf b hb) fun z=>I.ok.exfs b z hb
theorem Inv.step {g':Array GenState} {t':Nat} {d':Drawn} {ch:List Addr} (I:Inv X pins σ H s)
  (hch:∀b∈ch,(b∈X.ex∨X.s₀.heap.objs.size≤b)∧b≠X.env.locals∧(∀x c,X.env.cells.lookup x=some c→c≠b)∧∀p∈X.pn ++ pins,p.1≠b)
  (keep:∀b o,b≠X.env.locals→b∉X.fs→b∉ch→s.heap.get? b=some o→H b=none→h'.get? b=some o)
  (slot:∀b o,b≠X.env.locals→b∈X.fs→b∉ch→s.heap.get? b=some o→H b=none→∃sl,h'.get? b=some { o with slots:=sl }) (free:∀b o,b∉ch→s.heap.get? b=some o→H b=none→H' b=none)
  (there:∀b o,b∉ch→s.heap.get? b=some o→∃o',h'.get? b=some o')
  (tups:∀b xs,H b=some (.tup xs)→H' b=some (.tup xs)) (frzs:∀b o u,H b=some (.frz o u)→H' b=some (.frz o u)) (tbls:∀b ps,H b=some (.DS ps)→∃more,H' b=some (.DS (ps ++ more)))
  (ns:∀m,s.heap.Ns X.env.locals m→h'.Ns X.env.locals m) (hok:lB X.prog X.w H' h') (hg:AllBare g') :
  Inv X pins σ H' { s with heap:=h',gens:=g',drawn:=d',toks:=t' }:=by
 have neL:∀b o,X.s₀.heap.get? b=some o→b≠X.env.locals:=fun b o e=>MR (MD (MI e) I.ok.above)
 have neC:∀b o,X.s₀.heap.get? b=some o→b∉X.ex→b∉ch:=fun b o e hx hb=>by
  rcases (hch b hb).1 with z | z
  ·exact hx z
  ·exact absurd (MD (MI e) z) (Nat.lt_irrefl _)
 have cellK:∀x c,X.env.cells.lookup x=some c→∀v,s.heap.IsCell c v→h'.IsCell c v:=fun x c e v ⟨o,ho,hd⟩=>by
  have nch:c∉ch:=fun z=>(hch c z).2.2.1 x c e rfl
  by_cases hc:c∈X.fs
  ·obtain⟨sl,q⟩:=slot c o (I.Gn x c e) hc nch ho (I.freeC x c e)
   exact⟨_,q,hd⟩
  ·exact⟨o,keep c o (I.Gn x c e) hc nch ho (I.freeC x c e),hd⟩
 refine⟨I.ok,I.os,hg,⟨fun b o e n hb hx=>?_,fun b o e n hb hx=>?_,fun b o e n hx=>?_,fun b o e hx=>?_,fun b xs e=>tups b xs (I.base.tups b xs e),fun b o xs e=>frzs b o xs (I.base.frzs b o xs e),fun b ps e=>?_⟩,?_,fun x c e=>?_,?_,fun x c e=>?_,fun p hp=>?_,hok,I.len⟩
 ·exact keep b o (neL b o e) hb (neC b o e hx) (I.base.keep b o e n hb hx) (I.base.free b o e n hx)
 ·obtain⟨sl,e1⟩:=I.base.slot b o e n hb hx
  obtain⟨sl',e2⟩:=slot b _ (neL b o e) hb (neC b o e hx) e1 (I.base.free b o e n hx)
  exact⟨sl',e2⟩
 ·obtain⟨o',e1⟩:=I.base.there b o e hx
  exact free b o' (neC b o e hx) e1 (I.base.free b o e n hx)
 ·obtain⟨o',e1⟩:=I.base.there b o e hx
  exact there b o' (neC b o e hx) e1
 ·obtain⟨m1,e1⟩:=I.base.tbls b ps e
  obtain⟨m2,e2⟩:=tbls b _ e1
  exact⟨m1 ++ m2,by rw [e2,Array.append_assoc]⟩
 ·obtain⟨m,hn,hl⟩:=I.loc
  refine⟨m,ns m hn,fun i x v e1 e2 e3=>?_⟩
  obtain⟨u,r,l⟩:=hl i x v e1 e2 e3
  refine⟨u,r,?_⟩
  rcases l with l | ⟨k,c,e,z⟩
  ·exact .inl l
  ·exact .inr ⟨k,c,e,cellK x c e _ z⟩
 ·obtain⟨v,z⟩:=I.cell x c e
  exact⟨v,cellK x c e v z⟩
 ·obtain⟨m,⟨o,_,_,ho,_⟩,_⟩:=I.loc
  exact free _ o (fun z=>(hch _ z).2.1 rfl) ho I.free
 ·obtain⟨v,o,ho,hd⟩:=I.cell x c e
  exact free c o (fun z=>(hch c z).2.2.1 x c e rfl) ho (I.freeC x c e)
 ·obtain⟨e,n,ne,nf,d⟩:=I.pin p hp
  have nch:p.1∉ch:=fun z=>(hch p.1 z).2.2.2 p hp rfl
  exact⟨keep p.1 p.2 ne nf nch e n,free p.1 p.2 nch e n,ne,nf,d⟩
theorem Inv.un {t':Nat} (I:Inv X pins σ H s) (u:Un X.fs [] H H' s.heap h') (hok:lB X.prog X.w H' h'):Inv X pins σ H' { s with heap:=h',toks:=t' }:=by
 obtain⟨m,⟨o,es,ep,ho,r⟩,_⟩:=id I.loc
 obtain⟨sl,hL⟩:=u.any ho I.free (by simp)
 exact I.step (g':=s.gens) (d':=s.drawn) (ch:=[]) (fun _ z=>nomatch z) (fun b o _ hb _ e n=>u.keep b o e n hb (by simp)) (fun b o _ hb _ e n=>u.slot b o e n hb (by simp)) (fun b o _ e n=>u.free b o e n (by simp)) (fun b o _ e=>u.there b o e (by simp)) u.tups u.frzs u.tbls (fun m' hm=>by
  obtain⟨o',es',ep',ho',r'⟩:=hm
  rw [ho] at ho';cases ho'
  exact⟨_,es',ep',hL,r'⟩) hok I.bare
theorem Inv.call {g':Array GenState} {t':Nat} {d':Drawn} {ch:List Addr} (I:Inv X pins σ H s) (u:Un (pR X.stack) ch H H' s.heap h') (hok:lB X.prog X.w H' h') (hg:AllBare g')
  (hch:∀b∈ch,(b∈X.ex∨X.s₀.heap.objs.size≤b)∧b≠X.env.locals∧(∀x c,X.env.cells.lookup x=some c→c≠b)∧∀p∈X.pn ++ pins,p.1≠b) :
  Inv X pins σ H' { s with heap:=h',gens:=g',drawn:=d',toks:=t' }:=by
 obtain⟨m,⟨o,es,ep,ho,r⟩,_⟩:=id I.loc
 obtain⟨sl,hL⟩:=u.any ho I.free fun z=>(hch _ z).2.1 rfl
 exact I.step (ch:=ch) hch (fun b o hL hb hc e n=>u.keep b o e n (fun z=>(ML.mp (I.oi b z)).elim hL hb) hc) (fun b o _ _ hc e n=>u.any e n hc) (fun b o hc e n=>u.free b o e n hc) (fun b o hc e=>u.there b o e hc) u.tups u.frzs u.tbls (fun m' hm=>by
  obtain⟨o',es',ep',ho',r'⟩:=hm
  rw [ho] at ho';cases ho'
  exact⟨_,es',ep',hL,r'⟩) hok hg
theorem Inv.turned {t':Nat} {it:Addr} (I:Inv X pins σ H s) (k:∀b o,b≠it→s.heap.get? b=some o→h'.get? b=some o) (hn:H it=none) (hL:it≠X.env.locals)
  (h1:it∈X.ex∨X.s₀.heap.objs.size≤it) (h2:∀x c,X.env.cells.lookup x=some c→c≠it) (h3:∀p∈X.pn ++ pins,p.1≠it):Inv X pins σ H { s with heap:=h',toks:=t' }:=by
 have nit:∀b u,H b=some u→b≠it:=fun b u e z=>by rw [z,hn] at e;cases e
 refine I.step (g':=s.gens) (d':=s.drawn) (ch:=[it]) (fun b hb=>?_) (fun b o _ _ hc e _=>k b o (fun z=>hc (by simp [z])) e) (fun b o _ _ hc e _=>⟨o.slots,k b o (fun z=>hc (by simp [z])) e⟩) (fun _ _ _ _ n=>n)
  (fun b o hc e=>⟨o,k b o (fun z=>hc (by simp [z])) e⟩) (fun _ _ e=>e) (fun _ _ _ e=>e) (fun b ps e=>⟨#[],by rw [e];simp⟩) (fun m hm=>?_) (fun b u e=>?_) I.bare
 ·have e:b=it:=by simpa using hb
  subst e
  exact⟨h1,hL,h2,h3⟩
 ·obtain⟨o,es,ep,ho,r⟩:=hm
  exact⟨o,es,ep,k _ o (Ne.symm hL) ho,r⟩
 ·refine (I.hok b u e).pX (fun c v hc q=>k c v ?_ q) (fun _ q=>q) fun _ _ q=>q
  rcases hc with z | z
  ·rw [z];exact nit b u e
  ·exact nit c _ z
theorem Inv.tok (I:Inv X pins σ H s) (t:Nat):Inv X pins σ H { s with toks:=t }:=I.un (h':=s.heap) (t':=t) Un.refl I.hok
theorem Inv.kept {t':Nat} (I:Inv X pins σ H s) (k:∀b u,s.heap.get? b=some u→h'.get? b=some u):Inv X pins σ H { s with heap:=h',toks:=t' }:=I.un (Un.kept k) (I.hok.kept k)
theorem Inv.laid {a:Addr} {o:HO} {t':Nat} (I:Inv X pins σ H s) (k:∀b u,s.heap.get? b=some u→h'.get? b=some u) (hp:s.heap.objs.size≤a) (new:bO X.prog X.w (upd H a o) h' a o) :
  Inv X pins σ (upd H a o) { s with heap:=h',toks:=t' }:=I.un (Un.laid k hp (I.hok.fresh hp)) (I.hok.laid k hp new)
theorem Inv.write {x e:Addr} {o:HO} {t':Nat} (I:Inv X pins σ H s) (mu:J3 (H x)) (he:e=x∨H e=some (.own x)) (k:∀b u,b≠e→s.heap.get? b=some u→h'.get? b=some u) (heo:∃u,h'.get? e=some u)
  (new:bO X.prog X.w (upd H x o) h' x o):Inv X pins σ (upd H x o) { s with heap:=h',toks:=t' }:=I.un (Un.write mu he k heo) (I.hok.write mu he k heo new)
theorem Inv.Ad {pins':List (Addr×Obj)} (I:Inv X pins σ H s) (h:∀p∈pins',s.heap.get? p.1=some p.2∧H p.1=none∧p.1≠X.env.locals∧p.1∉X.fs∧∀v,p.2.data≠.cell v):Inv X pins' σ H s :=
 ⟨I.ok,I.os,I.bare,I.base,I.loc,I.cell,I.free,I.freeC,fun p hp=>(MP.mp hp).elim (fun z=>I.pin p (List.mem_append_left _ z)) (h p),I.hok,I.len⟩
theorem wL {N:List Str} (hN:N.Nodup) {i j:Nat} {x:Str} (a:N[i]?=some x) (b:N[j]?=some x):i=j:=by
 obtain⟨h1,e1⟩:=Mo.mp a
 obtain⟨h2,e2⟩:=Mo.mp b
 exact (List.getElem_inj hN).mp (e1.trans e2.symm)
theorem sN {M:Model} {A:Around} {E:Value→Shared→Prop} {i:Nat} {x:Str} {v:V} {u:Value} {Q:Unit→Shared→Prop} (I:Inv X pins σ H s) (hN:X.N.Nodup) (hi:X.N[i]?=some x) (hx:Loc X.env.scope x) (r:RelV v u)
  (h:∀s',Inv X pins (σ.set i (some v)) H s'→(∃a,Heap.SameBut a s.heap s'.heap∧(a=X.env.locals∨X.env.cells.lookup x=some a))→Q () s') (hf:X.fn x=true∨X.env.scope.names.lookup x=some .local:=by first | exact .inl rfl | exact .inr rfl | assumption):wpAny M A (storeName X.env x u) Q E s:=by
 obtain⟨m,hn,hl⟩:=id I.loc
 have hcls:(X.env.scope.kind == .class || (X.env.scope.kind == .module && X.env.locals != X.env.globals))=false:=by rw [I.ok.kind];rfl
 have hiσ:i < σ.length:=by rw [I.len];exact (Mo.mp hi).1
 have Gn:=I.Gn
 have tracked:∀{a:Addr} {h':Heap},(∃o,s.heap.get? a=some o∧H a=none)→Heap.SameBut a s.heap h'→lB X.prog X.w H h':=fun {a h'} ha hs b ob e=>by
  obtain⟨_,_,hfree⟩:=ha
  refine (I.hok b ob e).pX (fun c w' hc q=>(hs.2 c ?_).trans q) (fun _ q=>q) fun _ _ q=>q
  rintro rfl
  rcases hc with rfl | hc
  ·rw [hfree] at e;cases e
  ·rw [hfree] at hc;cases hc
 rcases hx with hk | hk
 ·refine wpAny_storeName_local hk hn (fun h' hn' hs=>?_) hcls
  obtain⟨oL,_,_,hoL,_⟩:=id hn
  refine h _ ⟨I.ok,I.os,I.bare,⟨fun b o e n hb hx=>?_,fun b o e n hb hx=>?_,I.base.free,fun b o e hx=>?_,I.base.tups,I.base.frzs,I.base.tbls⟩,⟨_,hn',fun j y v' e1 e2 e3=>?_⟩,fun y c e=>?_,I.free,I.freeC,fun p hp=>?_,tracked ⟨oL,hoL,I.free⟩ hs,by simpa using I.len⟩ ⟨_,hs,.inl rfl⟩
  ·exact (hs.2 b (MR (MD (MI e) I.ok.above))).trans (I.base.keep b o e n hb hx)
  ·obtain⟨sl,e1⟩:=I.base.slot b o e n hb hx
   exact⟨sl,(hs.2 b (MR (MD (MI e) I.ok.above))).trans e1⟩
  ·obtain⟨o',e1⟩:=I.base.there b o e hx
   exact⟨o',(hs.2 b (MR (MD (MI e) I.ok.above))).trans e1⟩
  ·by_cases hj:j=i
   ·subst hj
    rw [hi] at e1;cases e1
    rw [Mv hiσ] at e2
    cases e2
    exact⟨u,r,.inl ⟨hk,by simp⟩⟩
   ·rw [Mp (Ne.symm hj)] at e2
    obtain⟨u',r',q⟩:=hl j y v' e1 e2 e3
    refine⟨u',r',?_⟩
    rcases q with ⟨k,e⟩ | ⟨k,c,e,z⟩
    ·refine .inl ⟨k,?_⟩
     have:y≠x:=fun e=>hj (wL hN e1 (e▸hi))
     simp [this,e]
    ·exact .inr ⟨k,c,e,z.sameBut hs (Gn y c e)⟩
  ·obtain⟨w',z⟩:=I.cell y c e
   exact⟨w',z.sameBut hs (Gn y c e)⟩
  ·obtain⟨e,n,ne,nf,d⟩:=I.pin p hp
   exact⟨(hs.2 p.1 ne).trans e,n,ne,nf,d⟩
 ·have hfn:X.fn x=true:=by
   rcases hf with z | z
   ·exact z
   ·rw [z] at hk;cases hk
  obtain⟨c,hc⟩:=I.ok.has x (.inl hk)
  obtain⟨w',z⟩:=I.cell x c hc
  refine wpAny_storeName_cell I.ok.kind hk hc z (fun h' hc' hs=>?_)
  obtain⟨oc,hoc,hocd⟩:=id z
  refine h { s with heap:=h' } ⟨I.ok,I.os,I.bare,⟨fun b o e n hb hx=>?_,fun b o e n hb hx=>?_,I.base.free,fun b o e hx=>?_,I.base.tups,I.base.frzs,I.base.tbls⟩,⟨m,hn.sameBut hs (Ne.symm (Gn x c hc)),fun j y v' e1 e2 e3=>?_⟩,fun y c' e=>?_,I.free,I.freeC,fun p hp=>?_,tracked ⟨oc,hoc,I.freeC x c hc⟩ hs,by simpa using I.len⟩ ⟨c,hs,.inr hc⟩
  ·exact (hs.2 b (MR (MD (MI e) (I.ok.cab x c hfn hc)))).trans (I.base.keep b o e n hb hx)
  ·obtain⟨sl,e1⟩:=I.base.slot b o e n hb hx
   exact⟨sl,(hs.2 b (MR (MD (MI e) (I.ok.cab x c hfn hc)))).trans e1⟩
  ·obtain⟨o',e1⟩:=I.base.there b o e hx
   exact⟨o',(hs.2 b (MR (MD (MI e) (I.ok.cab x c hfn hc)))).trans e1⟩
  ·by_cases hj:j=i
   ·subst hj
    rw [hi] at e1;cases e1
    rw [Mv hiσ] at e2
    cases e2
    exact⟨u,r,.inr ⟨.inl hk,c,hc,hc'⟩⟩
   ·rw [Mp (Ne.symm hj)] at e2
    obtain⟨u',r',q⟩:=hl j y v' e1 e2 e3
    refine⟨u',r',?_⟩
    rcases q with q | ⟨k,c',e,z'⟩
    ·exact .inl q
    ·refine .inr ⟨k,c',e,z'.sameBut hs ?_⟩
     rintro rfl
     exact hj (wL hN e1 (I.ok.inj _ _ _ e hc▸hi))
  ·by_cases hcc:c'=c
   ·subst hcc;exact⟨_,hc'⟩
   ·obtain⟨w2,z2⟩:=I.cell y c' e
    exact⟨w2,z2.sameBut hs hcc⟩
  ·obtain⟨e,n,ne,nf,d⟩:=I.pin p hp
   refine⟨(hs.2 p.1 ?_).trans e,n,ne,nf,d⟩
   intro q
   rw [q,hoc] at e
   have q':oc=p.2:=My e
   exact d w' (by rw [← q'];exact hocd)
theorem j3 {M:Model} {A:Around} {E:Value→Shared→Prop} {i:Nat} {x:Str} {v:V} {u:Value} {Q:Unit→Shared→Prop} (I:Inv X pins σ H s) (hN:X.N.Nodup) (hi:X.N[i]?=some x) (hx:Loc X.env.scope x) (r:RelV v u)
  (h:∀s',Inv X pins (σ.set i (some v)) H s'→Q () s') (hf:X.fn x=true∨X.env.scope.names.lookup x=some .local:=by first | exact .inl rfl | exact .inr rfl | assumption):wpAny M A (storeName X.env x u) Q E s :=
 sN I hN hi hx r (fun s' I' _=>h s' I') hf
theorem Inv.BW {s':Shared} {ch:List Addr} (I:Inv X pins σ H s) (ho:s'.os=s.os) (u:Un (pR X.stack) ch H H' s.heap s'.heap) (hok:lB X.prog X.w H' s'.heap) (hg:AllBare s'.gens)
  (hch:∀b∈ch,(b∈X.ex∨X.s₀.heap.objs.size≤b)∧b≠X.env.locals∧(∀x c,X.env.cells.lookup x=some c→c≠b)∧∀p∈X.pn ++ pins,p.1≠b):Inv X pins σ H' s':=by
 obtain⟨h',g',d',t',o'⟩:=s'
 have e:o'=s.os:=ho
 subst e
 exact I.call (g':=g') (t':=t') (d':=d') u hok hg hch
end
abbrev XK:=Value→Option Addr→Hp→Prop
abbrev St:=List (Option V)
abbrev VK:=V→Hp→Prop
abbrev TE:=St→Hp→VK→Prop
abbrev TT:=St→Hp→(Bool→Hp→Prop)→Prop
abbrev TA:=St→Hp→(List V→Hp→Prop)→Prop
structure Ends where
 nx:St→Hp→Prop
 rt:VK
 bk:St→Hp→Prop:=fun _ _=>False
 ct:St→Hp→Prop:=fun _ _=>False
abbrev TS:=Ends→St→Hp→Prop
def EP (X:Cx) (pins:List (Addr×Obj)) (σ:St) (Q:VK) (u:Value) (s':Shared):Prop:=∃v H',Inv X pins σ H' s'∧RelV v u∧Q v H'
def TP (X:Cx) (pins:List (Addr×Obj)) (σ:St) (Q:Bool→Hp→Prop) (b:Bool) (s':Shared):Prop:=∃H',Inv X pins σ H' s'∧Q b H'
def AP (X:Cx) (pins:List (Addr×Obj)) (σ:St) (Q:List V→Hp→Prop) (us:List Value) (s':Shared):Prop:=∃vs H',Inv X pins σ H' s'∧Vals vs us∧Q vs H'
def SP (X:Cx) (pins:List (Addr×Obj)) (D:Ends) (f:Flow) (s':Shared):Prop :=
 match f with
 | .next=>∃σ' H',Inv X pins σ' H' s'∧D.nx σ' H'
 | .brk=>∃σ' H',Inv X pins σ' H' s'∧D.bk σ' H'
 | .cont=>∃σ' H',Inv X pins σ' H' s'∧D.ct σ' H'
 | .ret u=>∃v σ' H',Inv X pins σ' H' s'∧RelV v u∧D.rt v H'
def PE (X:Cx) (e:Expr) (t:TE):Prop :=
 ∀(pins:List (Addr×Obj)) (s:Shared) (σ:St) (H:Hp) (Q:VK),Inv X pins σ H s→t σ H Q→wpAny (model X.prog X.w) X.A (eval e X.env) (EP X pins σ Q) X.xe s
def PT (X:Cx) (e:Expr) (t:TT):Prop :=
 ∀(pins:List (Addr×Obj)) (s:Shared) (σ:St) (H:Hp) (Q:Bool→Hp→Prop),Inv X pins σ H s→t σ H Q→wpAny (model X.prog X.w) X.A (isTrue e X.env (eval e X.env)) (TP X pins σ Q) X.xe s
def PW (X:Cx) (e:Expr) (t:TT):Prop :=
 ∀(whole:Sem Value) (pins:List (Addr×Obj)) (s:Shared) (σ:St) (H:Hp) (Q:Bool→Hp→Prop),Inv X pins σ H s→t σ H Q→wpAny (model X.prog X.w) X.A (isTrue e X.env whole) (TP X pins σ Q) X.xe s
def PA (X:Cx) (es:List Expr) (t:TA):Prop :=
 ∀(pos:Pos) (pins:List (Addr×Obj)) (s:Shared) (σ:St) (H:Hp) (Q:List V→Hp→Prop),Inv X pins σ H s→t σ H Q→wpAny (model X.prog X.w) X.A (spliced (backTo pos (starEach es X.env))) (AP X pins σ Q) X.xe s
def PS (X:Cx) (st:Stmt) (t:TS):Prop :=
 ∀(pins:List (Addr×Obj)) (s:Shared) (σ:St) (H:Hp) (D:Ends),Inv X pins σ H s→t D σ H→wpAny (model X.prog X.w) X.A (exec st X.env) (SP X pins D) X.xe s
def xD (X:Cx) (st:List Stmt) (t:TS):Prop :=
 ∀(pins:List (Addr×Obj)) (s:Shared) (σ:St) (H:Hp) (D:Ends),Inv X pins σ H s→t D σ H→wpAny (model X.prog X.w) X.A (execs st X.env) (SP X pins D) X.xe s
theorem bH {α:Type} {t:Sem α} {Q Q':α→Shared→Prop} {M:Model} {A:Around} {E:Value→Shared→Prop} {s:Shared} (h:wpAny M A t Q E s) (hQ:∀a s,Q a s→Q' a s):wpAny M A t Q' E s:=MO h hQ fun _ _ x=>x
end L2
namespace L2
open PySem PySem.Spec PyProof.Rows
section
variable {X:Cx}
def KZ (i:Nat):TE:=fun σ H Q=>∃v,σ[i]?=some (some v)∧Q v H
def tC (v:V):TE:=fun _ H Q=>Q v H
theorem eB {i:Nat} {x:Str} {pos:Pos} (hN:X.N[i]?=some x) (hv:xA X.env.scope x) (hd:(x == ("__debug__" : Str))=false:=by decide) (hcd:(x == ("__classdict__" : Str))=false:=by decide):PE X (.Name x pos) (KZ i):=by
 intro pins s σ H Q I h
 obtain⟨v,e,h⟩:=h
 obtain⟨m,hn,hl⟩:=I.loc
 obtain⟨u,r,l⟩:=hl i x v hN e hv
 have fin:EP X pins σ Q u s:=⟨v,H,I,r,h⟩
 rcases l with ⟨hk,hm⟩ | ⟨hk,c,hc,hcell⟩
 ·exact wpAny_Name (wpAny_loadName_local I.ok.kind hk hn hm fin) hd
 ·rcases hk with hk | hk
  ·exact wpAny_Name (wpAny_loadName_cell I.ok.kind hk hc hcell fin) hd
  ·exact wpAny_Name (wpAny_loadName_free I.ok.kind hk hc hcell fin hcd) hd
theorem yU {i j pos}:PE X (.Constant (.int i) j pos) (tC (.int i)):=fun _ _ _ H _ I h=>wpAny_Constant_int ⟨.int i,H,I.tok _,⟨_,rfl⟩,h⟩
theorem Kk {b j pos}:PE X (.Constant (.bool b) j pos) (tC (.bl b)):=fun _ _ _ H _ I h=>Constant_bool ⟨.bl b,H,I,rfl,h⟩
theorem Bu {j pos}:PE X (.Constant .none j pos) (tC .non):=fun _ _ _ H _ I h=>Constant_none ⟨.non,H,I,rfl,h⟩
theorem C1 {x j pos}:PE X (.Constant (.str x) j pos) (tC (.str x)):=fun _ _ _ H _ I h=>Calls.Constant_str ⟨.str x,H,I.tok _,⟨_,rfl⟩,h⟩
def Gl (X:Cx) (x:Str):Prop:=X.env.kindOf x=some .globalImplicit
theorem iV {E:Value→Shared→Prop} {pins:List (Addr×Obj)} {s:Shared} {σ:St} {H:Hp} {x:Str} {u:Value} {pos:Pos} {Q:Value→Shared→Prop} (I:Inv X pins σ H s) (hg:Gl X x) (hm:X.mg x=some u) (h:Q u s)
  (hd:(x == ("__debug__" : Str))=false:=by decide):wpAny (model X.prog X.w) X.A (eval (.Name x pos) X.env) Q E s :=
 Calls.Name_function_global I.ok.kind hg (Calls.loadGlobal_global (by rw [I.ok.glob];exact I.mod.glob.keeps I.bk) hm h) hd
theorem lQ {E:Value→Shared→Prop} {pins:List (Addr×Obj)} {s:Shared} {σ:St} {H:Hp} {x:Str} {u:Value} {pos:Pos} {Q:Value→Shared→Prop} (I:Inv X pins σ H s) (hg:Gl X x) (hm:X.mg x=none) (hv:bootBuiltins x=some u) (h:Q u s)
  (hn:x≠"__name__":=by decide) (hd:(x == ("__debug__" : Str))=false:=by decide):wpAny (model X.prog X.w) X.A (eval (.Name x pos) X.env) Q E s:=by
 obtain⟨mb,h1,h2⟩:=I.mod.blt
 exact Calls.Name_function_global I.ok.kind hg (Calls.loadGlobal_builtin (by rw [I.ok.glob];exact I.mod.glob.keeps I.bk) hm (by rw [I.ok.blt];exact h1.keeps I.bk) ((h2 x hn).trans hv) h) hd
theorem ER {x:Str} {v:V} {u:Value} {pos:Pos} (hg:Gl X x) (hm:X.mg x=none) (hv:bootBuiltins x=some u) (r:RelV v u) (hn:x≠"__name__":=by decide) (hd:(x == ("__debug__" : Str))=false:=by decide):PE X (.Name x pos) (tC v) :=
 fun _ _ _ H _ I h=>lQ I hg hm hv ⟨v,H,I,r,h⟩ hn hd
variable {a b:Expr} {ta tb:TE} {pos:Pos}
def tB (t:TE):TT:=fun σ H Q=>t σ H fun x H1=>∃c,x=.bl c∧Q c H1
theorem IB {e:Expr} {t:TE} (h:PE X e t) (he:∀whole,isTrue e X.env whole=(do let v ← whole;standAt e.pos;holding [v] (truthy v)):=by intro _;rfl):PT X e (tB t):=by
 intro pins s σ H Q I hw
 refine isTrue_plain (bH (h pins s σ H _ I hw) fun v s1 ⟨x,H1,I1,r1,q1⟩=>?_) (he _)
 obtain⟨d,rfl,q⟩:=q1
 cases r1
 exact wpAny_truthy_bool ⟨H1,I1,q⟩
variable {tA tB':TT} {rest:List Expr}
def LC (t u:TT):TT:=fun σ H Q=>t σ H fun c H1=>if c=true then u σ H1 Q else Q false H1
def Mj (t u:TT):TT:=fun σ H Q=>t σ H fun c H1=>if c=true then Q true H1 else u σ H1 Q
def LA (t:TT):TT:=fun σ H Q=>t σ H fun c H1=>Q (!c) H1
theorem EA (ha:PT X a tA):PW X (.BoolOp .And [a] pos) tA:=by
 intro wh pins s σ H Q I h
 refine isTrue_and (bH (ha pins s σ H Q I h) fun c s1 e=>?_)
 cases c with
 | true=>exact isTrue_and_nil e
 | false=>exact e
theorem IH (ha:PT X a tA):PW X (.BoolOp .Or [a] pos) tA:=by
 intro wh pins s σ H Q I h
 refine isTrue_or (bH (ha pins s σ H Q I h) fun c s1 e=>?_)
 cases c with
 | false=>exact isTrue_or_nil e
 | true=>exact e
theorem He (ha:PT X a tA) (hb:PW X (.BoolOp .And (b :: rest) pos) tB'):PW X (.BoolOp .And (a :: b :: rest) pos) (LC tA tB'):=by
 intro wh pins s σ H Q I h
 refine isTrue_and (bH (ha pins s σ H _ I h) fun c s1 ⟨H1,I1,q1⟩=>?_)
 cases c with
 | true=>exact hb wh pins s1 σ H1 Q I1 q1
 | false=>exact⟨H1,I1,q1⟩
theorem Kc (ha:PT X a tA) (hb:PW X (.BoolOp .Or (b :: rest) pos) tB'):PW X (.BoolOp .Or (a :: b :: rest) pos) (Mj tA tB'):=by
 intro wh pins s σ H Q I h
 refine isTrue_or (bH (ha pins s σ H _ I h) fun c s1 ⟨H1,I1,q1⟩=>?_)
 cases c with
 | true=>exact⟨H1,I1,q1⟩
 | false=>exact hb wh pins s1 σ H1 Q I1 q1
theorem HF (ha:PT X a tA):PT X (.UnaryOp .Not a pos) (LA tA):=by
 intro pins s σ H Q I h
 exact isTrue_not (ha pins s σ H (fun c H1=>Q (!c) H1) I h)
def Ju (ta tb:TE):TE:=fun σ H Q=>ta σ H fun x H1=>∃c,x=.bl c∧if c=true then tb σ H1 Q else Q (.bl false) H1
def Le (ta tb:TE):TE:=fun σ H Q=>ta σ H fun x H1=>∃c,x=.bl c∧if c=true then Q (.bl true) H1 else tb σ H1 Q
def JS (ta:TE):TE:=fun σ H Q=>ta σ H fun x H1=>∃c,x=.bl c∧Q (.bl (!c)) H1
theorem G8 {op} {t:TE} (h:PE X a t):PE X (.BoolOp op [a] pos) t:=fun pins s σ H Q I hw=>BoolOp_one (h pins s σ H Q I hw)
theorem Io (ha:PE X a ta) (hb:PE X (.BoolOp .And (b :: rest) pos) tb):PE X (.BoolOp .And (a :: b :: rest) pos) (Ju ta tb):=by
 intro pins s σ H Q I h
 refine BoolOp_and (bH (ha pins s σ H _ I h) fun v s1 hq0=>?_)
 obtain⟨x,H1,I1,r1,q1⟩:=hq0
 obtain⟨c,rfl,q1⟩:=q1
 cases r1
 refine wpAny_truthy_bool ?_
 cases c with
 | true=>exact hb pins s1 σ H1 Q I1 q1
 | false=>exact⟨.bl false,H1,I1,rfl,q1⟩
theorem JA (ha:PE X a ta) (hb:PE X (.BoolOp .Or (b :: rest) pos) tb):PE X (.BoolOp .Or (a :: b :: rest) pos) (Le ta tb):=by
 intro pins s σ H Q I h
 refine BoolOp_or (bH (ha pins s σ H _ I h) fun v s1 hq0=>?_)
 obtain⟨x,H1,I1,r1,q1⟩:=hq0
 obtain⟨c,rfl,q1⟩:=q1
 cases r1
 refine wpAny_truthy_bool ?_
 cases c with
 | false=>exact hb pins s1 σ H1 Q I1 q1
 | true=>exact⟨.bl true,H1,I1,rfl,q1⟩
theorem G3 (ha:PE X a ta):PE X (.UnaryOp .Not a pos) (JS ta):=by
 intro pins s σ H Q I h
 refine UnaryOp_ (bH (ha pins s σ H _ I h) fun v s1 hq0=>?_)
 obtain⟨x,H1,I1,r1,q1⟩:=hq0
 obtain⟨c,rfl,q1⟩:=q1
 cases r1
 exact not_of (wpAny_truthy_bool ⟨.bl (!c),H1,I1,rfl,q1⟩)
def Mb (t:TT) (ta tb:TE):TE:=fun σ H Q=>t σ H fun c H1=>if c=true then ta σ H1 Q else tb σ H1 Q
theorem Bp {c:Expr} (hc:PT X c tA) (ha:PE X a ta) (hb:PE X b tb):PE X (.IfExp c a b pos) (Mb tA ta tb):=by
 intro pins s σ H Q I h
 refine wpAny_IfExp (bH (hc pins s σ H _ I h) fun d s1 ⟨H1,I1,q1⟩=>?_)
 cases d with
 | true=>exact ha pins s1 σ H1 Q I1 q1
 | false=>exact hb pins s1 σ H1 Q I1 q1
end
end L2
namespace L2
open PySem PySem.Spec PyProof.Rows
def fL (K:PySem.W.Frag) (H:Hp) (a:Addr) (xs:List V):Prop :=
 Rd H a (.lst xs) ∨
  ∃(o:Obj) (its:Array Value) (n:Nat),K.lookup a=some o∧o.cls=.type "list"∧o.dict=none∧o.data=.seq its n∧its.size≤sizeLine∧Vals xs its.toList
def jv (K:PySem.W.Frag) (H:Hp) (a:Addr) (xs:List V):Prop :=
 Rd H a (.tup xs) ∨
  ∃(o:Obj) (its:Array Value) (n:Nat),K.lookup a=some o∧o.cls=.type "tuple"∧o.data=.seq its n∧its.size≤sizeLine∧Vals xs its.toList∧o.dict=none
def K6:Value→Option V
 | .none=>some .non
 | .bool b=>some (.bl b)
 | .int i _=>some (.int i)
 | .str x _=>some (.str x)
 | .bytes b _=>some (.byt b)
 | .float b _=>some (.flt b)
 | .ref a=>some (.ref a)
 | .type n=>some (.ty n)
 | _=>none
theorem RelV.abs {x:V} {u:Value} (r:RelV x u):K6 u=some x:=by
 cases x with
 | non=>cases r;rfl
 | bl _=>cases r;rfl
 | int _=>obtain⟨t,rfl⟩:=r;rfl
 | str _=>obtain⟨t,rfl⟩:=r;rfl
 | byt _=>obtain⟨t,rfl⟩:=r;rfl
 | flt _=>obtain⟨t,rfl⟩:=r;rfl
 | ref _=>cases r;rfl
 | ty _=>cases r;rfl
theorem RelV.inj {x y:V} {u:Value} (r:RelV x u) (q:RelV y u):x=y:=My (r.abs.symm.trans q.abs)
theorem Vals.inj:∀{xs ys:List V} {us:List Value},Vals xs us→Vals ys us→xs=ys
 | _,_,_,.nil,.nil=>rfl
 | _,_,_,.cons r t,.cons r' t'=>by rw [r.inj r',Vals.inj t t']
section
variable {X:Cx} {pins:List (Addr×Obj)} {σ:St} {H:Hp} {s:Shared} {a:Addr} {xs ys:List V}
theorem fL.of {K:PySem.W.Frag} (h:H a=some (.lst xs)):fL K H a xs:=.inl (.inl h)
theorem jv.of {K:PySem.W.Frag} (h:H a=some (.tup xs)):jv K H a xs:=.inl (.inl h)
theorem Inv.list (I:Inv X pins σ H s) (h:fL X.K H a xs):∃its:List Value,Vals xs its∧PlainL s.heap a its.toArray∧xs.length≤sizeLine:=by
 rcases h with h | ⟨o,its,n,hk,hc,hd,hs,hz,r⟩
 ·obtain⟨z,its,n,r,e⟩:=h.ok I.hok
  exact⟨its,r,⟨_,n,e,rfl,rfl,rfl⟩,z⟩
 ·refine⟨its.toList,r,⟨o,n,I.tD a o hk,hc,hd,by simpa using hs⟩,?_⟩
  have e:=r.length
  simp only [Array.length_toList] at e
  omega
theorem Inv.tuple (I:Inv X pins σ H s) (h:jv X.K H a xs):∃its:List Value,Vals xs its∧IsTup s.heap a its.toArray∧xs.length≤sizeLine:=by
 rcases h with h | ⟨o,its,n,hk,hc,hs,hz,r,_⟩
 ·obtain⟨z,its,r,p⟩:=h.ok I.hok
  exact⟨its,r,p.tup,z⟩
 ·refine⟨its.toList,r,⟨o,I.tD a o hk,hc,n,by simpa using hs⟩,?_⟩
  have e:=r.length
  simp only [Array.length_toList] at e
  omega
theorem Inv.rq (I:Inv X pins σ H s) (h:fL X.K H a xs) (h':fL X.K H a ys):xs=ys:=by
 obtain⟨its,r,⟨o,n,e,_,_,d⟩,_⟩:=I.list h
 obtain⟨its',r',⟨o',n',e',_,_,d'⟩,_⟩:=I.list h'
 rw [e] at e';cases e'
 rw [d] at d'
 injection d' with d1 _
 have:its=its':=by simpa using congrArg Array.toList d1
 subst this
 exact r.inj r'
theorem Inv.nC (I:Inv X pins σ H s) (h:jv X.K H a xs) (h':jv X.K H a ys):xs=ys:=by
 obtain⟨its,r,⟨o,e,_,n,d⟩,_⟩:=I.tuple h
 obtain⟨its',r',⟨o',e',_,n',d'⟩,_⟩:=I.tuple h'
 rw [e] at e';cases e'
 rw [d] at d'
 injection d' with d1 _
 have:its=its':=by simpa using congrArg Array.toList d1
 subst this
 exact r.inj r'
end
abbrev Cx.cw (X:Cx) (E:Value→Shared→Prop):Cx:={ X with xe:=E }
abbrev Cx.oZ (X:Cx):Cx:=X.cw fun _ _=>False
theorem Cx.Ok.cw {X:Cx} (ok:X.Ok) (E:Value→Shared→Prop):(X.cw E).Ok :=
 ⟨ok.mod,ok.kind,ok.glob,ok.blt,ok.above,ok.inj,ok.has,ok.cab,ok.hd,ok.frames,ok.stk,ok.exf,ok.bs,ok.bsz,ok.noex,ok.exfs,ok.nc,ok.frf⟩
theorem Cx.Ok.bG {X:Cx} {E:Value→Shared→Prop} (ok:(X.cw E).Ok):X.Ok :=
 ⟨ok.mod,ok.kind,ok.glob,ok.blt,ok.above,ok.inj,ok.has,ok.cab,ok.hd,ok.frames,ok.stk,ok.exf,ok.bs,ok.bsz,ok.noex,ok.exfs,ok.nc,ok.frf⟩
section
variable {X:Cx} {pins:List (Addr×Obj)} {σ:St} {H:Hp} {s:Shared} {E:Value→Shared→Prop}
theorem Inv.cw (I:Inv X pins σ H s) (E:Value→Shared→Prop):Inv (X.cw E) pins σ H s:=⟨I.ok.cw E,I.os,I.bare,I.base,I.loc,I.cell,I.free,I.freeC,I.pin,I.hok,I.len⟩
theorem Inv.bG (I:Inv (X.cw E) pins σ H s):Inv X pins σ H s:=⟨I.ok.bG,I.os,I.bare,I.base,I.loc,I.cell,I.free,I.freeC,I.pin,I.hok,I.len⟩
theorem SP.bG {D:Ends} {f:Flow} {s':Shared} (h:SP (X.cw E) pins D f s'):SP X pins D f s':=by
 cases f with
 | next=>obtain⟨σ',H',I,q⟩:=h;exact⟨σ',H',I.bG,q⟩
 | brk=>obtain⟨σ',H',I,q⟩:=h;exact⟨σ',H',I.bG,q⟩
 | cont=>obtain⟨σ',H',I,q⟩:=h;exact⟨σ',H',I.bG,q⟩
 | ret u=>obtain⟨v,σ',H',I,r,q⟩:=h;exact⟨v,σ',H',I.bG,r,q⟩
theorem xD.oZ {st:List Stmt} {t:TS} (h:xD X.oZ st t):xD X st t:=fun pins s σ H D I hw =>
 MO (h pins s σ H D (I.cw _) hw) (fun _ _ q=>q.bG) fun _ _ z=>False.elim z
end
section
variable {X:Cx} {st:Stmt} {rest:List Stmt} {t u:TS} {e:Expr} {te:TE} {pos:Pos}
def JJ:TS:=fun D σ H=>D.nx σ H
def Ls (t u:TS):TS:=fun D σ H=>t { D with nx:=u D } σ H
theorem Fc:xD X [] JJ:=fun _ _ σ H _ I h=>wpAny_execs_nil ⟨σ,H,I,h⟩
theorem xE (h1:PS X st t) (h2:xD X rest u):xD X (st :: rest) (Ls t u):=by
 intro pins s σ H D I h
 refine wpAny_execs_cons (bH (h1 pins s σ H { D with nx:=u D } I h) fun f s1 q=>?_)
 cases f with
 | next =>
  obtain⟨σ',H',I',q⟩:=q
  exact h2 pins s1 σ' H' D I' q
 | ret v=>exact q
 | brk=>exact q
 | cont=>exact q
theorem uq (h1:PS X st t):xD X [st] t:=by
 intro pins s σ H D I h
 refine wpAny_execs_cons (bH (h1 pins s σ H D I h) fun f s1 q=>?_)
 cases f with
 | next=>exact wpAny_execs_nil q
 | ret v=>exact q
 | brk=>exact q
 | cont=>exact q
def Hq:TS:=fun D σ H=>D.bk σ H
theorem DV:PS X (.Break pos) Hq:=fun _ _ σ H _ I h=>wpAny_Break ⟨σ,H,I,h⟩
theorem Inv.quiet {pins:List (Addr×Obj)} {σ:St} {H:Hp} {s:Shared} (I:Inv X pins σ H s):interactive X.env=false:=by simp [interactive,I.ok.kind]
def JE (te:TE):TS:=fun D σ H=>te σ H fun _ H1=>D.nx σ H1
theorem vb (he:PE X e te) (hs:swapsWith e none pos.line X.env=pure false:=by rfl):PS X (.Expr e pos) (JE te):=by
 intro pins s σ H D I h
 exact wpAny_Expr_any (bH (he pins s σ H _ I h) fun v s1 ⟨x,H1,I1,r1,q1⟩=>⟨σ,H1,I1,q1⟩) I.quiet hs
def K3 (te:TE):TS:=fun D σ H=>te σ H D.rt
theorem u9 (he:PE X e te):PS X (.Return (some e) pos) (K3 te):=by
 intro pins s σ H D I h
 exact wpAny_Return_some (bH (he pins s σ H _ I h) fun v s1 ⟨x,H1,I1,r1,q1⟩=>⟨x,σ,H1,I1,r1,q1⟩)
def Lh (c:TT) (t u:TS):TS:=fun D σ H=>c σ H fun b H1=>if b=true then t D σ H1 else u D σ H1
theorem GJ {c:Expr} {a b:List Stmt} {tc:TT} (hc:PT X c tc) (ha:xD X a t) (hb:xD X b u):PS X (.If c a b pos) (Lh tc t u):=by
 intro pins s σ H D I h
 refine wpAny_If (bH (hc pins s σ H _ I h) fun d s1 ⟨H1,I1,q1⟩=>?_)
 cases d with
 | true=>exact ha pins s1 σ H1 D I1 q1
 | false=>exact hb pins s1 σ H1 D I1 q1
end
abbrev TG:=V→St→Hp→(St→Hp→Prop)→Prop
abbrev E3:=List V→St→Hp→(St→Hp→Prop)→Prop
def PG (X:Cx) (target:Expr) (t:TG):Prop :=
 ∀(pins:List (Addr×Obj)) (s:Shared) (σ:St) (H:Hp) (v:V) (u:Value) (Q:St→Hp→Prop),Inv X pins σ H s→RelV v u→t v σ H Q →
  wpAny (model X.prog X.w) X.A (assign target X.env u) (fun _ s'=>∃σ' H',Inv X pins σ' H' s'∧Q σ' H') X.xe s
def Jj (X:Cx) (ts:List Expr) (t:E3):Prop :=
 ∀(pins:List (Addr×Obj)) (s:Shared) (σ:St) (H:Hp) (vs:List V) (us:List Value) (Q:St→Hp→Prop),Inv X pins σ H s→Vals vs us→t vs σ H Q →
  wpAny (model X.prog X.w) X.A (assignInOrder ((assignEach ts X.env).map (·.2)) us) (fun _ s'=>∃σ' H',Inv X pins σ' H' s'∧Q σ' H') X.xe s
abbrev GS:=V→V→V→Hp→(Hp→Prop)→Prop
def Hx (X:Cx) (t:GS):Prop :=
 ∀(pins:List (Addr×Obj)) (s:Shared) (σ:St) (H:Hp) (o i v:V) (ov iv u:Value) (Q:Hp→Prop),Inv X pins σ H s→RelV o ov→RelV i iv→RelV v u→t o i v H Q →
  wpAny (model X.prog X.w) X.A (setItem ov iv u) (fun _ s'=>∃H',Inv X pins σ H' s'∧Q H') X.xe s
abbrev K7:=V→V→Hp→VK→Prop
def LP (X:Cx) (op:Operator) (t:K7):Prop :=
 ∀(pins:List (Addr×Obj)) (s:Shared) (σ:St) (H:Hp) (x y:V) (v u:Value) (Q:VK),Inv X pins σ H s→RelV x v→RelV y u→t x y H Q →
  wpAny (model X.prog X.w) X.A (inplaceOp op v u) (EP X pins σ Q) X.xe s
section
variable {X:Cx} {pos:Pos}
def Gv (i:Nat):TG:=fun v σ H Q=>Q (σ.set i (some v)) H
theorem EL {i:Nat} {x:Str} (hN:X.N.Nodup) (hi:X.N[i]?=some x) (hx:Loc X.env.scope x) (hf:X.fn x=true∨X.env.scope.names.lookup x=some .local:=by first | exact .inl rfl | exact .inr rfl | assumption):PG X (.Name x pos) (Gv i):=by
 intro pins s σ H v u Q I r h
 exact wpAny_assign_Name (j3 I hN hi hx r (fun s' I'=>⟨_,H,I',h⟩) hf)
def LI:E3:=fun vs σ H Q=>vs=[]∧Q σ H
def Ki (t:TG) (u:E3):E3:=fun vs σ H Q=>∃v r,vs=v :: r∧t v σ H fun σ' H'=>u r σ' H' Q
theorem EV:Jj X [] LI:=by
 intro pins s σ H vs us Q I r h
 obtain⟨e,h⟩:=h
 subst e
 cases r
 exact assignInOrder_nil ⟨σ,H,I,h⟩
theorem Cb {e:Expr} {es:List Expr} {t:TG} {u:E3} (h1:PG X e t) (h2:Jj X es u)
  (hs:(assignEach (e :: es) X.env).map (·.2)=assign e X.env :: (assignEach es X.env).map (·.2):=by rfl):Jj X (e :: es) (Ki t u):=by
 intro pins s σ H vs us Q I r h
 obtain⟨v,vr,e1,h⟩:=h
 subst e1
 cases r with
 | cons r rr =>
  rw [hs]
  refine assignInOrder_cons (bH (h1 pins s σ H _ _ _ I r h) fun _ s1 ⟨σ1,H1,I1,q1⟩=>?_)
  exact h2 pins s1 σ1 H1 _ _ Q I1 rr q1
def LF (K:PySem.W.Frag) (n:Nat) (t:E3):TG:=fun v σ H Q=>∃a xs,v=.ref a∧jv K H a xs∧xs.length=n∧t xs σ H Q
theorem GR {es:List Expr} {k:Nat} {t:E3} {n:Nat} (hc:X.calm=true) (h:Jj X es t)
  (hn:(assignEach es X.env).length=n:=by rfl) (hst:(assignEach es X.env).findIdx? (·.1)=none:=by rfl):PG X (.Tuple es k pos) (LF X.K n t):=by
 intro pins s σ H v u Q I r hw
 obtain⟨a,xs,e1,hq,hl,hw⟩:=hw
 subst e1
 cases r
 obtain⟨its,rv,ht,hz⟩:=I.tuple hq
 refine assign_Tuple_tuple (I.ok.hd hc) ht (by simp [hn,← hl,rv.length]) hst fun h' hx=>?_
 have I1:Inv X pins σ H { s with heap:=h' }:=I.kept (t':=s.toks) fun b o e=>hx b o (MR (MI e)) e
 exact h pins _ σ H xs _ Q I1 (by simpa using rv) hw
def LH (to ti:TE) (t:GS):TG:=fun v σ H Q=>to σ H fun o H1=>ti σ H1 fun i H2=>t o i v H2 fun H3=>Q σ H3
theorem Dd {o i:Expr} {to ti:TE} {t:GS} (ho:PE X o to) (hi:PE X i ti) (hs:Hx X t)
  (ha:∀v,assign (.Subscript o i pos) X.env v=(do
   let ov ← holding [v] (eval o X.env)
   let iv ← holding [v,ov] (eval i X.env)
   standAt pos
   holding [v,ov,iv] (setItem ov iv v)
   release [v,ov,iv] []):=by intro _;rfl):PG X (.Subscript o i pos) (LH to ti t):=by
 intro pins s σ H v u Q I r h
 rw [ha]
 refine Mn (wpAny_holding (bH (ho pins s σ H _ I h) fun ov s1 hq0=>?_))
 obtain⟨x,H1,I1,r1,q1⟩:=hq0
 refine Mn (wpAny_holding (bH (hi pins s1 σ H1 _ I1 q1) fun iv s2 hq0=>?_))
 obtain⟨y,H2,I2,r2,q2⟩:=hq0
 refine Mn (wpAny_standAt (Mn (wpAny_holding (bH (hs pins s2 σ H2 x y v ov iv u _ I2 r1 r2 r q2) fun _ s3 ⟨H3,I3,q3⟩=>?_))))
 exact wpAny_release ⟨σ,H3,I3,q3⟩
def Hn (te:TE) (g:TG):TS:=fun D σ H=>te σ H fun x H1=>g x σ H1 D.nx
theorem zh {tg e:Expr} {te:TE} {g:TG} (he:PE X e te) (hg:PG X tg g) (hs:swapsWithSole [tg] e pos.line X.env=pure false:=by rfl) (hw:swappedStores [tg] e X.env=pure none:=by rfl)
  (h1:(assignEach [tg] X.env).map (·.2)=[assign tg X.env]:=by rfl):PS X (.Assign [tg] e pos) (Hn te g):=by
 intro pins s σ H D I h
 refine wpAny_Assign_stores (bH (he pins s σ H _ I h) fun v s1 hq0=>?_) hs hw
 obtain⟨x,H1,I1,r1,q1⟩:=hq0
 rw [h1]
 exact bH (hg pins s1 σ H1 x v _ I1 r1 q1) fun _ s2 q=>q
theorem oq {i:Nat} {x:Str} {e:Expr} {te:TE} {pos':Pos} (hN:X.N.Nodup) (hi:X.N[i]?=some x) (hx:Loc X.env.scope x) (he:PE X e te) (hs:swapsWith e (some (.Name x pos')) pos.line X.env=pure false:=by rfl) (hf:X.fn x=true∨X.env.scope.names.lookup x=some .local:=by first | exact .inl rfl | exact .inr rfl | assumption) :
  PS X (.Assign [.Name x pos'] e pos) (Hn te (Gv i)):=by
 intro pins s σ H D I h
 refine wpAny_Assign_Name (bH (he pins s σ H _ I h) fun v s1 hq0=>?_) hs
 obtain⟨y,H1,I1,r1,q1⟩:=hq0
 exact j3 I1 hN hi hx r1 (fun s2 I2=>⟨_,H1,I2,q1⟩) hf
def KY (i:Nat) (te:TE) (ti:K7):TS:=fun D σ H=>∃x,σ[i]?=some (some x)∧te σ H fun y H1=>ti x y H1 fun z H2=>D.nx (σ.set i (some z)) H2
theorem HN {i:Nat} {x:Str} {e:Expr} {te:TE} {op:Operator} {ti:K7} {pos':Pos} (hN:X.N.Nodup) (hi:X.N[i]?=some x) (hx:Loc X.env.scope x) (he:PE X e te) (ho:LP X op ti) (hf:X.fn x=true∨X.env.scope.names.lookup x=some .local:=by first | exact .inl rfl | exact .inr rfl | assumption) :
  PS X (.AugAssign (.Name x pos') op e pos) (KY i te ti):=by
 intro pins s σ H D I h
 obtain⟨v,e1,h⟩:=h
 obtain⟨m,hn,hl⟩:=I.loc
 have vis:xA X.env.scope x:=by rcases hx with k | k;exact .inl k;exact .inr (.inl k)
 obtain⟨u,r,l⟩:=hl i x v hi e1 vis
 refine wpAny_AugAssign_Name ?_
 have go:wpAny (model X.prog X.w) X.A (eval e X.env) (fun w s₂=>wpAny (model X.prog X.w) X.A (inplaceOp op u w) (fun r s₃=>wpAny (model X.prog X.w) X.A (storeName X.env x r) (fun _=>SP X pins D .next) X.xe s₃) X.xe s₂) X.xe s:=by
  refine bH (he pins s σ H _ I h) fun w s1 hq0=>?_
  obtain⟨y,H1,I1,r1,q1⟩:=hq0
  refine bH (ho pins s1 σ H1 v y u w _ I1 r r1 q1) fun z s2 hq0=>?_
  obtain⟨zv,H2,I2,r2,q2⟩:=hq0
  exact j3 I2 hN hi hx r2 (fun s3 I3=>⟨_,H2,I3,q2⟩) hf
 rcases l with ⟨hk,hm⟩ | ⟨hk,c,hc,hcell⟩
 ·exact wpAny_loadName_local I.ok.kind hk hn hm go
 ·rcases hk with hk | hk
  ·exact wpAny_loadName_cell I.ok.kind hk hc hcell go
  ·rcases hx with k | k
   ·have:X.env.scope.names.lookup x=some .free:=hk
    rw [k] at this;cases this
   ·have:X.env.scope.names.lookup x=some .free:=hk
    rw [k] at this;cases this
end
section
variable {X:Cx} {pos:Pos}
def HD (c:TT) (tb:TS):TS:=fun D σ H=>∃W:Nat→St→Hp→Prop,(∃m,W m σ H)∧∀m σ H,W m σ H →
 c σ H fun b H1=>if b=true then ∃N:St→Hp→Prop,(∀σ' H',N σ' H'→∃m',m' < m∧W m' σ' H')∧tb { D with nx:=N,ct:=N,bk:=D.nx } σ H1 else D.nx σ H1
theorem xH {c:Expr} {body:List Stmt} {tc:TT} {tb:TS} (hp:PassesOwn (model X.prog X.w) X.A X.env X.xe) (hc:PT X c tc) (hb:xD X body tb):PS X (.While c body [] pos) (HD tc tb):=by
 intro pins s σ H D I h
 obtain⟨W,⟨m0,w0⟩,turn⟩:=h
 refine wpAny_While (codeAny_whileLoop (fun n s'=>∃σ' H',Inv X pins σ' H' s'∧W n σ' H') ?_ m0 ⟨σ,H,I,w0⟩)
 rintro n s1 ⟨σ1,H1,I1,w1⟩
 refine wpAny_passesOwn hp (bH (hc pins s1 σ1 H1 _ I1 (turn n σ1 H1 w1)) fun b s2 ⟨H2,I2,q2⟩=>?_)
 cases b with
 | true =>
  obtain⟨N,hN,q2⟩:=q2
  rw [Mw rfl]
  refine wpAny_passesOwn hp (bH (hb pins s2 σ1 H2 _ I2 q2) fun f s3 q3=>?_)
  cases f with
  | next =>
   obtain⟨σ3,H3,I3,n3⟩:=q3
   obtain⟨m',hm,w3⟩:=hN σ3 H3 n3
   exact⟨m',hm,σ3,H3,I3,w3⟩
  | cont =>
   obtain⟨σ3,H3,I3,n3⟩:=q3
   obtain⟨m',hm,w3⟩:=hN σ3 H3 n3
   exact⟨m',hm,σ3,H3,I3,w3⟩
  | brk=>exact q3
  | ret v=>exact q3
 | false =>
  rw [Ms Bool.false_ne_true]
  exact wpAny_execs_nil ⟨σ1,H2,I2,q2⟩
end
structure It where
 go:Nat→Hp→Prop
 yld:Nat→Hp→V→Hp→Prop
 stop:Nat→Hp→Prop
def lZ (X:Cx) (pins:List (Addr×Obj)) (H:Hp) (b:Addr):Prop :=
 H b=none∧b≠X.env.locals∧b∉X.fs∧(b∈X.ex∨X.s₀.heap.objs.size≤b)∧(∀x c,X.env.cells.lookup x=some c→c≠b)∧∀p∈X.pn ++ pins,p.1≠b
theorem Inv.Be {X:Cx} {pins:List (Addr×Obj)} {σ:St} {H H':Hp} {s:Shared} {b:Addr} (I:Inv X pins σ H s) (hb:s.heap.objs.size≤b) (hn:H' b=none):lZ X pins H' b:=by
 refine⟨hn,Nat.ne_of_gt (MD I.lt hb),I.K1 hb,.inr (M7 I.sz hb),fun x c e z=>?_,fun p hp z=>?_⟩
 ·obtain⟨v,q⟩:=I.cell x c e
  exact absurd (MD q.lt (by rw [z];exact hb)) (Nat.lt_irrefl _)
 ·exact absurd (MD (MI (I.pin p hp).1) (by rw [z];exact hb)) (Nat.lt_irrefl _)
structure Turn (P:Program) (w:World) (K:PySem.W.Frag) (tg:Expr) (J:It) (fp:List Addr) (it:Addr) (tn:Nat→Heap→Prop):Prop where
 mem:it∈fp
 obj:∀i h,tn i h→∀b∈fp,∃o,h.get? b=some o∧∀v,o.data≠.cell v
 keep:∀i h h',tn i h→(∀b∈fp,∀o,h.get? b=some o→h'.get? b=some o)→tn i h'
 item:∀(X:Cx),X.prog=P→X.w=w→X.K=K→X.calm=true→∀(i:Nat) (pins:List (Addr×Obj)) (s:Shared) (σ:St) (H:Hp) (E:Value→Shared→Prop),Inv X pins σ H s→(∀b∈fp,lZ X pins H b)→tn i s.heap→J.go i H →
  wpAny (model P w) X.A (pyNext (.ref it)) (fun r s1=>∃u,r=some u ∧
   wpAny (model P w) X.A (letOwnedTupleGo tg (.ref it) u) (fun _ s2=>∃x H',Inv X pins σ H' s2∧RelV x u∧J.yld i H x H'∧tn (i + 1) s2.heap∧∀b∈fp,H' b=none) E s1) E s
 done:∀(X:Cx),X.prog=P→X.w=w→X.K=K→X.calm=true→∀(i:Nat) (pins:List (Addr×Obj)) (s:Shared) (σ:St) (H:Hp) (E:Value→Shared→Prop),Inv X pins σ H s→(∀b∈fp,lZ X pins H b)→tn i s.heap→J.stop i H →
  wpAny (model P w) X.A (pyNext (.ref it)) (fun r s1=>r=none∧Inv X pins σ H s1) E s
 self:∀(A:Around) (i:Nat) (s:Shared) (Q:Value→Shared→Prop) (E:Value→Shared→Prop),tn i s.heap→Q (.ref it) s→wpAny (model P w) A (pyIter (.ref it)) Q E s
abbrev TI:=St→Hp→(It→Hp→Prop)→Prop
def JP (X:Cx) (pins:List (Addr×Obj)) (σ:St) (tg:Expr) (R:It→Hp→Prop) (itv:Value) (s2:Shared):Prop :=
 ∃(it:Addr) (fp:List Addr) (tn:Nat→Heap→Prop) (J:It) (H':Hp),itv=.ref it∧Inv X pins σ H' s2∧Turn X.prog X.w X.K tg J fp it tn∧tn 0 s2.heap∧(∀b∈fp,lZ X pins H' b)∧R J H'
def PI (X:Cx) (tg iter:Expr) (wi:TI):Prop :=
 ∀(pins:List (Addr×Obj)) (s:Shared) (σ:St) (H:Hp) (R:It→Hp→Prop),Inv X pins σ H s→wi σ H R →
  wpAny (model X.prog X.w) X.A (eval iter X.env) (fun v s1=>wpAny (model X.prog X.w) X.A (pyIter v) (JP X pins σ tg R) X.xe s1) X.xe s
theorem vU {M:Model} {A:Around} {E:Value→Shared→Prop} {s:Shared} {tg:Expr} {it:Addr} {u:Value} {o:Obj} {n:String} {vs:Array Value} {Q:Unit→Shared→Prop} (ho:s.heap.get? it=some o) (hc:o.cls=.type n) (hd:o.data=.fields vs)
    (hn:["enumerate","zip","dict_itemiterator","dict_reverseitemiterator","odict_iterator","itertools.zip_longest","itertools.pairwise"].contains n=false) (hQ:Q () s):wpAny M A (letOwnedTupleGo tg (.ref it) u) Q E s:=by
  unfold letOwnedTupleGo
  cases tg <;> first
    | exact Mr hQ
    | (cases u <;> first
        | exact Mr hQ
        | (refine Mn (wpAny_load ho ?_)
           rw [hc,hd]
           show wpAny M A (if (["enumerate","zip","dict_itemiterator","dict_reverseitemiterator","odict_iterator","itertools.zip_longest","itertools.pairwise"].contains n && vs[0]? == some (rawInt _))=true then _ else _) Q E s
           rw [Ms (by intro h;rw [hn,Bool.false_and] at h;cases h)]
           exact Mr hQ))
def Kx (K:PySem.W.Frag) (a:Addr):It :=
 ⟨fun i H=>∃xs x,fL K H a xs∧xs[i]?=some x,fun i H x H'=>H'=H∧∀xs,fL K H a xs→xs[i]?=some x,fun i H=>∃xs,fL K H a xs∧xs.length≤i⟩
def Kw (K:PySem.W.Frag) (a:Addr):It :=
 ⟨fun i H=>∃xs x,jv K H a xs∧xs[i]?=some x,fun i H x H'=>H'=H∧∀xs,jv K H a xs→xs[i]?=some x,fun i H=>∃xs,jv K H a xs∧xs.length≤i⟩
def Gz (lo:Int) (n:Nat):It:=⟨fun i _=>i < n,fun i H x H'=>H'=H∧x=.int (lo + i),fun i _=>n≤i⟩
theorem AI {P:Program} {w:World} {K:PySem.W.Frag} {tg:Expr} (a it:Addr):Turn P w K tg (Kx K a) [it] it (fun i h=>h.IsListIter it a i) where
 mem:=by simp
 obj:=fun i h st b hb=>by
  have e:b=it:=by simpa using hb
  subst e
  obtain⟨o,e,c,d⟩:=st
  exact⟨o,e,fun v z=>by rw [d] at z;cases z⟩
 keep:=fun i h h' st k=>st.at fun o e=>k it (by simp) o e
 item:=by
  intro X hP hw hK hc i pins s σ H E I hf st hg
  subst hP hw hK
  obtain⟨xs,x,hq,hx⟩:=hg
  obtain⟨its,rv,p,hz⟩:=I.list hq
  obtain⟨u,hu,ru⟩:=rv.get hx
  obtain⟨f0,f1,f2,f3,f4,f5⟩:=hf it (by simp)
  refine wpAny_pyNext_list_item st p.isList (x:=u) (by simpa using hu) fun h' st' sb=>?_
  have I1:Inv X pins σ H { s with heap:=h' }:=I.turned (t':=s.toks) (fun b o hb e=>(sb.2 b hb).trans e) f0 f1 f3 f4 f5
  obtain⟨o,e,c,d⟩:=id st'
  exact⟨u,rfl,vU (s:={ s with heap:=h' }) e c d (by decide) ⟨x,H,I1,ru,⟨rfl,fun ys hy=>by rw [I.rq hy hq];exact hx⟩,st',fun b hb=>(hf b hb).1⟩⟩
 done:=by
  intro X hP hw hK hc i pins s σ H E I hf st hg
  subst hP hw hK
  obtain⟨xs,hq,hx⟩:=hg
  obtain⟨its,rv,p,hz⟩:=I.list hq
  obtain⟨f0,f1,f2,f3,f4,f5⟩:=hf it (by simp)
  have hl:=rv.length
  exact wpAny_pyNext_list_end (I.ok.hd hc) st p.isList (by simp;omega) fun h' eb=>⟨rfl,I.turned (t':=s.toks) (fun b o hb e=>eb b o hb e) f0 f1 f3 f4 f5⟩
 self:=fun _ _ _ _ _ st h=>wpAny_pyIter_listiter st h
theorem yj {P:Program} {w:World} {K:PySem.W.Frag} {tg:Expr} (a it:Addr):Turn P w K tg (Kw K a) [it] it (fun i h=>h.IsTupleIter it a i) where
 mem:=by simp
 obj:=fun i h st b hb=>by
  have e:b=it:=by simpa using hb
  subst e
  obtain⟨o,e,c,d⟩:=st
  exact⟨o,e,fun v z=>by rw [d] at z;cases z⟩
 keep:=fun i h h' st k=>st.at fun o e=>k it (by simp) o e
 item:=by
  intro X hP hw hK hc i pins s σ H E I hf st hg
  subst hP hw hK
  obtain⟨xs,x,hq,hx⟩:=hg
  obtain⟨its,rv,p,hz⟩:=I.tuple hq
  obtain⟨u,hu,ru⟩:=rv.get hx
  obtain⟨f0,f1,f2,f3,f4,f5⟩:=hf it (by simp)
  refine wpAny_pyNext_tuple_item st (show s.heap.IsTuple a its.toArray from p) (x:=u) (by simpa using hu) fun h' st' sb=>?_
  have I1:Inv X pins σ H { s with heap:=h' }:=I.turned (t':=s.toks) (fun b o hb e=>(sb.2 b hb).trans e) f0 f1 f3 f4 f5
  obtain⟨o,e,c,d⟩:=id st'
  exact⟨u,rfl,vU (s:={ s with heap:=h' }) e c d (by decide) ⟨x,H,I1,ru,⟨rfl,fun ys hy=>by rw [I.nC hy hq];exact hx⟩,st',fun b hb=>(hf b hb).1⟩⟩
 done:=by
  intro X hP hw hK hc i pins s σ H E I hf st hg
  subst hP hw hK
  obtain⟨xs,hq,hx⟩:=hg
  obtain⟨its,rv,p,hz⟩:=I.tuple hq
  obtain⟨f0,f1,f2,f3,f4,f5⟩:=hf it (by simp)
  have hl:=rv.length
  exact wpAny_pyNext_tuple_end (I.ok.hd hc) st (show s.heap.IsTuple a its.toArray from p) (by simp;omega) fun h' eb=>⟨rfl,I.turned (t':=s.toks) (fun b o hb e=>eb b o hb e) f0 f1 f3 f4 f5⟩
 self:=fun _ _ _ _ _ st h=>wpAny_pyIter_tupleiter st h
theorem yx {P:Program} {w:World} {K:PySem.W.Frag} {tg:Expr} (it:Addr) (lo:Int) (n:Nat):Turn P w K tg (Gz lo n) [it] it (fun i h=>IsRangeIter h it (lo + (i:Nat) * 1) ((n:Int) - (i:Nat)) 1) where
 mem:=by simp
 obj:=fun i h st b hb=>by
  have e:b=it:=by simpa using hb
  subst e
  exact⟨_,st,fun v z=>by
   have z':Data.fields _=Data.cell v:=z
   cases z'⟩
 keep:=fun i h h' st k=>k it (by simp) _ st
 item:=by
  intro X hP hw hK hc i pins s σ H E I hf st hg
  subst hP hw hK
  obtain⟨f0,f1,f2,f3,f4,f5⟩:=hf it (by simp)
  have W:=Walks.range (prog:=X.prog) (w:=X.w) (I.ok.hd hc) it lo 1 n
  refine W.item i s _ _ hg st fun v h' tk hv st' kk=>?_
  obtain⟨t,rfl⟩:=hv
  have I1:Inv X pins σ H { s with heap:=h',toks:=tk }:=I.turned (fun b o hb e=>kk b o (by simpa using hb) e) f0 f1 f3 f4 f5
  refine⟨_,rfl,vU (s:={ s with heap:=h',toks:=tk }) (n:="range_iterator") st' rfl rfl (by decide) ⟨.int (lo + i),H,I1,⟨t,?_⟩,⟨rfl,rfl⟩,st',fun b hb=>(hf b hb).1⟩⟩
  rw [Int.mul_one]
 done:=by
  intro X hP hw hK hc i pins s σ H E I hf st hg
  subst hP hw hK
  obtain⟨f0,f1,f2,f3,f4,f5⟩:=hf it (by simp)
  exact wpAny_pyNext_range_end (I.ok.hd hc) st (by have:n≤i:=hg;omega) fun h' eb=>⟨rfl,I.turned (t':=s.toks) (fun b o hb e=>eb b o hb e) f0 f1 f3 f4 f5⟩
 self:=fun _ _ _ _ _ st h=>wpAny_pyIter_rangeiter st h
end L2
namespace L2
open PySem PySem.Spec PyProof.Rows
section
variable {X:Cx} {tg:Expr}
theorem xl {pins:List (Addr×Obj)} {σ:St} {H:Hp} {s:Shared} {R:It→Hp→Prop} {E:Value→Shared→Prop} {lo hi:Int} {t u v:Tok} {tk:Nat} (I:Inv X pins σ H s) (h1:-(2 ^ 62)≤lo) (h2:lo < 2 ^ 62) (h3:-(2 ^ 62)≤hi) (h4:hi < 2 ^ 62)
  (q:R (Gz lo (hi - lo).toNat) H):wpAny (model X.prog X.w) X.A (pyIter (.ref s.heap.objs.size)) (JP X pins σ tg R) E { s with heap:=s.heap.push { cls:=.type "range",data:=.fields #[.int lo t,.int hi u,.int 1 v] },toks:=tk }:=by
 refine wpAny_pyIter_range (IsRange.new ..) (small_one h1 h2 h3 h4) ?_
 have I1:Inv X pins σ H { s with heap:=s.heap.push { cls:=.type "range",data:=.fields #[.int lo t,.int hi u,.int 1 v] },toks:=tk }:=I.kept fun b o e=>Mz _ e
 refine⟨(s.heap.push { cls:=.type "range",data:=.fields #[.int lo t,.int hi u,.int 1 v] }).objs.size,[(s.heap.push { cls:=.type "range",data:=.fields #[.int lo t,.int hi u,.int 1 v] }).objs.size],_,_,H,rfl,
  I1.kept (t':=tk) fun b o e=>Mz _ e,yx _ lo (hi - lo).toNat,?_,fun b hb=>?_,q⟩
 ·have e1:lo + ((0:Nat):Int) * 1=lo:=by simp
  have e2:(((hi - lo).toNat:Nat):Int) - ((0:Nat):Int)=Builtin.Range.rangeSize lo hi 1:=by rw [rangeSize_one];split <;> omega
  show IsRangeIter _ _ (lo + ((0:Nat):Int) * 1) ((((hi - lo).toNat:Nat):Int) - ((0:Nat):Int)) 1
  rw [e1,e2]
  exact MM _ rfl
 ·have e:b=(s.heap.push { cls:=.type "range",data:=.fields #[.int lo t,.int hi u,.int 1 v] }).objs.size:=by simpa using hb
  subst e
  exact I1.Be (Mx _) (I1.hok.fresh (Mx _))
def Jw (ta:TA):TI:=fun σ H R=>ta σ H fun vs H1=>∃j:Int,vs=[.int j]∧-(2 ^ 62)≤j∧j < 2 ^ 62∧R (Gz 0 j.toNat) H1
def Jn (ta:TA):TI:=fun σ H R=>ta σ H fun vs H1=>∃i j:Int,vs=[.int i,.int j]∧(-(2 ^ 62)≤i∧i < 2 ^ 62∧-(2 ^ 62)≤j∧j < 2 ^ 62)∧R (Gz i (j - i).toNat) H1
theorem kE {a:Expr} {ta:TA} {p pos:Pos} (hg:Gl X "range") (hm:X.mg "range" = none) (ha:PA X [a] ta) (hs:starEach [a] X.env=[(false,eval a X.env)]:=by rfl):PI X tg (.Call (.Name "range" p) [a] [] pos) (Jw ta):=by
 intro pins s σ H R I h
 refine Call_ (lQ I hg hm boot_range (PyProof.Rows.callWith_type1 (bH (ha pos pins s σ H _ I h) fun us s1 ⟨vs,H1,I1,r1,q1⟩=>?_) hs rfl))
 obtain⟨j,e,q1,q2,q⟩:=q1
 subst e
 cases r1 with
 | cons r rr =>
  cases rr
  obtain⟨t,rfl⟩:=r
  exact call_range_1 (xl I1 (by omega) (by omega) q1 q2 (by simpa using q))
theorem Ay {a b:Expr} {ta:TA} {p pos:Pos} (hg:Gl X "range") (hm:X.mg "range" = none) (ha:PA X [a,b] ta) (hs:starEach [a,b] X.env=[(false,eval a X.env),(false,eval b X.env)]:=by rfl) (hs2:starEach [b] X.env=[(false,eval b X.env)]:=by rfl) :
  PI X tg (.Call (.Name "range" p) [a,b] [] pos) (Jn ta):=by
 intro pins s σ H R I h
 refine Call_ (lQ I hg hm boot_range (PyProof.Rows.callWith_type1 (bH (ha pos pins s σ H _ I h) fun us s1 ⟨vs,H1,I1,r1,q1⟩=>?_) (by rw [hs,hs2]) (by rw [hs2];rfl)))
 obtain⟨i,j,e,⟨q1,q2,q3,q4⟩,q⟩:=q1
 subst e
 cases r1 with
 | cons r rr =>
  cases rr with
  | cons r' rr =>
   cases rr
   obtain⟨t,rfl⟩:=r
   obtain⟨t',rfl⟩:=r'
   exact call_range_2 (xl I1 q1 q2 q3 q4 q)
def Lm (wi:TI) (g:TG) (tb:TS):TS:=fun D σ H=>wi σ H fun J H1=>∃W:Nat→Nat→St→Hp→Prop,(∃m,W 0 m σ H1)∧∀i m σ H,W i m σ H →
 (J.stop i H∧D.nx σ H)∨(J.go i H∧∃N:St→Hp→Prop,(∀σ' H',N σ' H'→∃m',m' < m∧W (i + 1) m' σ' H')∧∀x H',J.yld i H x H'→g x σ H' fun σ2 H2=>tb { D with nx:=N,ct:=N,bk:=D.nx } σ2 H2)
def n5 (fp:List Addr) (h:Heap):List (Addr×Obj):=fp.filterMap fun b=>(h.get? b).map fun o=>(b,o)
theorem ft {fp:List Addr} {h:Heap} {b:Addr} {o:Obj} (hb:b∈fp) (e:h.get? b=some o):(b,o)∈n5 fp h:=List.mem_filterMap.mpr ⟨b,hb,by rw [e];rfl⟩
theorem Bg {fp:List Addr} {h:Heap} {p:Addr×Obj} (hp:p∈n5 fp h):p.1∈fp∧h.get? p.1=some p.2:=by
 obtain⟨b,hb,e⟩:=List.mem_filterMap.mp hp
 cases q:h.get? b with
 | none=>rw [q] at e;cases e
 | some o =>
  rw [q] at e
  have e':(b,o)=p:=My e
  subst e'
  exact⟨hb,q⟩
theorem Inv.pinned {pins:List (Addr×Obj)} {σ:St} {H:Hp} {s:Shared} {fp:List Addr} (I:Inv X pins σ H s) (hf:∀b∈fp,lZ X pins H b) (ho:∀b∈fp,∃o,s.heap.get? b=some o∧∀v,o.data≠.cell v):Inv X (pins ++ n5 fp s.heap) σ H s :=
 I.Ad fun p hp=>(MP.mp hp).elim (fun z=>I.pin p (List.mem_append_right _ z)) fun z=>by
  obtain⟨hb,e⟩:=Bg z
  obtain⟨f0,f1,f2,_⟩:=hf p.1 hb
  obtain⟨o,e',d⟩:=ho p.1 hb
  rw [e] at e';cases e'
  exact⟨e,f0,f1,f2,d⟩
theorem Inv.kf {pins pl:List (Addr×Obj)} {σ:St} {H:Hp} {s:Shared} (I:Inv X (pins ++ pl) σ H s):Inv X pins σ H s:=I.Ad fun p hp=>I.pin p (List.mem_append_right _ (List.mem_append_left _ hp))
theorem qF {iter:Expr} {body:List Stmt} {wi:TI} {g:TG} {tb:TS} {pos:Pos} (hp:PassesOwn (model X.prog X.w) X.A X.env X.xe) (hc:X.calm=true) (hi:PI X tg iter wi) (hg:PG X tg g) (hb:xD X body tb)
  (hs:∀x,foldedSetIterable iter X.env x=pure x:=by intro _;rfl):PS X (.For tg iter body [] pos) (Lm wi g tb):=by
 intro pins s σ H D I h
 refine wpAny_For (bH (hi pins s σ H _ I h) fun v s1 h1=>bH h1 fun itv s2 h2=>?_) hs
 obtain⟨it,fp,tn,J,H2,e,I2,T,st2,f2,W,⟨m0,w0⟩,turn⟩:=h2
 subst e
 have stat:∀{H':Hp},(∀b∈fp,H' b=none)→∀b∈fp,lZ X pins H' b:=fun hn b hb=>⟨hn b hb,(f2 b hb).2⟩
 refine codeAny_forLoop_any (fun n s'=>∃i σ' H',Inv X pins σ' H' s'∧tn i s'.heap∧(∀b∈fp,H' b=none)∧W i n σ' H') ?_ m0 ⟨0,σ,H2,I2,st2,fun b hb=>(f2 b hb).1,w0⟩
 rintro n s3 ⟨i,σ3,H3,I3,st3,fr3,w3⟩
 rcases turn i n σ3 H3 w3 with ⟨stop,qn⟩ | ⟨go,N,hN,step⟩
 ·refine wpAny_passesOwn hp (bH (T.done X rfl rfl rfl hc i pins s3 σ3 H3 X.xe I3 (stat fr3) st3 stop) fun r s4 ⟨hr,I4⟩=>?_)
  subst hr
  exact wpAny_execs_nil ⟨σ3,H3,I4,qn⟩
 ·refine wpAny_passesOwn hp (bH (T.item X rfl rfl rfl hc i pins s3 σ3 H3 X.xe I3 (stat fr3) st3 go) fun r s4 ⟨u,hr,h4⟩=>?_)
  subst hr
  refine wpAny_passesOwn hp (bH h4 fun _ s5 hq0=>?_)
  obtain⟨x,H5,I5,r5,y5,st5,fr5⟩:=hq0
  have I5':=I5.pinned (stat fr5) (T.obj _ _ st5)
  refine wpAny_passesOwn hp (bH (hg _ s5 σ3 H5 x u _ I5' r5 (step x H5 y5)) fun _ s6 ⟨σ6,H6,I6,q6⟩=>?_)
  refine wpAny_passesOwn hp (bH (hb _ s6 σ6 H6 _ I6 q6) fun f s7 q7=>?_)
  have again:∀{σ7:St} {H7:Hp},Inv X (pins ++ n5 fp s5.heap) σ7 H7 s7→N σ7 H7→∃m,m < n∧∃i σ' H',Inv X pins σ' H' s7∧tn i s7.heap∧(∀b∈fp,H' b=none)∧W i m σ' H':=fun {σ7 H7} I7 n7=>by
   obtain⟨m',hm,w7⟩:=hN σ7 H7 n7
   refine⟨m',hm,i + 1,σ7,H7,I7.kf,T.keep _ _ _ st5 fun b hb o e=>(I7.pin (b,o) (List.mem_append_right _ (List.mem_append_right _ (ft hb e)))).1,fun b hb=>?_,w7⟩
   obtain⟨o,e,d⟩:=T.obj _ _ st5 b hb
   exact (I7.pin (b,o) (List.mem_append_right _ (List.mem_append_right _ (ft hb e)))).2.1
  cases f with
  | next=>obtain⟨σ7,H7,I7,n7⟩:=q7;exact again I7 n7
  | cont=>obtain⟨σ7,H7,I7,n7⟩:=q7;exact again I7 n7
  | brk=>obtain⟨σ7,H7,I7,q7⟩:=q7;exact⟨σ7,H7,I7.kf,q7⟩
  | ret v=>obtain⟨x7,σ7,H7,I7,r7,q7⟩:=q7;exact⟨x7,σ7,H7,I7.kf,r7,q7⟩
end
end L2
namespace L2
open PySem PySem.Spec PyProof.Rows
abbrev R2:=V→V→Hp→VK→Prop
def iQ (X:Cx) (f:Value→Value→Sem Value) (r:R2):Prop :=
 ∀(pins:List (Addr×Obj)) (s:Shared) (σ:St) (H:Hp) (x y:V) (v u:Value) (Q:VK),Inv X pins σ H s→RelV x v→RelV y u→r x y H Q →
  wpAny (model X.prog X.w) X.A (f v u) (EP X pins σ Q) X.xe s
def Ky (X:Cx) (f:Value→Sem Value) (r:V→Hp→VK→Prop):Prop :=
 ∀(pins:List (Addr×Obj)) (s:Shared) (σ:St) (H:Hp) (x:V) (v:Value) (Q:VK),Inv X pins σ H s→RelV x v→r x H Q →
  wpAny (model X.prog X.w) X.A (f v) (EP X pins σ Q) X.xe s
def dB (X:Cx) (f:Value) (r:List V→Hp→VK→Prop):Prop :=
 ∀(pins:List (Addr×Obj)) (s:Shared) (σ:St) (H:Hp) (xs:List V) (us:List Value) (Q:VK),Inv X pins σ H s→Vals xs us→r xs H Q →
  wpAny (model X.prog X.w) X.A (call f us) (EP X pins σ Q) X.xe s
def Je (r:R2) (ta tb:TE):TE:=fun σ H Q=>ta σ H fun x H1=>tb σ H1 fun y H2=>r x y H2 Q
def L7 (r:V→Hp→VK→Prop) (ta:TE):TE:=fun σ H Q=>ta σ H fun x H1=>r x H1 Q
def rI (C:Int→Int→Prop) (g:Int→Int→V):R2:=fun x y H Q=>∃i j,x=.int i∧y=.int j∧C i j∧Q (g i j) H
def BS (g:Int→Int→V):R2:=fun x y H Q=>∃i j,x=.int i∧y=.int j∧Q (g i j) H
def rU (g:Int→V):V→Hp→VK→Prop:=fun x H Q=>∃i,x=.int i∧Q (g i) H
section
variable {X:Cx} {a b c:Expr} {ta tb tc:TE} {pos:Pos}
theorem HG (ha:PE X a ta) (hb:PE X b tb) {pins:List (Addr×Obj)} {s:Shared} {σ:St} {H:Hp} {R:V→V→Hp→Prop} (I:Inv X pins σ H s)
  (h:ta σ H fun x H1=>tb σ H1 fun y H2=>R x y H2) {Q:Value→Shared→Prop} {f:Value→Value→Sem Value}
  (hf:∀v u s2 x y H2,Inv X pins σ H2 s2→RelV x v→RelV y u→R x y H2→wpAny (model X.prog X.w) X.A (f v u) Q X.xe s2) :
  wpAny (model X.prog X.w) X.A (eval a X.env) (fun v s₁=>wpAny (model X.prog X.w) X.A (eval b X.env) (fun u s₂=>wpAny (model X.prog X.w) X.A (f v u) Q X.xe s₂) X.xe s₁) X.xe s:=by
 refine bH (ha pins s σ H _ I h) fun v s1 hq0=>?_
 obtain⟨x,H1,I1,r1,q1⟩:=hq0
 refine bH (hb pins s1 σ H1 _ I1 q1) fun u s2 hq0=>?_
 obtain⟨y,H2,I2,r2,q2⟩:=hq0
 exact hf v u s2 x y H2 I2 r1 r2 q2
theorem JY {op:Operator} {r:R2} (ho:iQ X (binaryOp op) r) (ha:PE X a ta) (hb:PE X b tb):PE X (.BinOp a op b pos) (Je r ta tb):=by
 intro pins s σ H Q I h
 exact wpAny_BinOp (HG ha hb I h fun v u s2 x y H2 I2 rx ry q=>ho pins s2 σ H2 x y v u Q I2 rx ry q)
theorem JO {op:UnaryOp} {r:V→Hp→VK→Prop} (ho:Ky X (unaryOp op) r) (ha:PE X a ta):PE X (.UnaryOp op a pos) (L7 r ta):=by
 intro pins s σ H Q I h
 exact UnaryOp_ (bH (ha pins s σ H _ I h) fun v s1 ⟨x,H1,I1,r1,q1⟩=>ho pins s1 σ H1 x v Q I1 r1 q1)
theorem Kz {f:Value→Value→Sem Value} {C:Int→Int→Prop} {g:Int→Int→Int}
  (rule:∀(i j:Int) (t u:Tok) (s:Shared) (Q:Value→Shared→Prop) (E:Value→Shared→Prop),C i j→Q (.int (g i j) s.toks) { s with toks:=s.toks + 1 }→wpAny (model X.prog X.w) X.A (f (.int i t) (.int j u)) Q E s) :
  iQ X f (rI C fun i j=>.int (g i j)):=by
 intro pins s σ H x y v u Q I rx ry h
 obtain⟨i,j,rfl,rfl,hc,q⟩:=h
 obtain⟨t,rfl⟩:=rx
 obtain⟨t',rfl⟩:=ry
 exact rule i j t t' s _ _ hc ⟨.int (g i j),H,I.tok _,⟨_,rfl⟩,q⟩
theorem JX {f:Value→Value→Sem Value} {g:Int→Int→Int}
  (rule:∀(i j:Int) (t u:Tok) (s:Shared) (Q:Value→Shared→Prop) (E:Value→Shared→Prop),Q (.int (g i j) s.toks) { s with toks:=s.toks + 1 }→wpAny (model X.prog X.w) X.A (f (.int i t) (.int j u)) Q E s) :
  iQ X f (BS fun i j=>.int (g i j)):=by
 intro pins s σ H x y v u Q I rx ry h
 obtain⟨i,j,rfl,rfl,q⟩:=h
 obtain⟨t,rfl⟩:=rx
 obtain⟨t',rfl⟩:=ry
 exact rule i j t t' s _ _ ⟨.int (g i j),H,I.tok _,⟨_,rfl⟩,q⟩
theorem EJ {f:Value→Value→Sem Value} {g:Int→Int→Bool}
  (rule:∀(i j:Int) (t u:Tok) (s:Shared) (Q:Value→Shared→Prop) (E:Value→Shared→Prop),Q (.bool (g i j)) s→wpAny (model X.prog X.w) X.A (f (.int i t) (.int j u)) Q E s) :
  iQ X f (BS fun i j=>.bl (g i j)):=by
 intro pins s σ H x y v u Q I rx ry h
 obtain⟨i,j,rfl,rfl,q⟩:=h
 obtain⟨t,rfl⟩:=rx
 obtain⟨t',rfl⟩:=ry
 exact rule i j t t' s _ _ ⟨.bl (g i j),H,I,rfl,q⟩
def Ia (i j:Int):Prop:=0≤j∧j≤1000000∧i.natAbs < 2 ^ 64
theorem GW:iQ X (binaryOp .Add) (BS fun i j=>.int (i + j)):=JX fun _ _ _ _ _ _ _ q=>add_int q
theorem IG:iQ X (binaryOp .Sub) (BS fun i j=>.int (i - j)):=JX fun _ _ _ _ _ _ _ q=>sub_int q
theorem E2:iQ X (binaryOp .Mod) (rI (fun _ j=>j≠0) fun i j=>.int (i.fmod j)):=Kz fun _ _ _ _ _ _ _ hc q=>mod_int' hc q
theorem HJ:iQ X (binaryOp .Pow) (rI Ia fun i j=>.int (i ^ j.toNat)):=Kz fun _ _ _ _ _ _ _ hc q=>pow_int_small hc.1 hc.2.1 hc.2.2 q
theorem Mf {f:Value→Sem Value} {g:Int→Int}
  (rule:∀(i:Int) (t:Tok) (s:Shared) (Q:Value→Shared→Prop) (E:Value→Shared→Prop),Q (.int (g i) s.toks) { s with toks:=s.toks + 1 }→wpAny (model X.prog X.w) X.A (f (.int i t)) Q E s) :
  Ky X f (rU fun i=>.int (g i)):=by
 intro pins s σ H x v Q I rx h
 obtain⟨i,rfl,q⟩:=h
 obtain⟨t,rfl⟩:=rx
 exact rule i t s _ _ ⟨.int (g i),H,I.tok _,⟨_,rfl⟩,q⟩
theorem HC:Ky X (unaryOp .USub) (rU fun i=>.int (-i)):=Mf fun _ _ _ _ _ q=>neg_int q
end
section
variable {X:Cx} {a b c:Expr} {ta tb tc:TE} {pos:Pos}
theorem Cd {pins:List (Addr×Obj)} {σ:St} {H:Hp} {s:Shared} {Q:VK} {k k':Bool} (I:Inv X pins σ H s) (q:Q (.bl k) H) (e:k=k'):EP X pins σ Q (.bool k') s:=by
 subst e
 exact⟨.bl k,H,I,rfl,q⟩
theorem CW:iQ X (compareOp .Lt) (BS fun i j=>.bl (decide (i < j))):=EJ fun _ _ _ _ _ _ _ q=>lt_int q
theorem J4:iQ X (compareOp .LtE) (BS fun i j=>.bl (decide (i≤j))):=EJ fun _ _ _ _ _ _ _ q=>le_int q
theorem Gp:iQ X (compareOp .Gt) (BS fun i j=>.bl (decide (j < i))):=EJ fun _ _ _ _ _ _ _ q=>gt_int q
theorem JV:iQ X (compareOp .GtE) (BS fun i j=>.bl (decide (j≤i))):=EJ fun _ _ _ _ _ _ _ q=>ge_int q
theorem Ii:iQ X (compareOp .Is) (fun x y H Q=>y=.non∧Q (.bl (decide (x=.non))) H):=by
 intro pins s σ H x y v u Q I rx ry h
 obtain⟨rfl,q⟩:=h
 cases ry
 refine is_none_gen (Cd I q ?_)
 cases x <;> first
  | (cases rx;rfl)
  | (obtain⟨t,rfl⟩:=rx;rfl)
theorem EG:iQ X (compareOp .IsNot) (fun x y H Q=>y=.non∧Q (.bl (!decide (x=.non))) H):=by
 intro pins s σ H x y v u Q I rx ry h
 obtain⟨rfl,q⟩:=h
 cases ry
 refine isnot_none_gen (Cd I q ?_)
 cases x <;> first
  | (cases rx;rfl)
  | (obtain⟨t,rfl⟩:=rx;rfl)
theorem iQ.or {f:Value→Value→Sem Value} {r r':R2} (h:iQ X f r) (h':iQ X f r'):iQ X f (fun x y H Q=>r x y H Q∨r' x y H Q):=by
 intro pins s σ H x y v u Q I rx ry q
 rcases q with q | q
 ·exact h pins s σ H x y v u Q I rx ry q
 ·exact h' pins s σ H x y v u Q I rx ry q
theorem fT (b:Expr) {op:CmpOp} (h:op≠.In:=by decide) (h2:op≠.NotIn:=by decide):behindInMarks op b=false:=by
 have e1:(op == CmpOp.In)=false:=by cases op <;> first | rfl | exact absurd rfl h
 have e2:(op == CmpOp.NotIn)=false:=by cases op <;> first | rfl | exact absurd rfl h2
 cases b <;> simp [behindInMarks,e1,e2]
theorem Ex {op:CmpOp} {r:R2} (ho:iQ X (compareOp op) r) (ha:PE X a ta) (hb:PE X b tb) (hm:behindInMarks op b=false):PE X (.Compare a [op] [b] pos) (Je r ta tb):=by
 intro pins s σ H Q I h
 exact wpAny_Compare1 (HG ha hb I h fun v u s2 x y H2 I2 rx ry q=>ho pins s2 σ H2 x y v u Q I2 rx ry q) hm
def J8 (t:TE):TT:=fun σ H Q=>t σ H fun x H'=>∃k,x=.bl k∧Q k H'
theorem pN {op:CmpOp} {r:R2} (ho:iQ X (compareOp op) r) (ha:PE X a ta) (hb:PE X b tb) (hm:behindInMarks op b=false):PT X (.Compare a [op] [b] pos) (J8 (Je r ta tb)):=by
 intro pins s σ H Q I h
 refine wpAny_isTrue_Compare1 (bH (ha pins s σ H _ I h) fun v s1 ⟨x,H1,I1,r1,q1⟩=>bH (hb pins s1 σ H1 _ I1 q1) fun u s2 ⟨y,H2,I2,r2,q2⟩ =>
  bH (ho pins s2 σ H2 x y v u _ I2 r1 r2 q2) fun c s3 ⟨z,H3,I3,r3,k,e,q3⟩=>?_) hm
 subst e
 cases r3
 exact wpAny_truthy_bool ⟨H3,I3,q3⟩
def C2 (r r':R2) (ta tb tc:TE):TE:=fun σ H Q=>ta σ H fun x H1=>tb σ H1 fun y H2=>r x y H2 fun z H3=>∃k,z=.bl k ∧
 (if k=true then tc σ H3 fun w' H4=>r' y w' H4 Q else Q (.bl false) H3)
theorem DK {op op':CmpOp} {r r':R2} (ho:iQ X (compareOp op) r) (ho':iQ X (compareOp op') r') (ha:PE X a ta) (hb:PE X b tb) (hc:PE X c tc)
  (hm:lastMarks [op,op'] [b,c]=false:=by with_unfolding_all rfl):PE X (.Compare a [op,op'] [b,c] pos) (C2 r r' ta tb tc):=by
 intro pins s σ H Q I h
 refine Compare_chain (bH (ha pins s σ H _ I h) fun v s1 ⟨x,H1,I1,r1,q1⟩=>chain_link (bH (hb pins s1 σ H1 _ I1 q1) fun u s2 ⟨y,H2,I2,r2,q2⟩ =>
  bH (ho pins s2 σ H2 x y v u _ I2 r1 r2 q2) fun d s3 ⟨z,H3,I3,r3,k,e,q3⟩=>?_)) hm
 subst e
 cases r3
 refine wpAny_truthy_bool ?_
 cases k with
 | false=>exact ite_ff ⟨.bl false,H3,I3,rfl,q3⟩
 | true=>exact ite_tt (chain_last (bH (hc pins s3 σ H3 _ I3 q3) fun w' s4 ⟨z',H4,I4,r4,q4⟩=>ho' pins s4 σ H4 y z' u w' Q I4 r2 r4 q4))
theorem nX:(sizeLine:Nat) < 2 ^ 63:=by rw [sizeLine_eq];decide
theorem yC:iQ X (binaryOp .Add) (fun x y H Q=>∃i j,x=.str i∧y=.str j∧i.length + j.length≤sizeLine∧Q (.str (i ++ j)) H):=by
 intro pins s σ H x y v u Q I rx ry h
 obtain⟨i,j,rfl,rfl,hz,q⟩:=h
 obtain⟨t,rfl⟩:=rx
 obtain⟨t',rfl⟩:=ry
 exact add_str (fun t' tk=>⟨.str (i ++ j),H,I.tok _,⟨_,rfl⟩,q⟩) hz
theorem vals1 {x:V} {us:List Value} (r:Vals [x] us):∃u,us=[u]∧RelV x u:=by
 cases r with
 | cons r1 r2=>cases r2;exact⟨_,rfl,r1⟩
theorem vals2 {x y:V} {us:List Value} (r:Vals [x,y] us):∃u w',us=[u,w']∧RelV x u∧RelV y w':=by
 cases r with
 | cons r1 r2 =>
  cases r2 with
  | cons r3 r4=>cases r4;exact⟨_,_,rfl,r1,r3⟩
theorem DA:dB X (.builtin "abs") (fun xs H Q=>∃i,xs=[.int i]∧Q (.int (if i < 0 then -i else i)) H):=by
 intro pins s σ H xs us Q I r h
 obtain⟨i,rfl,q⟩:=h
 obtain⟨u,rfl,t,rfl⟩:=vals1 r
 exact call_abs_int fun u tk=>⟨.int (if i < 0 then -i else i),H,I.tok _,⟨_,rfl⟩,q⟩
theorem Az (hc:X.calm=true):dB X (.builtin "max") (fun xs H Q=>∃i j,xs=[.int i,.int j]∧Q (.int (if j > i then j else i)) H):=by
 intro pins s σ H xs us Q I r h
 obtain⟨i,j,rfl,q⟩:=h
 obtain⟨u,w',rfl,⟨t,rfl⟩,⟨t',rfl⟩⟩:=vals2 r
 refine max_two_ints (I.ok.hd hc) fun h' tk k=>⟨_,H,I.kept k,?_,q⟩
 by_cases hj:j > i
 ·rw [Mw hj,Mw hj];exact⟨_,rfl⟩
 ·rw [Ms hj,Ms hj];exact⟨_,rfl⟩
theorem AR (hc:X.calm=true):dB X (.builtin "min") (fun xs H Q=>∃i j,xs=[.int i,.int j]∧Q (.int (if j < i then j else i)) H):=by
 intro pins s σ H xs us Q I r h
 obtain⟨i,j,rfl,q⟩:=h
 obtain⟨u,w',rfl,⟨t,rfl⟩,⟨t',rfl⟩⟩:=vals2 r
 refine min_two_ints (I.ok.hd hc) fun h' tk k=>⟨_,H,I.kept k,?_,q⟩
 by_cases hj:j < i
 ·rw [Mw hj,Mw hj];exact⟨_,rfl⟩
 ·rw [Ms hj,Ms hj];exact⟨_,rfl⟩
theorem AQ:dB X (.type "int") (fun xs H Q=>(∃i,xs=[.int i]∧Q (.int i) H)∨∃k,xs=[.bl k]∧Q (.int (if k then 1 else 0)) H):=by
 intro pins s σ H xs us Q I r h
 rcases h with ⟨i,rfl,q⟩ | ⟨k,rfl,q⟩
 ·obtain⟨u,rfl,t,rfl⟩:=vals1 r
  exact call_int_int ⟨.int i,H,I,⟨_,rfl⟩,q⟩
 ·obtain⟨u,rfl,r1⟩:=vals1 r
  cases r1
  exact call_int_bool ⟨.int (if k then 1 else 0),H,I.tok _,⟨_,rfl⟩,q⟩
end
end L2
namespace L2
open PySem PySem.Spec PyProof.Rows
theorem wM.some_of {v:V} {o:Option Value} (r:wM (some v) o):∃u,o=some u∧RelV v u:=by
 cases o with
 | none=>exact (show False from r).elim
 | some u=>exact⟨u,rfl,r⟩
section
variable {P:Program} {w:World} {H H':Hp} {h h':Heap} {a C dx:Addr} {fs fs':List (Str×V)}
end
section
variable {X:Cx} {pins:List (Addr×Obj)} {σ:St} {H:Hp} {s:Shared} {a C dx:Addr} {fs:List (Str×V)} {f:Str} {v:V} {A:Around} {E:Value→Shared→Prop}
end
end L2
namespace L2
open PySem PySem.Spec PyProof.Rows
structure di (k:Nat) (A:Around):Prop where
 hd:A.handled=none
 dp:A.depth + 3 * k + 5 < recursionLimit
 un:A.units + 16 * k + 200 < cLine
theorem di.mono {j k:Nat} {A:Around} (r:di k A) (h:j≤k):di j A:=⟨r.hd,by have:=r.dp;omega,by have:=r.un;omega⟩
theorem di.deeper {k:Nat} {A:Around} (r:di (k + 1) A) (env:Env):di k (A.deeper env) :=
 ⟨r.hd,by have:=r.dp;show A.depth + 1 + 3 * k + 5 < _;omega,by have:=r.un;show A.units + 3 + 16 * k + 200 < _;omega⟩
theorem di.depth {k:Nat} {A:Around} (r:di k A):A.depth < recursionLimit:=by have:=r.dp;omega
theorem di.units {k:Nat} {A:Around} (r:di k A):A.units + 64 < cLine:=by have:=r.un;omega
def Ly:TA:=fun _ H Q=>Q [] H
def JM (ta:TE) (tr:TA):TA:=fun σ H Q=>ta σ H fun x H1=>tr σ H1 fun xs H2=>Q (x :: xs) H2
section
variable {X:Cx} {e:Expr} {es:List Expr} {te:TE} {t:TA} {pos:Pos}
theorem gz:PA X [] Ly:=fun _ _ _ _ H Q I h=>Calls.spliced_nil ⟨[],H,I,.nil,h⟩
theorem cT (ha:PE X e te) (hr:PA X es t) (hs:starEach (e :: es) X.env=(false,eval e X.env) :: starEach es X.env:=by rfl):PA X (e :: es) (JM te t):=by
 intro pos pins s σ H Q I h
 rw [hs]
 show wpAny _ _ (spliced ((false,eval e X.env) :: backTo pos (starEach es X.env))) _ _ s
 refine Nq (bH (ha pins s σ H _ I h) fun u s1 hq0=>?_)
 obtain⟨x,H1,I1,r1,q1⟩:=hq0
 exact bH (hr pos pins s1 σ H1 _ I1 q1) fun us s2 ⟨xs,H2,I2,r2,q2⟩=>⟨x :: xs,H2,I2,.cons r1 r2,q2⟩
def KJ (t:TA):TE:=fun σ H Q=>t σ H fun xs H1=>xs.length≤sizeLine∧∀p,H1 p=none→Q (.ref p) (upd H1 p (.tup xs))
def Lw (t:TA):TE:=fun σ H Q=>t σ H fun xs H1=>xs.length≤sizeLine∧∀p,H1 p=none→Q (.ref p) (upd H1 p (.lst xs))
theorem G5 {x1} (h:PA X es t):PE X (.Tuple es x1 pos) (KJ t):=by
 intro pins s σ H Q I hq
 refine wpAny_Tuple_spliced (bH (h pos pins s σ H _ I hq) fun us s1 ⟨xs,H1,I1,r,z,q⟩=>⟨by rw [← r.length];exact z,?_⟩)
 have hf:H1 s1.heap.objs.size=none:=I1.hok.fresh (Mx _)
 refine⟨.ref s1.heap.objs.size,upd H1 s1.heap.objs.size (.tup xs),I1.laid (t':=s1.toks) (fun b u e=>Mz _ e) (Mx _) ?_,rfl,q _ hf⟩
 exact⟨z,us,r,⟨_,MM _ rfl,rfl,⟨_,rfl⟩,rfl⟩⟩
theorem zd (h:PA X es t):PE X (.List es pos) (Lw t):=by
 intro pins s σ H Q I hq
 refine wpAny_List_spliced (bH (h pos pins s σ H _ I hq) fun us s1 ⟨xs,H1,I1,r,z,q⟩=>⟨by rw [← r.length];exact z,?_⟩)
 have hf:H1 s1.heap.objs.size=none:=I1.hok.fresh (Mx _)
 refine⟨.ref s1.heap.objs.size,upd H1 s1.heap.objs.size (.lst xs),I1.laid (t':=s1.toks) (fun b u e=>Mz _ e) (Mx _) ?_,rfl,q _ hf⟩
 exact⟨z,us,0,r,MM _ rfl⟩
end
abbrev Sp:=List V→Hp→VK→XK→Prop
abbrev Dl:=List Env→Hp→Shared→XK→Value→Shared→Prop
structure A9 (P:Program) (w:World) (K:PySem.W.Frag) (mg:Str→Option Value) (base:Heap) (A:Around) (outer:List Env) (s:Shared) (H:Hp):Prop where
 frames:A.frames=some outer
 mod:Mod K mg base
 bs:∀b o,base.get? b=some o→s.heap.get? b=some o∧H b=none
 bsz:base.objs.size≤s.heap.objs.size
 nc:s.heap.FunFrames base outer
 frf:∀b∈pR outer,H b=none
 hok:lB P w H s.heap
 bare:AllBare s.gens
def CE (outer:List Env) (P:Program) (w:World) (H:Hp) (s:Shared) (Q:VK) (u:Value) (s':Shared):Prop :=
 ∃v H',s'.os=s.os∧AllBare s'.gens∧Un (pR outer) [] H H' s.heap s'.heap∧lB P w H' s'.heap∧RelV v u∧Q v H'
def CR (CX:Dl) (outer:List Env) (P:Program) (w:World) (H:Hp) (s:Shared) (Q:VK) (E:XK) (r:Result) (s':Shared):Prop :=
 match r with
 | .ok (.ret u)=>CE outer P w H s Q u s'
 | .ok _=>False
 | .error e=>CX outer H s E e s'
structure nV (P:Program) (w:World) (K:PySem.W.Frag) (mg:Str→Option Value) (base:Heap) (CX:Dl) (k:Nat) (f:Addr) (fd:FuncData) (ps:List Str) (sp:Sp):Prop where
 len:∀vs H Q E,sp vs H Q E→vs.length=ps.length
 run:∀(A:Around) (outer:List Env) (s:Shared) (H:Hp) (args:Args) (us:List Value) (vs:List V) (Q:VK) (E:XK),di k A→A9 P w K mg base A outer s H→BindsTo s fd args (ps.zip us)→Vals vs us→sp vs H Q E →
  codeAny (model P w) A (.call (.ref f) args) (CR CX outer P w H s Q E) s
section
variable {X:Cx} {pins:List (Addr×Obj)} {σ:St} {H:Hp} {s s':Shared}
theorem Inv.fS (I:Inv X pins σ H s):A9 X.prog X.w X.K X.mg X.base X.A X.stack s H :=
 ⟨I.ok.frames,I.ok.mod,I.bs,M7 I.ok.bsz I.sz,I.stack,I.vG,I.hok,I.bare⟩
theorem Inv.after {Q:VK} {u:Value} (I:Inv X pins σ H s) (h:CE X.stack X.prog X.w H s Q u s'):EP X pins σ Q u s':=by
 obtain⟨v,H',os,bare,un,hok,r,q⟩:=h
 obtain⟨hh,g,d,t,os'⟩:=s'
 obtain rfl:os'=s.os:=os
 exact⟨v,H',I.call (h':=hh) (g':=g) (d':=d) (t':=t) (ch:=[]) un hok bare (fun b z=>absurd z (by simp)),r,q⟩
end
def Ge (sp:Sp) (dvs:List V) (E:XK) (t:TA):TE:=fun σ H Q=>t σ H fun vs H1=>sp (vs ++ dvs) H1 Q E
def Binds (K:PySem.W.Frag) (fd:FuncData) (ps:List Str) (ds:List Value):Prop :=
 ∀(s:Shared) (us:List Value),K.In s.heap→(us ++ ds).length=ps.length→BindsTo s fd ⟨us,[]⟩ (ps.zip (us ++ ds))
theorem Binds.all {K:PySem.W.Frag} {fd:FuncData} {ps:List Str} (h:∀us:List Value,us.length=ps.length→bindArgs fd ⟨us,[]⟩=pure (ps.zip us)):Binds K fd ps []:=fun s us _ hl=>by
 rw [MV] at hl ⊢
 exact .of_eq (h us hl)
def Passes (CX:Dl) (X:Cx) (E:XK):Prop:=∀(pins:List (Addr×Obj)) (σ:St) (H:Hp) (s:Shared) (e:Value) (s':Shared),Inv X pins σ H s→CX X.stack H s E e s'→X.xe e s'
section
variable {X:Cx} {CX:Dl} {k:Nat} {f C:Addr} {fd:FuncData} {ps:List Str} {sp:Sp} {dvs:List V} {ds:List Value} {E:XK} {x m:Str} {p pos apos:Pos} {e o:Expr} {es:List Expr} {ta:TE} {t:TA}
theorem HE {pins:List (Addr×Obj)} {σ:St} {H:Hp} {s:Shared} {Q:VK} {us:List Value} {vs:List V} (F:nV X.prog X.w X.K X.mg X.base CX k f fd ps sp) (hr:di k X.A) (hb:Binds X.K fd ps ds) (hd:Vals dvs ds) (hx:Passes CX X E)
  (I:Inv X pins σ H s) (r:Vals vs us) (h:sp (vs ++ dvs) H Q E):wpAny (model X.prog X.w) X.A (call (.ref f) us) (EP X pins σ Q) X.xe s:=by
 have r2:Vals (vs ++ dvs) (us ++ ds):=r.append hd
 have hl:(us ++ ds).length=ps.length:=by rw [← r2.length];exact F.len _ _ _ _ h
 refine wpAny_call (codeAny_mono (F.run X.A X.stack s H ⟨us,[]⟩ (us ++ ds) (vs ++ dvs) Q E hr I.fS (hb s us I.tD hl) r2 h) fun r s' hq=>?_)
 cases r with
 | error e=>exact hx pins σ H s e s' I hq
 | ok fl =>
  cases fl with
  | ret u=>exact I.after hq
  | next=>exact False.elim hq
  | brk=>exact False.elim hq
  | cont=>exact False.elim hq
theorem uU (F:nV X.prog X.w X.K X.mg X.base CX k f fd ps sp) (hr:di k X.A) (hg:Gl X x) (hm:X.mg x=some (.ref f)) (hk:PySem.W.keepIn X.K (.ref f)=true) (hb:Binds X.K fd ps ds) (hd:Vals dvs ds) (hx:Passes CX X E)
  (ha:PA X (e :: es) t) (hdb:(x == ("__debug__" : Str))=false:=by decide) (he:starEach (e :: es) X.env=(false,eval e X.env) :: starEach es X.env:=by rfl) (hpl:(backTo pos (starEach es X.env)).any (·.1)=false:=by rfl) :
  PE X (.Call (.Name x p) (e :: es) [] pos) (Ge sp dvs E t):=by
 intro pins s σ H Q I h
 refine wpAny_Call_Name_kw (iV I hg hm ?_ hdb)
 refine PySem.W.callWith_K (h₀:=X.base) I.ok.mod.kin hk (bH (ha pos pins s σ H _ I h) fun us s1 ⟨vs,H1,I1,r,q⟩=>⟨I1.tD,?_⟩) he hpl
 exact HE F hr hb hd hx I1 r q
end
structure aH (N P:List Str) (sc:Scope):Prop where
 kind:sc.kind=.function
 co:sc.isCoroutine=false
 gen:sc.isGenerator=false
 nd:N.Nodup
 pre:N.take P.length=P
 par:∀x∈P,sc.names.lookup x=some .local∨sc.names.lookup x=some .cell
 nofree:∀y∈sc.names,y.2≠.free
theorem tP {kindOf:Str→Option NameKind} {x:Str}:∀{binds:List (Str×Value)} {m:Str→Option Value},(∀v,(x,v)∉binds)→bindL kindOf binds m x=m x
 | [],_,_=>rfl
 | (n,v) :: r,m,h=>by
  unfold bindL
  rw [tP fun w hw=>h w (ME _ hw)]
  split
  ·have:x≠n:=by rintro rfl;exact h v MN
   simp [this]
  ·rfl
theorem tF {kindOf:Str→Option NameKind} {x:Str}:∀{binds:List (Str×Value)} {m:Str→Option Value},(∀v,(x,v)∉binds)→bindC kindOf binds m x=m x
 | [],_,_=>rfl
 | (n,v) :: r,m,h=>by
  unfold bindC
  rw [tF fun w hw=>h w (ME _ hw)]
  split
  ·rfl
  ·have:x≠n:=by rintro rfl;exact h v MN
   simp [this]
theorem tT {kindOf:Str→Option NameKind} {x:Str} {v:Value}:∀{P:List Str} {vs:List Value} {i:Nat} {m:Str→Option Value},P.Nodup→P[i]?=some x→vs[i]?=some v→kindOf x=some .local →
  bindL kindOf (P.zip vs) m x=some v
 | [],_,_,_,_,h,_,_=>by simp at h
 | _ :: _,[],_,_,_,_,h,_=>by simp at h
 | p :: P,w :: vs,0,m,nd,h1,h2,hk=>by
  simp at h1 h2;subst h1;subst h2
  show bindL kindOf ((p,w) :: P.zip vs) m p=_
  unfold bindL
  rw [tP fun v hv=>(M9.mp nd).1 (List.of_mem_zip hv).1,Mw hk]
  simp
 | p :: P,w :: vs,i + 1,m,nd,h1,h2,hk=>by
  show bindL kindOf ((p,w) :: P.zip vs) m x=_
  unfold bindL
  exact tT (i:=i) (M9.mp nd).2 (by simpa using h1) (by simpa using h2) hk
theorem sX {kindOf:Str→Option NameKind} {x:Str} {v:Value}:∀{P:List Str} {vs:List Value} {i:Nat} {m:Str→Option Value},P.Nodup→P[i]?=some x→vs[i]?=some v→kindOf x≠some .local →
  bindC kindOf (P.zip vs) m x=some v
 | [],_,_,_,_,h,_,_=>by simp at h
 | _ :: _,[],_,_,_,_,h,_=>by simp at h
 | p :: P,w :: vs,0,m,nd,h1,h2,hk=>by
  simp at h1 h2;subst h1;subst h2
  show bindC kindOf ((p,w) :: P.zip vs) m p=_
  unfold bindC
  rw [tF fun v hv=>(M9.mp nd).1 (List.of_mem_zip hv).1,Ms hk]
  simp
 | p :: P,w :: vs,i + 1,m,nd,h1,h2,hk=>by
  show bindC kindOf ((p,w) :: P.zip vs) m x=_
  unfold bindC
  exact sX (i:=i) (M9.mp nd).2 (by simpa using h1) (by simpa using h2) hk
def start (N:List Str) (vs:List V):St:=vs.map some ++ List.replicate (N.length - vs.length) none
def gO (CX:Dl) (P:Program) (w:World) (K:PySem.W.Frag) (mg:Str→Option Value) (base:Heap) (N:List Str) (qual:Str) (scope:Scope) (f:Addr) (cd:Value) (A:Around) (outer:List Env) (s:Shared) (H:Hp) (E:XK):Cx where
 prog:=P
 w:=w
 K:=K
 mg:=mg
 base:=base
 A:=A.deeper (envOfC qual scope s.heap.objs.size f cd)
 N:=N
 s₀:=s
 H₀:=H
 env:=envOfC qual scope s.heap.objs.size f cd
 outer:=outer
 stack:=envOfC qual scope s.heap.objs.size f cd :: outer
 ex:=[]
 calm:=true
 fn:=fun _=>true
 pn:=[]
 xe:=fun e s'=>wpAny (model P w) (A.deeper (envOfC qual scope s.heap.objs.size f cd)) (leaving (envOfC qual scope s.heap.objs.size f cd) e) (fun _ s''=>CX outer H s E e s'') (fun e' s''=>CX outer H s E e' s'') s'
theorem wJ {sc:Scope} {n:Nat} {x:Str} (h:sc.names.lookup x=some .cell):∃c,(cellsFrom n sc.names []).lookup x=some c:=by
 have q:=PySem.W.cellsFrom_some sc.names n [] (.inl h)
 exact Option.isSome_iff_exists.mp q
theorem tX {CX:Dl} {P:Program} {w:World} {K:PySem.W.Frag} {mg:Str→Option Value} {base:Heap} {N ps:List Str} {qual:Str} {scope:Scope} {f:Addr} {cd:Value} {A:Around} {outer:List Env} {s s1:Shared} {H:Hp} {E:XK} {us:List Value} {vs:List V}
  (S:aH N ps scope) (hd:A.handled=none) (e0:A9 P w K mg base A outer s H) (hl:vs.length=ps.length) (r:Vals vs us)
  (x:InCallC s s.heap.objs.size (bindL (envOfC qual scope s.heap.objs.size f cd).kindOf (ps.zip us) fun _=>none) (cellsFrom (s.heap.objs.size + 1) scope.names []) (bindC (envOfC qual scope s.heap.objs.size f cd).kindOf (ps.zip us) fun _=>none) s1) :
  Inv (gO CX P w K mg base N qual scope f cd A outer s H E) [] (start N vs) H s1:=by
 have hpl:ps.length≤N.length:=by have:=congrArg List.length S.pre;rw [List.length_take] at this;omega
 obtain⟨h1,tk,rfl,hk⟩:=x.done
 have noA:∀b:Addr,b∉(gO CX P w K mg base N qual scope f cd A outer s H E).ex:=fun b z=>absurd (show b∈([]:List Addr) from z) (by simp)
 refine⟨⟨e0.mod,S.kind,rfl,rfl,Mx _,fun y z c h1 h2=>?_,fun y hy=>?_,fun y c _ h=>?_,fun _=>hd,Around.frames_deeper e0.frames,.inr ⟨rfl,rfl⟩,fun b z=>absurd z (noA b),e0.bs,e0.bsz,fun b _ _=>noA b,fun b z=>absurd z (noA b),e0.nc,e0.frf⟩,
  rfl,e0.bare,Un.kept hk,⟨_,x.toInCall.ns,fun i y v h1 h2 h3=>?_⟩,fun y c h=>⟨_,x.cell y c h⟩,e0.hok.fresh (Mx _),fun y c h=>?_,fun p hp=>absurd (show p∈([]:List (Addr×Obj)) from hp) (by simp),e0.hok.kept hk,?_⟩
 ·exact name_of_addr x.apart (PySem.mem_of_lookup h1) (PySem.mem_of_lookup h2)
 ·have hy:scope.names.lookup y=some .cell∨scope.names.lookup y=some .free:=hy
  rcases hy with hy | hy
  ·exact wJ hy
  ·exact absurd rfl (S.nofree _ (PySem.mem_of_lookup hy))
 ·exact Nat.le_of_lt (x.above y c (PySem.mem_of_lookup h))
 ·have hi:i < vs.length:=by
   unfold start at h2
   by_cases hi:i < vs.length
   ·exact hi
   ·rw [MH (by simpa using hi)] at h2
    rw [MW] at h2
    split at h2 <;> cases h2
  have ha:vs[i]?=some v:=by
   unfold start at h2
   rw [MJ (by simpa using hi),Mu] at h2
   cases e:vs[i]? with
   | none=>rw [e] at h2;cases h2
   | some a=>rw [e] at h2;cases h2;rfl
  obtain⟨u,hu,rv⟩:=r.get ha
  have hp:ps[i]?=some y:=by
   rw [← S.pre,List.getElem?_take_of_lt (by omega)];exact h1
  have ndP:ps.Nodup:=by rw [← S.pre];exact S.nd.sublist (List.take_sublist _ _)
  refine⟨u,rv,?_⟩
  rcases S.par y (MA hp) with k | k
  ·exact .inl ⟨k,tT ndP hp hu k⟩
  ·obtain⟨c,e⟩:=wJ (n:=s.heap.objs.size + 1) k
   refine .inr ⟨.inl k,c,e,?_⟩
   have q:=x.cell y c e
   rw [sX ndP hp hu (by show scope.names.lookup y≠_;rw [k];decide)] at q
   exact q
 ·exact e0.hok.fresh (Nat.le_of_lt (x.above y c (PySem.mem_of_lookup h)))
 ·unfold start
  show _=N.length
  rw [MS,MB,List.length_replicate]
  omega
theorem An {CX:Dl} {P:Program} {w:World} {K:PySem.W.Frag} {mg:Str→Option Value} {base:Heap} {k:Nat} {f:Addr} {name qual:Str} {params:Arguments} {body:List Stmt} {scope:Scope} {dV kV doc pm cdv ct oc:Value} {an od:Option Addr}
  {osl:Array (Option Value)} {N ps:List Str} {sp:Sp} (lk:K.lookup f=some ⟨oc,od,.func (PySem.W.fnOf name qual params body scope dV kV doc pm an cdv ct),osl⟩) (hcd:PySem.W.codeIn K cdv qual=true) (S:aH N ps scope)
  (len:∀vs H Q E,sp vs H Q E→vs.length=ps.length)
  (hbody:∀(A:Around) (outer:List Env) (s:Shared) (H:Hp) (vs:List V) (Q:VK) (E:XK),di k (A.deeper (envOfC qual scope s.heap.objs.size f cdv))→sp vs H Q E →
   ∃t,xD (gO CX P w K mg base N qual scope f cdv A outer s H E) body t∧t { nx:=fun _ H'=>Q .non H',rt:=Q } (start N vs) H) :
  nV P w K mg base CX (k + 1) f (PySem.W.fnOf name qual params body scope dV kV doc pm an cdv ct) ps sp:=by
 refine⟨len,fun A outer s H args us vs Q E hr e0 hb r hsp=>?_⟩
 have hl:=len _ _ _ _ hsp
 have KX:K.In s.heap:=e0.mod.kin.keeps fun b o e=>(e0.bs b o e).1
 have lim:s.heap.NoLimit:=e0.mod.nolimit.keeps fun b o e=>(e0.bs b o e).1
 have hkind:∀y∈ps.zip us,scope.names.lookup y.1=some .local∨(scope.names.lookup y.1=some .cell∧((cellsFrom (s.heap.objs.size + 1) scope.names []).lookup y.1).isSome=true):=fun⟨n,v⟩ hy=>by
  rcases S.par n (List.of_mem_zip hy).1 with q | q
  ·exact .inl q
  ·exact .inr ⟨q,PySem.W.cellsFrom_some _ _ _ (.inl q)⟩
 refine codeAny_call_function hr.depth (KX _ _ lk) rfl S.co S.gen rfl (PySem.W.codeRec_of KX hcd) (hb _ _ _ _ ?_)
 refine wpAny_newFunctionEnv_cells S.kind hkind fun env he s1 x=>?_
 subst he
 refine⟨lim.keeps x.toInCall.keep,codeAny_func ?_⟩
 obtain⟨t,ht,hq⟩:=hbody A outer s H vs Q E (hr.deeper _) hsp
 have I:Inv (gO CX P w K mg base N qual scope f cdv A outer s H E) [] (start N vs) H s1:=tX S hr.hd e0 hl r x
 refine MO (ht [] s1 (start N vs) H _ I hq) (fun fl s' hs=>?_) fun e s' hs=>hs
 have fin:∀{σ':St} {H':Hp} {v:V} {u:Value},Inv (gO CX P w K mg base N qual scope f cdv A outer s H E) [] σ' H' s'→RelV v u→Q v H'→CE outer P w H s Q u s' :=
  fun {σ' H' v u} J rv q=>⟨v,H',J.os,J.bare,J.base,J.hok,rv,q⟩
 cases fl with
 | ret u =>
  obtain⟨v,σ',H',J,rv,q⟩:=hs
  exact fin J rv q
 | next =>
  obtain⟨σ',H',J,q⟩:=hs
  exact fin (v:=V.non) (u:=Value.none) J rfl q
 | brk =>
  obtain⟨_,_,_,q⟩:=hs
  exact False.elim q
 | cont =>
  obtain⟨_,_,_,q⟩:=hs
  exact False.elim q
end L2
namespace L2
open PySem PySem.Spec PyProof.Rows
section
variable {X:Cx} {x:Str} {p pos:Pos} {e:Expr} {es:List Expr} {t:TA} {id T:String} {r:List V→Hp→VK→Prop}
def KD (r:List V→Hp→VK→Prop) (t:TA):TE:=fun σ H Q=>t σ H fun vs H1=>r vs H1 Q
theorem xh (hc:dB X (.builtin id) r) (hg:Gl X x) (hm:X.mg x=none) (hv:bootBuiltins x=some (.builtin id)) (ha:PA X (e :: es) t) (hn:x≠"__name__":=by decide) (hdb:(x == ("__debug__" : Str))=false:=by decide)
  (he:starEach (e :: es) X.env=(false,eval e X.env) :: starEach es X.env:=by rfl) (hpl:(backTo pos (starEach es X.env)).any (·.1)=false:=by rfl):PE X (.Call (.Name x p) (e :: es) [] pos) (KD r t):=by
 intro pins s σ H Q I h
 refine wpAny_Call_Name_kw (lQ I hg hm hv ?_ hn hdb)
 exact PyProof.Rows.callWith_builtin1 (bH (ha pos pins s σ H _ I h) fun us s1 ⟨vs,H1,I1,r1,q1⟩=>hc pins s1 σ H1 vs us Q I1 r1 q1) he hpl
theorem nJ (hc:dB X (.type T) r) (hg:Gl X x) (hm:X.mg x=none) (hv:bootBuiltins x=some (.type T)) (ha:PA X (e :: es) t) (hn:x≠"__name__":=by decide) (hdb:(x == ("__debug__" : Str))=false:=by decide)
  (he:starEach (e :: es) X.env=(false,eval e X.env) :: starEach es X.env:=by rfl) (hpl:(backTo pos (starEach es X.env)).any (·.1)=false:=by rfl):PE X (.Call (.Name x p) (e :: es) [] pos) (KD r t):=by
 intro pins s σ H Q I h
 refine wpAny_Call_Name_kw (lQ I hg hm hv ?_ hn hdb)
 exact PyProof.Rows.callWith_type1 (bH (ha pos pins s σ H _ I h) fun us s1 ⟨vs,H1,I1,r1,q1⟩=>hc pins s1 σ H1 vs us Q I1 r1 q1) he hpl
end
end L2
namespace HT
open PySem PyProof.Rows
section
variable {prog:Program} {w:World} {A:Around} {E:Value→Shared→Prop} {s:Shared}
theorem Ez {t b:Addr} {vs ws:List Value} {Q:Value→Shared→Prop} (ht:IsTup s.heap t vs.toArray) (hb:IsTup s.heap b ws.toArray) (hv:vs≠[])
  (h1:ws=[]→Q (.ref t) s) (h2:ws≠[]→Q (.ref s.heap.objs.size) { s with heap:=s.heap.push { cls:=.type "tuple",data:=.seq (vs ++ ws).toArray } })
  (hsz:vs.length + ws.length≤sizeLine):wpAny (model prog w) A (binaryOp .Add (.ref t) (.ref b)) Q E s:=by
 obtain⟨⟨cls,dd,data,sl⟩,ho,hc,n,hd⟩:=id ht
 obtain⟨⟨cls2,dd2,data2,sl2⟩,ho2,hc2,n2,hd2⟩:=id hb
 simp only at hc hd hc2 hd2
 subst hc hd hc2 hd2
 have e:vs.toArray ++ ws.toArray=(vs ++ ws).toArray:=by simp
 by_cases hw:ws=[]
 ·exact concat_meets ⟨_,ho,rfl⟩ ⟨_,ho2,rfl⟩ noFill_tuple_add seq_tuple_add PySem.F.slot_tuple_add PySem.F.entry_tuple_add (PySem.F.args_tuple_add_2 _ _)
   (tuple_addW1 t b vs.toArray ws.toArray n n2 dd dd2 sl sl2 (by simpa using hv) (by simp [hw])) ⟨ho,ho2,h1 hw⟩
 ·refine concat_meets ⟨_,ho,rfl⟩ ⟨_,ho2,rfl⟩ noFill_tuple_add seq_tuple_add PySem.F.slot_tuple_add PySem.F.entry_tuple_add (PySem.F.args_tuple_add_2 _ _)
   (tuple_addW2 t b vs.toArray ws.toArray n n2 dd dd2 sl sl2 (by simpa using hv) (by simpa using hw) (by rw [MG,MG];exact hsz)) ⟨ho,ho2,?_⟩
  rw [e]
  exact h2 hw
def eO (n d:Nat):Option Int→Nat
 | none=>d
 | some v=>if v < 0 then (v + (n:Int)).toNat else min v.toNat n
theorem zw (n d k:Nat):eO n d (some (k:Int))=min k n:=by
 show (if (k:Int) < 0 then ((k:Int) + (n:Int)).toNat else min (k:Int).toNat n)=min k n
 rw [Ms (by omega),Int.toNat_natCast]
theorem Hh (n d:Nat) (hd:d≤n) (o:Option Int):eO n d o≤n:=by
 cases o with
 | none=>exact hd
 | some v =>
  show (if v < 0 then (v + (n:Int)).toNat else min v.toNat n)≤n
  by_cases hv:v < 0
  ·rw [Mw hv];omega
  ·rw [Ms hv];exact Nat.min_le_right _ _
theorem zt (v:Int) (n d:Nat):(if v < 0 then max (v + (n:Int)) 0 else min v (n:Int))=((eO n d (some v):Nat):Int):=by
 show (if v < 0 then max (v + (n:Int)) 0 else min v (n:Int))=(((if v < 0 then (v + (n:Int)).toNat else min v.toNat n):Nat):Int)
 by_cases hv:v < 0
 ·simp only [Mw hv];omega
 ·simp only [Ms hv];omega
theorem yY (lo hi:Option Int) (n:Nat):Builtin.Slice.sliceAdjust lo hi 1 (n:Int)=(((eO n 0 lo:Nat):Int),((eO n n hi:Nat):Int)):=by
 have h1:¬ ((1:Int) < 0):=by omega
 unfold Builtin.Slice.sliceAdjust
 simp only [h1,if_false]
 refine Prod.ext ?_ ?_
 ·cases lo with
  | none=>rfl
  | some v=>exact zt v n 0
 ·cases hi with
  | none=>rfl
  | some v=>exact zt v n n
theorem yE (i j:Nat):Builtin.Slice.slicePlaces (i:Int) (j:Int) 1=j - i:=by
 unfold Builtin.Slice.slicePlaces
 have h1:(1:Int) > 0:=by omega
 simp only [h1,if_true,Int.ediv_one]
 split <;> omega
theorem p7 {v:Value} {o:Option Int} {Q:Option Int→Shared→Prop} (p:IsPart v o) (h:Q o s):wpAny (model prog w) A (Builtin.Slice.slicePartIndex v) Q E s:=by
 cases p with
 | none=>exact slicePart_none h
 | int i t=>exact slicePart_int h
theorem nZ {sl:Addr} {vl vu:Value} {lo hi:Option Int} {n:Nat} {Q:Int×Int×Nat→Shared→Prop} (hs:s.heap.IsSliceOf sl vl vu .none) (pl:IsPart vl lo) (pu:IsPart vu hi)
  (h:Q (((eO n 0 lo:Nat):Int),1,eO n n hi - eO n 0 lo) s):wpAny (model prog w) A (Builtin.Slice.sliceApplied (.ref sl) (pure (n:Int))) Q E s:=by
 obtain⟨os,hos,hcs,hds⟩:=id hs
 unfold Builtin.Slice.sliceApplied Builtin.Slice.sliceFields
 refine Mn (Mn (wpAny_field hos hds (x:=vl) rfl (Mn (wpAny_field hos hds (x:=vu) rfl (Mn (wpAny_field hos hds (x:=.none) rfl (Mr ?_)))))))
 refine Mn (slicePart_none ?_)
 show wpAny _ _ (if ((1:Int) == 0)=true then _ else _) _ _ s
 rw [Ms (by decide)]
 refine Mn (p7 pl (Mn (p7 pu (Mn (Mr ?_)))))
 show wpAny _ _ (match Builtin.Slice.sliceAdjust lo hi 1 (n:Int) with | (lo,hi)=>pure (lo,(1:Int),Builtin.Slice.slicePlaces lo hi 1)) _ _ s
 rw [yY lo hi n]
 show wpAny _ _ (pure (((eO n 0 lo:Nat):Int),(1:Int),Builtin.Slice.slicePlaces ((eO n 0 lo:Nat):Int) ((eO n n hi:Nat):Int) 1)) _ _ s
 rw [yE]
 exact Mr h
theorem B7 (xs:Array Value) (i k:Nat):((List.range k).filterMap fun (m:Nat)=>xs[((i:Int) + (m:Int) * 1).toNat]?).toArray=((xs.toList.drop i).take k).toArray:=by
 have e:(fun (m:Nat)=>xs[((i:Int) + (m:Int) * 1).toNat]?)=fun m=>xs[i + m]?:=by
  funext m
  have:((i:Int) + (m:Int) * 1).toNat=i + m:=by omega
  rw [this]
 rw [e]
 have:=pick_run xs i k
 rw [List.filterMap_map] at this
 have e2:((fun x=>xs[x]?)∘fun x=>i + x)=fun m=>xs[i + m]?:=rfl
 rw [e2] at this
 rw [this]
theorem mx {t sl:Addr} {items:Array Value} {vl vu:Value} {lo hi:Option Int} {Q:Value→Shared→Prop} (ht:IsTup s.heap t items) (hs:s.heap.IsSliceOf sl vl vu .none) (pl:IsPart vl lo) (pu:IsPart vu hi)
  (hw:¬ (eO items.size 0 lo=0∧eO items.size items.size hi=items.size))
  (h:Q (.ref s.heap.objs.size) { s with heap:=s.heap.push { cls:=.type "tuple",data:=.seq ((items.toList.drop (eO items.size 0 lo)).take (eO items.size items.size hi - eO items.size 0 lo)).toArray } })
  (hsz:items.size≤sizeLine):wpAny (model prog w) A (getItem (.ref t) (.ref sl)) Q E s:=by
 have htake:sizeOk (.seq ((items.toList.drop (eO items.size 0 lo)).take (eO items.size items.size hi - eO items.size 0 lo)).toArray):=by
  show ((items.toList.drop (eO items.size 0 lo)).take (eO items.size items.size hi - eO items.size 0 lo)).toArray.size≤sizeLine
  rw [MG,List.length_take,List.length_drop,Array.length_toList]
  omega
 have hj:eO items.size items.size hi≤items.size:=Hh _ _ (Mx _) hi
 obtain⟨os,hos,hcs,hds⟩:=id hs
 have hTs:s.TypeIs (.ref sl) "slice":=⟨os,hos,hcs⟩
 unfold getItem
 try with_reducible refine wpAny_holding ?_
 first | refine Mn (Mr ?_) | skip
 refine Mn (wpAny_sequenceKey ht.typeIs (by decide) ?_)
 refine Mn (wpAny_callSpecial?_slot (name:=Str.ofString "__getitem__") ht.typeIs PyProof.Rows.slot_tuple_getitem
  (wpAny_call_entry PyProof.Rows.slot_tuple_getitem ht.typeIs entry_tuple_getitem ?_ (args_tuple_getitem _ _)))
 show wpAny _ _ (Builtin.Tuple.tupleItemsOf (.ref t) >>= _) _ _ s
 refine Mn (tupleItemsOf_ ht ?_)
 refine Mn (wpAny_typeOf hTs ?_)
 rw [Mw (by decide)]
 refine Mn (nZ hs pl pu ?_)
 have hno:¬ ((((eO items.size 0 lo:Nat):Int) == 0 && (1:Int) == 1 && (eO items.size items.size hi - eO items.size 0 lo) == items.size)=true):=by
  intro q
  rw [Bool.and_eq_true,Bool.and_eq_true] at q
  have q1:((eO items.size 0 lo:Nat):Int)=0:=eq_of_beq q.1.1
  have q2:eO items.size items.size hi - eO items.size 0 lo=items.size:=eq_of_beq q.2
  exact hw ⟨by omega,by omega⟩
 show wpAny _ _ (if (((eO items.size 0 lo:Nat):Int) == 0 && (1:Int) == 1 && (eO items.size items.size hi - eO items.size 0 lo) == items.size)=true then _ else _) _ _ s
 rw [Ms hno,B7]
 first
  | exact Mn (m:=Builtin.Tuple.tupleExact _) (wpAny_newObj_type (Mr ⟨_,rfl,Mr h⟩) htake)
  | exact Mn (m:=Builtin.Tuple.tupleExact _) (wpAny_newObj_type (Mn (Mr (Mr ⟨_,rfl,Mr h⟩))) htake)
  | exact Mn (Mn (m:=Builtin.Tuple.tupleExact _) (wpAny_newObj_type (Mr (Mr ⟨_,rfl,Mr h⟩)) htake))
  | exact Mn (Mn (m:=Builtin.Tuple.tupleExact _) (wpAny_newObj_type (Mr ⟨_,rfl,Mr h⟩) htake))
end
end HT
namespace L2
open PySem PySem.Spec PyProof.Rows
abbrev TO:=St→Hp→(Option Int→Hp→Prop)→Prop
def PO (X:Cx) (e:Option Expr) (t:TO):Prop :=
 ∀(pins:List (Addr×Obj)) (s:Shared) (σ:St) (H:Hp) (Q:Option Int→Hp→Prop),Inv X pins σ H s→t σ H Q →
  wpAny (model X.prog X.w) X.A (evalPart e X.env) (fun u s'=>∃o H',Inv X pins σ H' s'∧IsPart u o∧Q o H') X.xe s
def FU:TO:=fun _ H Q=>Q none H
def Jx (t:TE):TO:=fun σ H Q=>t σ H fun x H1=>∃i,x=.int i∧Q (some i) H1
section
variable {X:Cx} {e:Expr} {te:TE} {lo hi:Option Expr} {tl th:TO} {pos p2:Pos}
theorem EN:PO X none FU:=by
 intro pins s σ H Q I h
 rw [evalPart_none]
 exact Mr ⟨none,H,I,.none,h⟩
theorem FP (h:PE X e te):PO X (some e) (Jx te):=by
 intro pins s σ H Q I hw
 rw [evalPart_some]
 refine bH (h pins s σ H _ I hw) fun u s1 hq0=>?_
 obtain⟨x,H1,I1,r1,q1⟩:=hq0
 obtain⟨i,rfl,q⟩:=q1
 obtain⟨t,rfl⟩:=r1
 exact⟨some i,H1,I1,.int i t,q⟩
def Fv (X:Cx) (r:V→Option Int→Option Int→Hp→VK→Prop):Prop :=
 ∀(pins:List (Addr×Obj)) (s:Shared) (σ:St) (H:Hp) (x:V) (v vl vu:Value) (lo hi:Option Int) (sl:Addr) (Q:VK),Inv X pins σ H s→RelV x v→s.heap.IsSliceOf sl vl vu .none→IsPart vl lo→IsPart vu hi→r x lo hi H Q →
  ∃T id,typeLookup (.type T) "__getitem__" = pure (some (.builtin id))∧s.TypeIs v T∧wpAny (model X.prog X.w) X.A (getItem v (.ref sl)) (EP X pins σ Q) X.xe s
theorem Fv.or {r r':V→Option Int→Option Int→Hp→VK→Prop} (h:Fv X r) (h':Fv X r'):Fv X (fun x lo hi H Q=>r x lo hi H Q∨r' x lo hi H Q):=by
 intro pins s σ H x v vl vu lo hi sl Q I rx hs pl pu q
 rcases q with q | q
 ·exact h pins s σ H x v vl vu lo hi sl Q I rx hs pl pu q
 ·exact h' pins s σ H x v vl vu lo hi sl Q I rx hs pl pu q
def Mi (r:V→Option Int→Option Int→Hp→VK→Prop) (te:TE) (tl th:TO):TE:=fun σ H Q=>te σ H fun x H1=>tl σ H1 fun l H2=>th σ H2 fun u H3=>r x l u H3 Q
theorem xp {r:V→Option Int→Option Int→Hp→VK→Prop} (hr:Fv X r) (he:PE X e te) (hl:PO X lo tl) (hu:PO X hi th):PE X (.Subscript e (.Slice lo hi none p2) pos) (Mi r te tl th):=by
 intro pins s σ H Q I h
 refine Subscript_ (bH (he pins s σ H _ I h) fun v s1 hq0=>?_)
 obtain⟨x,H1,I1,r1,q1⟩:=hq0
 refine wpAny_Slice (bH (hl pins s1 σ H1 _ I1 q1) fun vl s2 ⟨l,H2,I2,pl,q2⟩=>bH (hu pins s2 σ H2 _ I2 q2) fun vu s3 hq0=>?_)
 obtain⟨u,H3,I3,pu,q3⟩:=hq0
 rw [evalPart_none]
 refine Mr ?_
 have I4:Inv X pins σ H3 { s3 with heap:=s3.heap.push { cls:=.type "slice",data:=.fields #[vl,vu,.none] } }:=I3.kept (t':=s3.toks) fun b ob q=>Mz _ q
 obtain⟨T,id,hT,ht,hg⟩:=hr pins { s3 with heap:=s3.heap.push { cls:=.type "slice",data:=.fields #[vl,vu,.none] } } σ H3 x v vl vu l u s3.heap.objs.size Q I4 r1 (Heap.IsSliceOf.new ..) pl pu q3
 show wpAny (model X.prog X.w) X.A (subscriptTail e (.Slice lo hi none p2) v (.ref s3.heap.objs.size)) (EP X pins σ Q) X.xe { s3 with heap:=s3.heap.push { cls:=.type "slice",data:=.fields #[vl,vu,.none] } }
 exact tail_any (ops:=[.ref s3.heap.objs.size,v]) ht hT hg (by with_unfolding_all rfl)
def rK (xs:List V) (lo hi:Option Int):List V:=(xs.drop (HT.eO xs.length 0 lo)).take (HT.eO xs.length xs.length hi - HT.eO xs.length 0 lo)
theorem oD (xs:List V) (lo hi:Option Int):(rK xs lo hi).length≤xs.length:=by
 unfold rK
 rw [List.length_take,List.length_drop]
 omega
def KH (K:PySem.W.Frag):V→Option Int→Option Int→Hp→VK→Prop:=fun x lo hi H Q=>∃a xs,x=.ref a∧jv K H a xs ∧
 ¬ (HT.eO xs.length 0 lo=0∧HT.eO xs.length xs.length hi=xs.length)∧∀p,H p=none→Q (.ref p) (upd H p (.tup (rK xs lo hi)))
theorem Jb:Fv X (KH X.K):=by
 intro pins s σ H x v vl vu lo hi sl Q I rx hs pl pu h
 obtain⟨a,xs,rfl,hx,hw,q⟩:=h
 cases rx
 obtain⟨its,r,ht,hz⟩:=I.tuple hx
 have hlen:its.toArray.size=xs.length:=by rw [MG];exact r.length.symm
 refine⟨"tuple",_,PyProof.Rows.slot_tuple_getitem.lookup,ht.typeIs,?_⟩
 refine HT.mx ht hs pl pu (by rw [hlen];exact hw) ?_ (by rw [hlen];exact hz)
 rw [hlen]
 refine⟨.ref s.heap.objs.size,_,I.laid (t':=s.toks) (o:=.tup (rK xs lo hi)) (fun b ob q=>Mz _ q) (Mx _) ?_,rfl,q _ (I.hok.fresh (Mx _))⟩
 exact⟨M7 (oD xs lo hi) hz,_,(r.drop (HT.eO xs.length 0 lo)).take (HT.eO xs.length xs.length hi - HT.eO xs.length 0 lo),uo.new _ _⟩
def Gx (K:PySem.W.Frag):R2:=fun x y H Q=>∃a b xs ys,x=.ref a∧y=.ref b∧jv K H a xs∧jv K H b ys∧xs≠[]∧xs.length + ys.length≤sizeLine ∧
 (ys=[]→Q (.ref a) H)∧(ys≠[]→∀p,H p=none→Q (.ref p) (upd H p (.tup (xs ++ ys))))
theorem Vals.uG {xs:List V} {us:List Value} (r:Vals xs us):us=[]↔xs=[]:=by
 cases r with
 | nil=>simp
 | cons _ _=>simp
theorem El:iQ X (binaryOp .Add) (Gx X.K):=by
 intro pins s σ H x y v u Q I rx ry h
 obtain⟨a,b,xs,ys,rfl,rfl,ha,hb,hx,hz,q1,q2⟩:=h
 cases rx
 cases ry
 obtain⟨its,r1,p1,_⟩:=I.tuple ha
 obtain⟨its2,r2,p2,_⟩:=I.tuple hb
 refine HT.Ez p1 p2 (fun z=>hx (r1.uG.mp z)) (fun z=>⟨.ref a,H,I,rfl,q1 (r2.uG.mp z)⟩) (fun z=>?_) (by rw [← r1.length,← r2.length];exact hz)
 refine⟨.ref s.heap.objs.size,_,I.laid (t':=s.toks) (o:=.tup (xs ++ ys)) (fun b ob q=>Mz _ q) (Mx _) ?_,rfl,q2 (fun w=>z (r2.uG.mpr w)) _ (I.hok.fresh (Mx _))⟩
 exact⟨by rw [MS];exact hz,_,r1.append r2,uo.new _ _⟩
end
end L2
namespace L2
open PySem PySem.Spec PyProof.Rows
def uQ (n:Nat) (i:Int):Option Nat:=if 0≤i then (if i < n then some i.toNat else none) else if -(n:Int)≤i then some (i + n).toNat else none
def kU {α:Type} (xs:List α) (i:Int):Option α:=(uQ xs.length i).bind fun j=>xs[j]?
theorem pQ {n:Nat} {i:Int} {j:Nat} (h:uQ n i=some j):seqIndex? i n=some j∧j < n∧-(n:Int)≤i∧i < n:=by
 unfold uQ at h
 by_cases h0:0≤i
 ·rw [Mw h0] at h
  by_cases h1:i < n
  ·rw [Mw h1] at h
   have e:i.toNat=j:=My h
   exact⟨by rw [seqIndex_of h0 h1,e],by omega,by omega,h1⟩
  ·rw [Ms h1] at h;cases h
 ·rw [Ms h0] at h
  by_cases h1:-(n:Int)≤i
  ·rw [Mw h1] at h
   have e:(i + n).toNat=j:=My h
   exact⟨by rw [seqIndex_neg (by omega) h1,e],by omega,h1,by omega⟩
  ·rw [Ms h1] at h;cases h
theorem um {α:Type} {xs:List α} {i:Int} {v:α} (h:kU xs i=some v):∃j,seqIndex? i xs.length=some j∧xs[j]?=some v∧j < xs.length∧-(xs.length:Int)≤i∧i < xs.length:=by
 unfold kU at h
 cases e:uQ xs.length i with
 | none=>rw [e] at h;cases h
 | some j =>
  rw [e] at h
  obtain⟨h1,h2,h3,h4⟩:=pQ e
  exact⟨j,h1,h,h2,h3,h4⟩
def mj (b:Expr):Prop:=∀o i,subscripted b false o i=operate [o,i] (getItem o i)
def BQ (X:Cx) (r:R2):Prop :=
 ∀(value slice:Expr) (pins:List (Addr×Obj)) (s:Shared) (σ:St) (H:Hp) (x y:V) (v u:Value) (Q:VK),Inv X pins σ H s→RelV x v→RelV y u→r x y H Q →
  subscripted slice false v u=operate [v,u] (getItem v u)→wpAny (model X.prog X.w) X.A (subscriptTail value slice v u) (EP X pins σ Q) X.xe s
def L4 (X:Cx) (id:String) (r:V→List V→Hp→VK→Prop):Prop :=
 ∀(pins:List (Addr×Obj)) (s:Shared) (σ:St) (H:Hp) (x:V) (xs:List V) (v:Value) (us:List Value) (Q:VK),Inv X pins σ H s→RelV x v→Vals xs us→r x xs H Q →
  wpAny (model X.prog X.w) X.A (call (.builtin id) (v :: us)) (EP X pins σ Q) X.xe s
section
variable {X:Cx} {a b:Expr} {ta tb:TE} {pos:Pos}
theorem BQ.or {r r':R2} (h:BQ X r) (h':BQ X r'):BQ X (fun x y H Q=>r x y H Q∨r' x y H Q):=by
 intro value slice pins s σ H x y v u Q I rx ry q hs
 rcases q with q | q
 ·exact h value slice pins s σ H x y v u Q I rx ry q hs
 ·exact h' value slice pins s σ H x y v u Q I rx ry q hs
theorem zp {r:R2} (hr:BQ X r) (ha:PE X a ta) (hb:PE X b tb) (hs:mj b):PE X (.Subscript a b pos) (Je r ta tb):=by
 intro pins s σ H Q I h
 exact Subscript_ (HG ha hb I h fun v u s2 x y H2 I2 rx ry q=>hr a b pins s2 σ H2 x y v u Q I2 rx ry q (hs _ _))
def J2 (K:PySem.W.Frag):R2:=fun x y H Q=>∃p xs i v,x=.ref p∧y=.int i∧fL K H p xs∧kU xs i=some v∧Q v H
def JI (K:PySem.W.Frag):R2:=fun x y H Q=>∃p xs i v,x=.ref p∧y=.int i∧jv K H p xs∧kU xs i=some v∧Q v H
def Ku:R2:=fun x y H Q=>∃z i c,x=.str z∧y=.int i∧z.length≤sizeLine∧kU z.cps.toList i=some c∧Q (.str ⟨#[c]⟩) H
theorem zB:BQ X (J2 X.K):=by
 intro value slice pins s σ H x y v u Q I rx ry h hs
 obtain⟨p,xs,i,z,rfl,rfl,hq,he,q⟩:=h
 cases rx
 obtain⟨t,rfl⟩:=ry
 obtain⟨its,r,pl,hz⟩:=I.list hq
 obtain⟨j,h1,h2,h3,h4,h5⟩:=um he
 obtain⟨w,ew,rw'⟩:=r.get h2
 have hl:=r.length
 have hn:=nX
 have fin:EP X pins σ Q w s:=⟨z,H,I,rw',q⟩
 by_cases h0:0≤i
 ·have hj:i.toNat=j:=by
   rw [seqIndex_of h0 h5] at h1
   exact My h1
  exact item_listR pl.isList h0 (by omega) (by rw [hj];simpa using ew) fin hs
 ·have hj:(i + (its.toArray.size:Int)).toNat=j:=by
   rw [seqIndex_neg (by omega) h4] at h1
   rw [MG,← hl]
   exact My h1
  exact subscriptTail_builtinR (x:=w) pl.isList.typeIs slot_list_getitem.lookup
   (wpAny_getItem_list_neg (Q:=fun r s'=>r=w∧EP X pins σ Q r s') pl.isList (by omega) (by rw [MG] <;> omega) (by omega) (by rw [hj];simpa using ew) ⟨rfl,fin⟩) hs
theorem GU:BQ X (JI X.K):=by
 intro value slice pins s σ H x y v u Q I rx ry h hs
 obtain⟨p,xs,i,z,rfl,rfl,hq,he,q⟩:=h
 cases rx
 obtain⟨t,rfl⟩:=ry
 obtain⟨its,r,pl,hz⟩:=I.tuple hq
 obtain⟨j,h1,h2,h3,h4,h5⟩:=um he
 obtain⟨w,ew,rw'⟩:=r.get h2
 have hl:=r.length
 have hn:=nX
 have fin:EP X pins σ Q w s:=⟨z,H,I,rw',q⟩
 exact subscriptTail_builtinR (x:=w) pl.typeIs slot_tuple_getitem.lookup
  (getItem_tuple (j:=j) (Q:=fun r s'=>r=w∧EP X pins σ Q r s') pl (by omega) (by omega) (by rw [MG,← hl];exact h1) (by simpa using ew) ⟨rfl,fin⟩) hs
theorem IU:BQ X Ku:=by
 intro value slice pins s σ H x y v u Q I rx ry h hs
 obtain⟨z,i,c,rfl,rfl,hz,he,q⟩:=h
 obtain⟨t,rfl⟩:=rx
 obtain⟨t',rfl⟩:=ry
 obtain⟨j,h1,h2,h3,h4,h5⟩:=um he
 have hl:z.cps.toList.length=z.length:=by simp [Str.length]
 rw [hl] at h1 h4 h5
 have hn:=nX
 exact tail_any (typeIs_str s z t) slot_str_getitem.lookup (getItem_str (c:=c) (by
  have e1:decide (i < -(2 ^ 63:Int))=false:=decide_eq_false (by omega)
  have e2:decide (i≥2 ^ 63)=false:=decide_eq_false (by omega)
  rw [e1,e2,Bool.or_false]) (by rw [h1];simpa using h2) ⟨.str ⟨#[c]⟩,H,I.tok _,⟨_,rfl⟩,q⟩) hs
def Lz (K:PySem.W.Frag):R2:=fun x y H Q=>J2 K x y H Q∨JI K x y H Q∨Ku x y H Q
theorem B6:BQ X (Lz X.K):=zB.or (GU.or IU)
theorem yS (its:List Value) (n j:Nat) (u:Value):Obj.mapSeq (·.setIfInBounds j u) { cls:=.type "list",data:=.seq its.toArray n }={ cls:=.type "list",data:=.seq (its.set j u).toArray n }:=by
 simp [Obj.mapSeq]
theorem Inv.lst {pins:List (Addr×Obj)} {σ:St} {H:Hp} {s:Shared} {p:Addr} {xs:List V} (I:Inv X pins σ H s) (h:H p=some (.lst xs)) :
  ∃(its:List Value) (n:Nat),Vals xs its∧s.heap.get? p=some { cls:=.type "list",data:=.seq its.toArray n }∧xs.length≤sizeLine:=by
 obtain⟨z,its,n,r,e⟩:=I.hok p _ h
 exact⟨its,n,r,e,z⟩
theorem Inv.Ip {pins:List (Addr×Obj)} {σ:St} {H:Hp} {s:Shared} {p:Addr} {xs ys:List V} {its its':List Value} {n n':Nat} {f:Obj→Obj} (I:Inv X pins σ H s) (h:H p=some (.lst xs))
  (ho:s.heap.get? p=some { cls:=.type "list",data:=.seq its.toArray n }) (hf:f { cls:=.type "list",data:=.seq its.toArray n }={ cls:=.type "list",data:=.seq its'.toArray n' }) (r:Vals ys its') (hz:ys.length≤sizeLine) (t:Nat) :
  Inv X pins σ (upd H p (.lst ys)) { s with heap:=s.heap.update p f,toks:=t }:=by
 have e:(s.heap.update p f).get? p=some { cls:=.type "list",data:=.seq its'.toArray n' }:=by
  rw [Heap.get?_update_self f ho (by rw [hf] <;> rfl),hf]
 refine I.write (x:=p) (e:=p) (by rw [h];trivial) (.inl rfl) (fun b u hb q=>(Heap.get?_update_other _ _ (Ne.symm hb)).trans q) ⟨_,e⟩ ?_
 exact⟨hz,its',n',r,e⟩
def JC:V→V→V→Hp→(Hp→Prop)→Prop:=fun o i v H Q=>∃p xs k j,o=.ref p∧i=.int k∧H p=some (.lst xs)∧uQ xs.length k=some j∧Q (upd H p (.lst (xs.set j v)))
theorem set_list:Hx X JC:=by
 intro pins s σ H o i v ov iv u Q I ro ri rv h
 obtain⟨p,xs,k,j,rfl,rfl,hp,hj,q⟩:=h
 cases ro
 obtain⟨t,rfl⟩:=ri
 obtain⟨its,n,r,ho,hz⟩:=I.lst hp
 obtain⟨h1,h2,h3,h4⟩:=pQ hj
 have hl:=r.length
 have hn:=nX
 have I':Inv X pins σ (upd H p (.lst (xs.set j v))) { s with heap:=s.heap.update p (Obj.mapSeq (·.setIfInBounds j u)) } :=
  I.Ip hp ho (yS its n j u) (r.set rv j) (by rw [List.length_set];exact hz) s.toks
 by_cases h0:0≤k
 ·have hk:k.toNat=j:=by
   rw [seqIndex_of h0 h4] at h1
   exact My h1
  exact PySem.W.ki_setAt ho h0 (by omega) (by rw [MG,← hl];exact h4) (by rw [hk];exact⟨_,I',q⟩)
 ·have hk:(k + (its.toArray.size:Int)).toNat=j:=by
   rw [seqIndex_neg (by omega) h3] at h1
   rw [MG,← hl]
   exact My h1
  exact PySem.W.ki_setBack ho (by omega) (by rw [MG,← hl];exact h3) (by omega) (by rw [hk];exact⟨_,I',q⟩)
theorem uc (lo hi:Option Int) (n:Nat):(sliceBounds lo hi none n).1=((HT.eO n 0 lo:Nat):Int)∧(sliceBounds lo hi none n).2.1=((HT.eO n n hi:Nat):Int)∧(sliceBounds lo hi none n).2.2=1:=by
 refine⟨?_,?_,rfl⟩
 ·cases lo with
  | none=>simp [sliceBounds,HT.eO]
  | some i =>
   simp only [sliceBounds,HT.eO,Option.getD_none,show (1:Int) > 0 by decide,if_true]
   by_cases h:i < 0
   ·simp only [h,if_true] <;> omega
   ·simp only [h,if_false] <;> omega
 ·cases hi with
  | none=>simp [sliceBounds,HT.eO]
  | some i =>
   simp only [sliceBounds,HT.eO,Option.getD_none,show (1:Int) > 0 by decide,if_true]
   by_cases h:i < 0
   ·simp only [h,if_true] <;> omega
   ·simp only [h,if_false] <;> omega
theorem rZ (its:List Value) (lo hi:Option Int):slicePick its.toArray lo hi none=((its.drop (HT.eO its.length 0 lo)).take (HT.eO its.length its.length hi - HT.eO its.length 0 lo)).toArray:=by
 obtain⟨h1,h2,h3⟩:=uc lo hi its.toArray.size
 unfold slicePick
 rw [h1,h2,h3]
 simp only [sliceRange_one,pick_run,MG] <;> rfl
def LL (K:PySem.W.Frag):V→Option Int→Option Int→Hp→VK→Prop:=fun x lo hi H Q=>∃a xs,x=.ref a∧fL K H a xs∧∀p,H p=none→Q (.ref p) (upd H p (.lst (rK xs lo hi)))
theorem FG:Fv X (LL X.K):=by
 intro pins s σ H x v vl vu lo hi sl Q I rx hs pl pu h
 obtain⟨a,xs,rfl,hx,q⟩:=h
 cases rx
 obtain⟨its,r,ht,hz⟩:=I.list hx
 have hlen:=r.length
 refine⟨"list",_,slot_list_getitem.lookup,ht.isList.typeIs,?_⟩
 refine wpAny_getItem_list_slice ht.isList hs pl pu .none (by simp) ?_ (by rw [MG] <;> omega)
 rw [rZ,← hlen]
 refine⟨.ref s.heap.objs.size,_,I.laid (t':=s.toks) (o:=.lst (rK xs lo hi)) (fun b ob q=>Mz _ q) (Mx _) ?_,rfl,q _ (I.hok.fresh (Mx _))⟩
 exact⟨M7 (oD xs lo hi) hz,_,0,(r.drop (HT.eO xs.length 0 lo)).take (HT.eO xs.length xs.length hi - HT.eO xs.length 0 lo),MM _ rfl⟩
theorem mV:dB X (.builtin "len") (fun xs H Q=>∃p ys,xs=[.ref p]∧(fL X.K H p ys∨jv X.K H p ys)∧Q (.int ys.length) H):=by
 intro pins s σ H xs us Q I r h
 obtain⟨p,ys,rfl,hq,q⟩:=h
 obtain⟨u,rfl,rx⟩:=vals1 r
 cases rx
 have hn:=nX
 rcases hq with hq | hq
 ·obtain⟨its,r',pl,hz⟩:=I.list hq
  have hlen:=r'.length
  exact Calls.call_len_list pl.isList (by simp only [MG] <;> omega) ⟨.int ys.length,H,I.tok _,⟨s.toks + 1,by rw [MG,hlen]⟩,q⟩
 ·obtain⟨its,r',pl,hz⟩:=I.tuple hq
  have hlen:=r'.length
  exact len_tuple pl (by simp only [MG] <;> omega) ⟨.int ys.length,H,I.tok _,⟨s.toks + 1,by rw [MG,hlen]⟩,q⟩
theorem vm:dB X (.builtin "len") (fun xs H Q=>∃z,xs=[.str z]∧z.length≤sizeLine∧Q (.int z.length) H):=by
 intro pins s σ H xs us Q I r h
 obtain⟨z,rfl,hz,q⟩:=h
 obtain⟨u,rfl,t,rfl⟩:=vals1 r
 have hn:=nX
 exact len_str (by omega) ⟨.int z.length,H,I.tok _,⟨_,rfl⟩,q⟩
theorem dB.or {f:Value} {r r':List V→Hp→VK→Prop} (h:dB X f r) (h':dB X f r'):dB X f (fun xs H Q=>r xs H Q∨r' xs H Q):=by
 intro pins s σ H xs us Q I rs q
 rcases q with q | q
 ·exact h pins s σ H xs us Q I rs q
 ·exact h' pins s σ H xs us Q I rs q
theorem uE:dB X (.type "list") (fun xs H Q=>∃p ys,xs=[.ref p]∧(fL X.K H p ys∨jv X.K H p ys)∧∀l,H l=none→Q (.ref l) (upd H l (.lst ys))):=by
 intro pins s σ H xs us Q I r h
 obtain⟨p,ys,rfl,hq,q⟩:=h
 obtain⟨u,rfl,rx⟩:=vals1 r
 cases rx
 have fin:∀(its:List Value),Vals ys its→ys.length≤sizeLine→∀(h':Heap) (c':Nat),(∀b o',s.heap.get? b=some o'→h'.get? b=some o') →
   h'.get? s.heap.objs.size=some { cls:=.type "list",dict:=none,data:=.seq its.toArray c',slots:=#[] }→EP X pins σ Q (.ref s.heap.objs.size) { s with heap:=h' }:=fun its r' hz h' c' kp e =>
  ⟨.ref s.heap.objs.size,_,I.laid (t':=s.toks) kp (Mx _) (show bO X.prog X.w _ h' _ (.lst ys) from ⟨hz,its,c',r',e⟩),rfl,q _ (I.hok.fresh (Mx _))⟩
 rcases hq with hq | hq
 ·obtain⟨its,r',pl,hz⟩:=I.list hq
  have hlen:=r'.length
  obtain⟨o,ho,hc,n,hd⟩:=pl.isList
  exact call_list_seq p (.inl rfl) ho hc hd (fun h' c' kp e=>fin its r' hz h' c' kp e) (by simp only [MG] <;> omega)
 ·obtain⟨its,r',pl,hz⟩:=I.tuple hq
  have hlen:=r'.length
  obtain⟨o,ho,hc,n,hd⟩:=pl
  exact call_list_seq p (.inr rfl) ho hc hd (fun h' c' kp e=>fin its r' hz h' c' kp e) (by simp only [MG] <;> omega)
theorem se:dB X (.type "tuple") (fun xs H Q=>∃p ys,xs=[.ref p]∧((fL X.K H p ys∧∀l,H l=none→Q (.ref l) (upd H l (.tup ys)))∨(jv X.K H p ys∧Q (.ref p) H))):=by
 intro pins s σ H xs us Q I r h
 obtain⟨p,ys,rfl,h⟩:=h
 obtain⟨u,rfl,rx⟩:=vals1 r
 cases rx
 rcases h with ⟨hq,q⟩ | ⟨hq,q⟩
 ·obtain⟨its,r',pl,hz⟩:=I.list hq
  have hlen:=r'.length
  refine call_tuple_list pl.isList (fun h' kp=>?_) (by simp only [MG] <;> omega)
  have I1:Inv X pins σ H { s with heap:=h' }:=I.kept (t':=s.toks) kp
  have I2:Inv X pins σ (upd H h'.objs.size (.tup ys)) { s with heap:=h'.push { cls:=.type "tuple",data:=.seq its.toArray } } :=
   I1.laid (t':=s.toks) (fun b o e=>Mz _ e) (Mx _) (show bO X.prog X.w _ _ _ (.tup ys) from ⟨hz,its,r',uo.new _ _⟩)
  exact⟨.ref h'.objs.size,_,I2,rfl,q _ (I1.hok.fresh (Mx _))⟩
 ·obtain⟨its,r',pl,hz⟩:=I.tuple hq
  exact call_tuple_same pl ⟨.ref p,H,I,rfl,q⟩
def LU (K:PySem.W.Frag) (T:String) (x:V) (H:Hp):Prop:=match x with
 | .str _=>T = "str"
 | .int _=>T = "int"
 | .ref p=>(T = "list"∧∃xs,fL K H p xs)∨(T = "tuple"∧∃o,K.lookup p=some o∧o.cls=.type "tuple"∧o.dict=none) ∨
   (T = "dict"∧((∃kvs,H p=some (.dK kvs))∨∃kvs,H p=some (.dT kvs)))∨(T = "set"∧∃S n,H p=some (.set S n))
 | _=>False
theorem Iw {pins:List (Addr×Obj)} {σ:St} {H:Hp} {s:Shared} {T:String} {x:V} {v:Value} (I:Inv X pins σ H s) (r:RelV x v) (ty:LU X.K T x H) :
  s.TypeIs v T∧∀a,v=.ref a→∃ob,s.heap.get? a=some ob∧ob.dict=none:=by
 cases x with
 | str z =>
  obtain⟨t,rfl⟩:=r
  cases (show T = "str" from ty)
  exact⟨typeIs_str s z t,fun _ e=>nomatch e⟩
 | int i =>
  obtain⟨t,rfl⟩:=r
  cases (show T = "int" from ty)
  exact⟨typeIs_int s i t,fun _ e=>nomatch e⟩
 | ref p =>
  cases r
  rcases ty with ⟨rfl,xs,hq⟩ | ⟨rfl,o,hk,hc,hd⟩ | ⟨rfl,hk⟩ | ⟨rfl,S,n,hk⟩
  ·obtain⟨its,_,pl,_⟩:=I.list hq
   refine⟨pl.isList.typeIs,fun a e=>?_⟩
   cases e
   obtain⟨o,n,e,c,hd,_⟩:=pl
   exact⟨o,e,hd⟩
  ·refine⟨⟨o,I.tD p o hk,hc⟩,fun a e=>?_⟩
   cases e
   exact⟨o,I.tD _ o hk,hd⟩
  ·have z:∃o,s.heap.get? p=some o∧o.ExactDict:=by
    rcases hk with ⟨kvs,hk⟩ | ⟨kvs,hk⟩
    ·obtain⟨_,_,_,_,o,_,_,e,ex,_⟩:=I.hok p _ hk
     exact⟨o,e,ex⟩
    ·obtain⟨_,_,_,_,o,_,_,e,ex,_⟩:=I.hok p _ hk
     exact⟨o,e,ex⟩
   obtain⟨o,e,ex⟩:=z
   refine⟨⟨o,e,ex.1⟩,fun a e2=>?_⟩
   cases e2
   exact⟨o,e,ex.2.1⟩
  ·obtain⟨o,_,_,_,e,ex,_⟩:=I.hok p _ hk
   refine⟨⟨o,e,ex.1⟩,fun a e2=>?_⟩
   cases e2
   exact⟨o,e,ex.2.1⟩
 | _=>exact False.elim ty
def Mg (K:PySem.W.Frag) (T:String) (r:V→List V→Hp→VK→Prop) (to:TE) (t:TA):TE:=fun σ H Q=>to σ H fun x H1=>LU K T x H1∧t σ H1 fun xs H2=>r x xs H2 Q
variable {o e:Expr} {es:List Expr} {to:TE} {t:TA} {name:Str} {apos cpos:Pos} {T id:String} {r:V→List V→Hp→VK→Prop}
theorem wO (pa:PlainAttrs T) (slot:Slot T name id) (hty:typeOf (.builtin id)=pure (.type "method_descriptor")) (hm:L4 X id r) (ho:PE X o to) (ha:PA X (e :: es) t)
  (hbase:attributeBase o name X.env (eval o X.env)=eval o X.env:=by rfl)
  (hfew:((backTo cpos (starEach (e :: es) X.env)).all (fun x=>!x.1) && (backToKw cpos (keywordEach [] X.env)).all (fun x=>x.1.isSome)
   && decide ((e :: es).length + ([]:List Keyword).length + (if ([]:List Keyword).isEmpty then 0 else 1) < 30))=true:=by rfl)
  (hline:(apos.endLine == cpos.line)=true:=by rfl) (hs:starEach (e :: es) X.env=(false,eval e X.env) :: starEach es X.env:=by rfl) (hplain:(backTo cpos (starEach es X.env)).any (·.1)=false:=by rfl) :
  PE X (.Call (.Attribute o name apos) (e :: es) [] cpos) (Mg X.K T r to t):=by
 intro pins s σ H Q I h
 refine wpAny_Call_method_late hbase hfew hline rfl (bH (ho pins s σ H _ I h) fun v s1 hq0=>?_)
 obtain⟨x,H1,I1,r1,ty,q1⟩:=hq0
 obtain⟨h1,h2⟩:=Iw I1 r1 ty
 refine⟨T,id,pa,slot,hty,h1,h2,?_⟩
 have hA:=ha cpos pins s1 σ H1 _ I1 q1
 rw [hs] at hA ⊢
 refine Calls.callWith_builtin (by show (false || (backTo cpos (starEach es X.env)).any (·.1))=false;rw [hplain] <;> rfl) (Calls.evalArgs_plain ?_)
 exact bH hA fun us s2 ⟨vs,H2,I2,r2,q2⟩=>hm pins s2 σ H2 x vs v us Q I2 r1 r2 q2
end
end L2
namespace L2
open PySem PySem.Spec PyProof.Rows
def Lg (X:Cx) (id:String) (r:V→List V→Hp→VK→Prop):Prop :=
 ∀(pins:List (Addr×Obj)) (s:Shared) (σ:St) (H:Hp) (x:V) (xs:List V) (v:Value) (us:List Value) (Q:VK),Inv X pins σ H s→RelV x v→Vals xs us→r x xs H Q →
  wpAny (model X.prog X.w) X.A (call (.builtin id) (v :: us)) (EP X pins σ Q) X.xe s
theorem Vals.one:∀{x:V} {us:List Value},Vals [x] us→∃u,us=[u]∧RelV x u
 | _,_,.cons r .nil=>⟨_,rfl,r⟩
theorem Vals.two {x y:V} {us:List Value} (h:Vals [x,y] us):∃u v,us=[u,v]∧RelV x u∧RelV y v:=by
 cases h with
 | cons r q =>
  cases q with
  | cons q z=>cases z;exact⟨_,_,rfl,r,q⟩
theorem Vals.eraseIdx:∀{xs:List V} {us:List Value} (i:Nat),Vals xs us→Vals (xs.eraseIdx i) (us.eraseIdx i)
 | _,_,_,.nil=>.nil
 | _,_,0,.cons _ t=>t
 | _,_,i + 1,.cons r t=>.cons r (Vals.eraseIdx i t)
theorem sU {α:Type}:∀(l:List α) (i:Nat),(l.eraseIdx i).length≤l.length
 | [],_=>Mx _
 | _ :: _,0=>Nat.le_succ _
 | _ :: r,i + 1=>Nat.succ_le_succ (sU r i)
section
variable {X:Cx} {pins:List (Addr×Obj)} {σ:St} {H:Hp} {s:Shared} {l b:Addr} {xs ys zs:List V}
theorem Inv.HB {its its':List Value} {n:Nat} {f:Array Value→Array Value} {t':Nat} (I:Inv X pins σ H s) (hH:H l=some (.lst xs))
  (e:s.heap.get? l=some { cls:=.type "list",data:=.seq its.toArray n }) (hf:f its.toArray=its'.toArray) (hv:Vals ys its') (hz:ys.length≤sizeLine) :
  Inv X pins σ (upd H l (.lst ys)) { s with heap:=s.heap.update l (Obj.mapSeq f),toks:=t' }:=by
 have q:=PySem.IsL.update e f
 rw [hf] at q
 refine I.write (x:=l) (e:=l) (by rw [hH];exact trivial) (.inl rfl) (fun b' u hb hu=>(Heap.get?_update_other s.heap (Obj.mapSeq f) (Ne.symm hb)).trans hu) ⟨_,q⟩ ?_
 exact⟨hz,its',_,hv,q⟩
theorem Inv.KN {its:List Value} {t':Nat} (I:Inv X pins σ H s) (hv:Vals ys its) (hz:ys.length≤sizeLine) :
  Inv X pins σ (upd H s.heap.objs.size (.lst ys)) { s with heap:=s.heap.push { cls:=.type "list",data:=.seq its.toArray },toks:=t' } :=
 I.laid (fun _ _ q=>Mz _ q) (Mx _) ⟨hz,its,0,hv,MM _ rfl⟩
theorem Inv.fresh (I:Inv X pins σ H s):H s.heap.objs.size=none:=I.hok.fresh (Mx _)
theorem Inv.Ha (I:Inv X pins σ H s) (hH:H l=some (.lst xs)):xs.length≤sizeLine∧∃(its:List Value) (n:Nat),Vals xs its∧xs.length=its.length∧s.heap.get? l=some { cls:=.type "list",data:=.seq its.toArray n }:=by
 obtain⟨z,its,n,r,e⟩:=I.hok l _ hH
 exact⟨z,its,n,r,r.length,e⟩
end
section
variable {X:Cx}
def EX:V→List V→Hp→VK→Prop:=fun x vs H Q=>∃l xs y,x=.ref l∧vs=[y]∧H l=some (.lst xs)∧xs.length < sizeLine∧Q .non (upd H l (.lst (xs ++ [y])))
theorem sV:Lg X "list.append" EX:=by
 intro pins s σ H x vs v us Q I rx rv h
 obtain⟨l,xs,y,rfl,rfl,hH,hz,q⟩:=h
 cases rx
 obtain⟨u,rfl,ru⟩:=rv.one
 obtain⟨z,its,n,r,hl,e⟩:=I.Ha hH
 refine call_meets F.slot_list_append ⟨_,e,rfl⟩ F.entry_list_append (F.args_list_append_2 _ _) (PySem.list_append l its.toArray n u (by rw [MG];omega)) ⟨e,?_⟩
 refine⟨.non,_,I.HB (its':=its ++ [u]) hH e (by simp) (r.append (.cons ru .nil)) ?_,rfl,q⟩
 rw [MS,List.length_singleton]
 omega
def HR:V→List V→Hp→VK→Prop:=fun x vs H Q=>∃l xs i k y,x=.ref l∧vs=[.int i]∧H l=some (.lst xs)∧-(2 ^ 63)≤i∧i < 2 ^ 63∧seqIndex? i xs.length=some k∧xs[k]?=some y∧Q y (upd H l (.lst (xs.eraseIdx k)))
theorem wo:Lg X "list.pop" HR:=by
 intro pins s σ H x vs v us Q I rx rv h
 obtain⟨l,xs,i,k,y,rfl,rfl,hH,h1,h2,hk,hy,q⟩:=h
 cases rx
 obtain⟨u,rfl,ru⟩:=rv.one
 obtain⟨t,rfl⟩:=ru
 obtain⟨z,its,n,r,hl,e⟩:=I.Ha hH
 obtain⟨w,hw,rw'⟩:=r.get hy
 refine call_meets F.slot_list_pop ⟨_,e,rfl⟩ F.entry_list_pop (F.args_list_pop_2 _ _)
  (MeetsSeq.list_pop_at l its.toArray n i t k w (fitsIndex_both h1 h2) (by rw [MG,← hl];exact hk) (by rw [← Array.getElem?_toList];exact hw) (by rw [MG];omega)) ⟨e,?_⟩
 refine⟨y,_,I.HB (its':=its.eraseIdx k) hH e ?_ (r.eraseIdx k) ?_,rw',q⟩
 ·show its.toArray.eraseIdxIfInBounds k=(its.eraseIdx k).toArray
  rw [List.eraseIdxIfInBounds_toArray]
 ·have:=sU xs k
  omega
end
end L2
namespace Att
open PySem PySem.W PySem.Calls PyProof.Rows
theorem o7 {P:Params} {h:Heap}:∀(ns:List Int) (vs:List Value),WellAll P h vs (ns.map WData.int)→IntsAre vs ns:=by
 intro ns
 induction ns with
 | nil =>
  intro vs w
  rw [List.map_nil] at w
  cases w
  exact .nil
 | cons n ns ih =>
  intro vs w
  rw [MQ] at w
  cases w with
  | cons a b =>
   cases a
   exact .cons _ _ (ih _ b)
theorem Bl {l:OpenLaw} {n:Nat} (hn:l.most=some n) {P:Params} {h:Heap} {args:List WData} {vals:List Value}
  (hpre:l.row.toRowW.claim.pre args=true) (hwl:WellAll P h vals args) :
  ∃a vs ns,vals=[Value.ref a]∧args=[WData.list (ns.map WData.int)]∧h.get? a=some { cls:=.type "list",data:=.seq vs.toArray }∧IntsAre vs ns∧ns.length≤n:=by
 have hsh:WShape.hasAll [] args [.list .int]=true:=(pre_splitW hpre).1
 have hc:l.pre.holds [] { args:=args }=true:=(pre_splitW hpre).2
 obtain⟨d,r,rfl,h1,h2⟩:=hasAllW_cons hsh
 obtain rfl:=hasAllW_nil h2
 obtain⟨xs,rfl,h3⟩:=hasW_list h1
 obtain⟨ns,rfl⟩:=items_int h3
 have hlen:ns.length≤n:=by
  unfold OpenLaw.pre at hc
  have h4:(WTm.not (.lt (.lit (.int (n:Int))) (.len (.arg 0)))).holds [] { args:=[.list (ns.map .int)] }=true:=by
   have h4:=(holds_andW hc).1
   rw [hn] at h4
   exact h4
  have h5:=condW_of h4 (w_not (w_lt w_lit (w_len_list (w_arg rfl))))
  rw [MB] at h5
  refine Nat.le_of_not_lt fun q=>?_
  have q':(n:Int) < ((ns.length:Nat):Int):=by omega
  first
   | (rw [decide_eq_true q'] at h5;exact absurd h5 (by decide))
   | (simp at h5;omega)
 cases hwl with
 | cons w1 w2 =>
  cases w2
  cases w1 with
  | list ho hall=>exact⟨_,_,ns,rfl,rfl,ho,o7 ns _ hall,hlen⟩
theorem Ax (l:OpenLaw) (args:List WData):l.row.toRowW.claim.post args (.bool true) args=true :=
 postW_of (r:=l.row.toRowW) (X:=(true == true))
  (show WShape.has [] (.bool true) .bool=true by first | rfl | decide | simp [WShape.has,WShape.arms,WShape.armsAll])
  (show (WTm.eq .res (.lit (.bool true))).value [] { args:=args,res:=some (.bool true),after:=args }=some (.bool (true == true)) from w_eq_bool (w_res rfl) w_lit) rfl
theorem wF {l:OpenLaw} {n:Nat} {q:Program} {loose:List Str} {XP:(Str→Option Value)→Heap→Prop} {YP:World→Heap→Prop} {d:DefRec}
  (hn:l.most=some n) (hdf:d.params.defaults=[])
  (call:∀(w:World) (s₀ s₁:Shared) (mg mb:Str→Option Value) (fa:Addr) (o:Obj) (pm cd doc:Value) (a:Addr) (vs:List Value) (ns:List Int),
   Ground q loose [] XP w s₀ mg mb s₁.heap→YP w s₁.heap →
   s₁.heap.get? fa=some o→o.data=.func (docDef d.name d.params d.body d.scope pm cd doc)→s₁.heap.CodeRec cd d.name→mg d.name=some (.ref fa) →
   s₁.heap.get? a=some { cls:=.type "list",data:=.seq vs.toArray }→IntsAre vs ns→ns.length≤n→s₁.gens=#[] →
   codeAny (model l.prog w) callerA (.call (.ref fa) ⟨[.ref a],[]⟩) (fun r s'=>r=.ok (.ret (.bool true))∧OldK s₁.heap s'.heap∧s'.os=s₁.os∧AllBare s'.gens) s₁) :
  WalkO q loose XP YP l.row.toRowW d [] (fun f vs=>PySem.call f vs):=by
 intro w s₀ s₁ mg mb G Y fa o pm cd doc dV kV ho hd hcd hD hmg hg args vals as hpre hlay hrd hwl hlo
 obtain rfl:dV=.none:=Dflts.none hD hdf
 obtain rfl:kV=.none:=Dflts.noKw hD
 obtain⟨a,vs,ns,rfl,rfl,hobj,hints,hlen⟩:=Bl hn hpre hwl
 refine enter_call (codeAny_mono (call w s₀ s₁ mg mb fa o pm cd doc a vs ns G Y ho (fd_plain hd) hcd hmg hobj hints hlen hg) fun r s' hq=>?_)
 obtain⟨rfl,h2,h3,h4⟩:=hq
 exact⟨.inl ⟨.bool true,.bool true,[],rfl,fun _=>rfl,.bool true,Ax l _,fun _=>⟨List.Pairwise.nil,fun _ hm=>(nomatch hm)⟩⟩,h2,h3,h4⟩
end Att
namespace L2
open PySem PySem.Spec PyProof.Rows
theorem kH:∀{vs:List Value} {ns:List Int},IntsAre vs ns→Vals (ns.map V.int) vs
 | _,_,.nil=>.nil
 | _,_,.cons n t h=>.cons ⟨t,rfl⟩ (kH h)
def HV (H:Hp):Prop:=∀b,H b=none∨∃o xs,H b=some (.frz o (.lst xs))
theorem CH {P:Program} {w:World} {K:PySem.W.Frag} {mg mb:Str→Option Value} {CX:Dl} {k:Nat} {fa a:Addr} {fd:FuncData} {x:Str} {sp:Sp} {s₁:Shared} {vs:List Value} {ns:List Int}
  (KX:K.In s₁.heap) (hns:s₁.heap.Ns mainGlobals mg) (hb:s₁.heap.Ns builtinsNs mb) (hbb:∀x:Str,x≠"__name__"→mb x=bootBuiltins x) (hlim:s₁.heap.NoLimit) (hg:s₁.gens=#[])
  (ha:s₁.heap.get? a=some { cls:=.type "list",data:=.seq vs.toArray }) (hi:IntsAre vs ns) (hl:ns.length≤sizeLine) (hr:di k callerA)
  (F:∀base:Heap,K.In base→base.Ns mainGlobals mg→nV P w K mg base CX k fa fd [x] sp) (hbind:∀(s:Shared) (u:Value),BindsTo s fd ⟨[u],[]⟩ [(x,u)])
  (hsp:∀H:Hp,HV H→fL K H a (ns.map V.int)→sp [.ref a] H (fun v _=>v=.bl true) fun _ _ _=>False)
  (hCX:∀H e s',CX [] H s₁ (fun _ _ _=>False) e s'→False) :
  codeAny (model P w) callerA (.call (.ref fa) ⟨[.ref a],[]⟩) (fun r s'=>r=.ok (.ret (.bool true))∧OldK s₁.heap s'.heap∧s'.os=s₁.os∧AllBare s'.gens) s₁:=by
 have rv:=kH hi
 have lenV:=hi.length
 have core:∀H:Hp,HV H→fL K H a (ns.map V.int)→lB P w H s₁.heap→(∀b,H b≠none→b=a)→(H a≠none→K.lookup a=none) →
   codeAny (model P w) callerA (.call (.ref fa) ⟨[.ref a],[]⟩) (fun r s'=>r=.ok (.ret (.bool true))∧OldK s₁.heap s'.heap∧s'.os=s₁.os∧AllBare s'.gens) s₁:=by
  intro H hO hS hok hA hK
  have base_of:∀{b:Addr} {o:Obj},s₁.heap.get? b=some o→H b=none→(vA s₁.heap H).get? b=some o:=fun e n=>Br e n
  have noA:∀{b:Addr} {o:Obj} {es:Array DictEntry} {ep:Nat},s₁.heap.get? b=some o→o.data=.dict es ep→H b=none:=fun {b o es ep} e d=>by
   cases q:H b with
   | none=>rfl
   | some u =>
    have e':b=a:=hA b (by rw [q];simp)
    subst e'
    rw [ha] at e;cases e
    have d':Data.seq vs.toArray _=Data.dict es ep:=d
    cases d'
  have nsK:∀{b:Addr} {m:Str→Option Value},s₁.heap.Ns b m→(vA s₁.heap H).Ns b m:=fun {b m} ⟨o,es,ep,e,d,r⟩=>⟨o,es,ep,base_of e (noA e d),d,r⟩
  have hKb:K.In (vA s₁.heap H):=fun b o e=>base_of (KX b o e) (by
   cases q:H b with
   | none=>rfl
   | some u =>
    have e':b=a:=hA b (by rw [q];simp)
    subst e'
    rw [hK (by rw [q];simp)] at e;cases e)
  have hM:Mod K mg (vA s₁.heap H):=⟨hKb,nsK hns,⟨mb,nsK hb,hbb⟩,let ⟨mc,h1,h2⟩:=hlim;⟨mc,nsK h1,h2⟩⟩
  have e0:A9 P w K mg (vA s₁.heap H) callerA [] s₁ H:=⟨rfl,hM,fun b o e=>Fi e,Nat.le_of_eq (A0 _ _),trivial,fun b hb=>absurd (show b∈([]:List Addr) from hb) (by simp),hok,.of_eq hg⟩
  refine codeAny_mono ((F _ hKb (nsK hns)).run callerA [] s₁ H ⟨[.ref a],[]⟩ [.ref a] [.ref a] _ _ hr e0 (hbind s₁ (.ref a)) (.cons rfl .nil) (hsp H hO hS)) fun r s' h=>?_
  cases r with
  | error e=>exact (hCX H e s' h).elim
  | ok fl =>
   cases fl with
   | next=>exact False.elim h
   | brk=>exact False.elim h
   | cont=>exact False.elim h
   | ret u =>
    obtain⟨v,H',os,bare,un,hok',r',q⟩:=h
    have q':v=.bl true:=q
    subst q'
    obtain rfl:u=Value.bool true:=r'
    refine⟨rfl,OldK.of_keep fun b o e=>?_,os,bare⟩
    cases q:H b with
    | none=>exact un.keep b o e q (by intro z;exact absurd (show b∈([]:List Addr) from z) (by simp)) (by simp)
    | some u =>
     rcases hO b with z | ⟨ob,xs,z⟩
     ·rw [q] at z;cases z
     ·have z2:=un.frzs b ob _ z
      obtain⟨e1,_⟩:=hok b _ z
      obtain⟨e2,_⟩:=hok' b _ z2
      rw [e] at e1;cases e1
      exact e2
 cases hk:K.lookup a with
 | some o =>
  have e:=KX a o hk
  rw [ha] at e
  cases e
  refine core (fun _=>none) (fun _=>.inl rfl) (.inr ⟨_,vs.toArray,_,hk,rfl,rfl,rfl,by rw [MG,lenV];exact hl,by simpa using rv⟩) (fun b u z=>by have z':(none:Option HO)=some u:=z;cases z') (fun b z=>absurd rfl z) fun z=>absurd rfl z
 | none =>
  refine core (fun b=>if b=a then some (.frz { cls:=.type "list",data:=.seq vs.toArray } (.lst (ns.map V.int))) else none) (fun b=>?_) (.inl (.inr ⟨{ cls:=.type "list",data:=.seq vs.toArray },Mw rfl⟩)) (fun b u z=>?_) (fun b z=>?_) fun _=>hk
  ·by_cases hb:b=a
   ·exact .inr ⟨_,_,Mw hb⟩
   ·exact .inl (Ms hb)
  ·by_cases hb:b=a
   ·have z':=(Mw hb).symm.trans z
    cases z'
    subst hb
    exact⟨ha,by rw [MB];exact hl,vs,_,rv,ha⟩
   ·have z':=(Ms hb).symm.trans z
    cases z'
  ·by_cases hb:b=a
   ·exact hb
   ·exact absurd (Ms hb) z
end L2
namespace L2
open PySem PySem.Spec PyProof.Rows
theorem Em {l:PySem.W.OpenLaw} {n k:Nat} {q:Program} {loose:List Str} {XP:(Str→Option Value)→Heap→Prop} {YP:World→Heap→Prop} {d:DefRec} {K:Params→PySem.W.Frag} {CX:World→Dl} {sp:World→Sp} {x:Str}
  (hn:l.most=some n) (hn2:n≤sizeLine) (hdf:d.params.defaults=[]) (hr:di k callerA)
  (hY:∀(w:World) (h:Heap),YP w h→(K w.params).In h)
  (F:∀(w:World) (mg:Str→Option Value) (fa:Addr) (h:Heap),(K w.params).In h→h.Ns mainGlobals mg→mg d.name=some (.ref fa) →
   ∃fd:FuncData,(∀(s:Shared) (u:Value),BindsTo s fd ⟨[u],[]⟩ [(x,u)]) ∧
    ∀base:Heap,(K w.params).In base→base.Ns mainGlobals mg→nV l.prog w (K w.params) mg base (CX w) k fa fd [x] (sp w))
  (hsp:∀(w:World) (H:Hp) (a:Addr) (ns:List Int),ns.length≤n→HV H→fL (K w.params) H a (ns.map V.int)→sp w [.ref a] H (fun v _=>v=.bl true) fun _ _ _=>False)
  (hCX:∀(w:World) (H:Hp) (s:Shared) (e:Value) (s':Shared),CX w [] H s (fun _ _ _=>False) e s'→False) :
  PySem.W.WalkO q loose XP YP l.row.toRowW d [] (fun f vs=>PySem.call f vs):=by
 refine Att.wF hn hdf fun w s₀ s₁ mg mb fa o pm cd doc a vs ns G Y ho hd hcd hmg hobj hints hlen hg=>?_
 have KX:=hY w _ Y
 obtain⟨fd,hb,hF⟩:=F w mg fa _ KX G.T.g hmg
 exact CH KX G.T.g G.T.b G.T.builtins G.T.nolimit hg hobj hints (M7 hlen hn2) hr hF hb (fun H hO hS=>hsp w H a ns hlen hO hS) fun H e s'=>hCX w H s₁ e s'
end L2
namespace L2
open PySem PySem.Spec PyProof.Rows
def dN (s:Stmt):Arguments:=match s with
 | .FunctionDef _ a _ _ _ _ _ _ _ _=>a
 | _=>{ posonlyargs:=[],args:=[],vararg:=none,kwonlyargs:=[],kw_defaults:=[],kwarg:=none,defaults:=[] }
def bp (s:Stmt):List Stmt:=match s with
 | .FunctionDef _ _ b _ _ _ _ _ _ _=>b
 | _=>[]
def ak (s:Stmt):Scope:=match s with
 | .FunctionDef _ _ _ _ _ _ sc _ _ _=>sc
 | _=>{ kind:=.function,names:=[],isGenerator:=false,isCoroutine:=false }
abbrev tH:Dl:=fun _ _ _ _ _ _=>False
abbrev E0:XK:=fun _ _ _=>False
theorem Aq {X:Cx}:Passes tH X E0:=fun _ _ _ _ _ _ _ h=>h.elim
structure pz (K:PySem.W.Frag) (x qual:Str) (st:Stmt) (f:Addr) (fd:FuncData):Prop where
 ex:∃(oc:Value) (od:Option Addr) (kV doc pm:Value) (an:Option Addr) (cdv ct:Value) (osl:Array (Option Value)),
  fd=PySem.W.fnOf x qual (dN st) (bp st) (ak st) .none kV doc pm an cdv ct∧K.lookup f=some ⟨oc,od,.func fd,osl⟩∧PySem.W.codeIn K cdv qual=true
 kp:PySem.W.keepIn K (.ref f)=true
section
variable {P:Program} {w:World} {K:PySem.W.Frag} {mg:Str→Option Value} {base:Heap}
theorem pz.ok {x qual:Str} {st:Stmt} {f:Addr} {fd:FuncData} {N ps:List Str} {k:Nat} {sp:Sp} (F:pz K x qual st f fd) (S:aH N ps (ak st)) (len:∀vs H Q E,sp vs H Q E→vs.length=ps.length)
  (hbody:∀(cdv:Value) (A:Around) (outer:List Env) (s:Shared) (H:Hp) (vs:List V) (Q:VK) (E:XK),di k (A.deeper (envOfC qual (ak st) s.heap.objs.size f cdv))→sp vs H Q E →
   ∃t,xD (gO tH P w K mg base N qual (ak st) f cdv A outer s H E).oZ (bp st) t∧t { nx:=fun _ H'=>Q .non H',rt:=Q } (start N vs) H):nV P w K mg base tH (k + 1) f fd ps sp:=by
 obtain⟨oc,od,kV,doc,pm,an,cdv,ct,osl,rfl,lk,hcd⟩:=F.ex
 refine An lk hcd S len fun A outer s H vs Q E hr hsp=>?_
 obtain⟨t,h,q⟩:=hbody cdv A outer s H vs Q E hr hsp
 exact⟨t,h.oZ,q⟩
theorem pz.binds {x qual:Str} {st:Stmt} {f:Addr} {fd:FuncData} {ps:List Str} (F:pz K x qual st f fd)
  (h:∀(kV doc pm:Value) (an:Option Addr) (cdv ct:Value) (us:List Value),us.length=ps.length→bindArgs (PySem.W.fnOf x qual (dN st) (bp st) (ak st) .none kV doc pm an cdv ct) ⟨us,[]⟩=pure (ps.zip us)):Binds K fd ps []:=by
 obtain⟨oc,od,kV,doc,pm,an,cdv,ct,osl,rfl,lk,hcd⟩:=F.ex
 exact .all (h kV doc pm an cdv ct)
theorem CJ {x qual:Str} {st:Stmt} {f:Addr} {oc:Value} {od an:Option Addr} {osl:Array (Option Value)} {kV doc pm cdv ct:Value} (l:K.lookup f=some ⟨oc,od,.func (PySem.W.fnOf x qual (dN st) (bp st) (ak st) .none kV doc pm an cdv ct),osl⟩)
  (c:PySem.W.codeIn K cdv qual=true) (k:PySem.W.keepIn K (.ref f)=true):pz K x qual st f (PySem.W.fnOf x qual (dN st) (bp st) (ak st) .none kV doc pm an cdv ct):=⟨⟨oc,od,kV,doc,pm,an,cdv,ct,osl,rfl,l,c⟩,k⟩
end
def ar (H H':Hp):Prop:=∀b o,H b=some o→H' b=some o
theorem ar.refl (H:Hp):ar H H:=fun _ _ h=>h
theorem ar.trans {H H1 H2:Hp} (a:ar H H1) (b:ar H1 H2):ar H H2:=fun c o h=>b c o (a c o h)
theorem ar.free {H H':Hp} (e:ar H H') {l:Addr} (h:H' l=Option.none):H l=Option.none:=by
 cases q:H l with
 | none=>rfl
 | some o =>
  rw [e l o q] at h
  cases h
theorem ar.seq {K:PySem.W.Frag} {H H':Hp} {a:Addr} {xs:List V} (e:ar H H') (h:fL K H a xs):fL K H' a xs:=by
 rcases h with (h | ⟨o,h⟩) | h
 ·exact .inl (.inl (e _ _ h))
 ·exact .inl (.inr ⟨o,e _ _ h⟩)
 ·exact .inr h
end L2
set_option maxHeartbeats 8000000
namespace L2
open PySem PySem.Spec PyProof.Rows
section
variable {κ:Type} [DecidableEq κ]
def mz (kvs:List (κ×V)) (k:κ):Option V:=(kvs.find? fun kv=>decide (kv.1=k)).map (·.2)
def putK (kvs:List (κ×V)) (k:κ) (v:V):List (κ×V) :=
 if (kvs.any fun kv=>decide (kv.1=k))=true then kvs.map (fun kv=>if kv.1=k then (kv.1,v) else kv) else kvs ++ [(k,v)]
theorem mf {p:κ×V} {r:List (κ×V)} {k:κ} (e:p.1=k):mz (p :: r) k=some p.2:=by simp [mz,List.find?_cons,e]
theorem mn {p:κ×V} {r:List (κ×V)} {k:κ} (e:¬ p.1=k):mz (p :: r) k=mz r k:=by simp [mz,List.find?_cons,e]
theorem p5 (k:κ):∀kvs:List (κ×V),(kvs.any fun kv=>decide (kv.1=k))=(mz kvs k).isSome
 | []=>rfl
 | p :: r=>by
  rw [List.any_cons]
  by_cases e:p.1=k
  ·simp only [mf e,decide_eq_true e,Bool.true_or,Option.isSome_some]
  ·rw [mn e,decide_eq_false e,Bool.false_or];exact p5 k r
theorem vM (kvs:List (κ×V)) (k:κ) (v:V):(putK kvs k v).length≤kvs.length + 1:=by
 unfold putK
 split
 ·rw [MB];omega
 ·rw [MS,List.length_cons,List.length_nil];omega
theorem BY {kvs:List (κ×V)} {k:κ} (v:V) (h:mz kvs k=none):putK kvs k v=kvs ++ [(k,v)]:=by
 unfold putK
 rw [p5,h]
 exact Ms (by decide)
theorem KV.val {kvs:List (κ×V)} {vs:List (κ×Value)} (r:KV kvs vs) (k:κ):wM (mz kvs k) (valueAt vs k):=by
 unfold KV at r
 induction r with
 | nil=>exact True.intro
 | @cons p q ps qs h t ih =>
  obtain⟨h1,h2⟩:=h
  by_cases e:p.1=k
  ·have e':q.1=k:=h1.symm.trans e
   have b:valueAt (q :: qs) k=some q.2:=by simp [valueAt,List.find?_cons,e']
   rw [mf e,b];exact h2
  ·have e':¬ q.1=k:=fun z=>e (h1.trans z)
   have b:valueAt (q :: qs) k=valueAt qs k:=by simp [valueAt,List.find?_cons,e']
   rw [mn e,b];exact ih
theorem KV.any {kvs:List (κ×V)} {vs:List (κ×Value)} (r:KV kvs vs) (k:κ):(kvs.any fun kv=>decide (kv.1=k))=vs.any fun kv=>decide (kv.1=k):=by
 unfold KV at r
 induction r with
 | nil=>rfl
 | cons h t ih=>rw [List.any_cons,List.any_cons,ih,h.1]
theorem KV.KS {kvs:List (κ×V)} {vs:List (κ×Value)} (r:KV kvs vs) (k:κ) {y:V} {u:Value} (ry:RelV y u) :
  KV (kvs.map fun kv=>if kv.1=k then (kv.1,y) else kv) (vs.map fun kv=>if kv.1=k then (kv.1,u) else kv):=by
 unfold KV at r ⊢
 induction r with
 | nil=>exact .nil
 | @cons p q ps qs h t ih =>
  rw [MQ,MQ]
  refine .cons ?_ ih
  obtain⟨h1,h2⟩:=h
  by_cases e:p.1=k
  ·rw [Mw e,Mw (h1.symm.trans e)];exact⟨h1,ry⟩
  ·rw [Ms e,Ms (fun z=>e (h1.trans z))];exact⟨h1,h2⟩
theorem KV.put {kvs:List (κ×V)} {vs:List (κ×Value)} (r:KV kvs vs) (k:κ) {y:V} {u:Value} (ry:RelV y u):KV (putK kvs k y) (stored vs k u):=by
 unfold putK stored
 rw [r.any k]
 by_cases e:(vs.any fun kv=>decide (kv.1=k))=true
 ·rw [Mw e,Mw e];exact r.KS k ry
 ·rw [Ms e,Ms e];exact Paired.snoc r ⟨rfl,ry⟩
theorem KV.length {kvs:List (κ×V)} {vs:List (κ×Value)} (r:KV kvs vs):kvs.length=vs.length:=Paired.length r
end
theorem DL {P:Program} {w:World} {k:Key} {u:Value} (r:RelV (kV k) u):(cK P w).is k u=true:=by
 cases k with
 | inl i=>obtain⟨t,e⟩:=(show ∃t,u=Value.int i t from r);subst e;exact xf P w i t
 | inr x=>obtain⟨t,e⟩:=(show ∃t,u=Value.str x t from r);subst e;exact vO P w x t
theorem sD {P:Program} {w:World}:∀{ks:List Key} {us:List Value},Vals (ks.map kV) us→ItemsAre (cK P w) ks us
 | [],_,r=>by rw [List.map_nil] at r;cases r;exact .nil
 | k :: ks,_,r=>by
  rw [MQ] at r
  cases r with
  | cons h t=>exact .cons (DL h) (sD t)
abbrev KT (H:Hp):List (List Key×V)→List (List Key×Addr×Value)→Prop:=Paired fun p q=>p.1=q.1∧H q.2.1=some (.tup (p.1.map kV))∧RelV p.2 q.2.2
theorem KT.val {H:Hp} {kvs:List (List Key×V)} {xs:List (List Key×Addr×Value)} (r:KT H kvs xs) (k:List Key):wM (mz kvs k) ((atKey xs k).map (·.2)):=by
 induction r with
 | nil=>exact True.intro
 | @cons p q ps qs h t ih =>
  obtain⟨h1,_,h2⟩:=h
  by_cases e:p.1=k
  ·have e':q.1=k:=h1.symm.trans e
   have b:atKey (q :: qs) k=some q.2:=by simp [atKey,List.find?_cons,e']
   rw [mf e,b];exact h2
  ·have e':¬ q.1=k:=fun z=>e (h1.trans z)
   have b:atKey (q :: qs) k=atKey qs k:=by simp [atKey,List.find?_cons,e']
   rw [mn e,b];exact ih
section
variable {P:Program} {w:World} {H:Hp} {h:Heap} {a:Addr}
theorem GD {u:HO} (ok:lB P w H h) (e:Rd H a u):bO P w H h a u:=e.ok ok
theorem Ea {kvs:List (Key×V)} (ok:lB P w H h) (e:Rd H a (.dK kvs)):kvs.length≤sizeLine∧(a == sysModules)=false∧∃vs,KV kvs vs∧h.DictOf (cK P w) a vs :=
 show bO P w H h a (.dK kvs) from GD ok e
theorem Jo {kvs:List (Key×V)} (ok:lB P w H h) (e:H a=some (.dK kvs)):kvs.length≤sizeLine∧(a == sysModules)=false∧∃vs,KV kvs vs∧h.DictOf (cK P w) a vs:=Ea ok (.inl e)
theorem CD {ks:List Key} (ok:lB P w H h) (e:H a=some (.tup (ks.map kV))):(tupleKind (cK P w)).is h ks a:=by
 obtain⟨_,its,r,o,h1,h2,⟨n,h3⟩,_⟩:=(show bO P w H h a (.tup (ks.map kV)) from ok a _ e)
 exact⟨o,its.toArray,n,h1,h2,h3,by simpa using sD r⟩
theorem GG {kvs:List (List Key×V)} (ok:lB P w H h) (e:Rd H a (.dT kvs)):kvs.length≤sizeLine∧(a == sysModules)=false ∧
  ∃xs,KT H kvs xs∧h.DictOfH (tupleKind (cK P w)) a xs:=by
 obtain⟨z,y,xs,r,o,es,ep,h1,h2,h3,h4,h5⟩:=(show bO P w H h a (.dT kvs) from GD ok e)
 refine⟨z,y,xs,r,o,es,ep,h1,h2,h3,h4,fun x hx=>?_,h5⟩
 have all:∀{l:List (List Key×V)} {m:List (List Key×Addr×Value)},KT H l m→∀x∈m,(tupleKind (cK P w)).is h x.1 x.2.1:=by
  intro l m q
  induction q with
  | nil=>intro x hx;exact nomatch hx
  | @cons p q ps qs hq t ih =>
   intro x hx
   rcases ML.mp hx with e | hx
   ·subst e
    exact CD ok (by rw [← hq.1];exact hq.2.1)
   ·exact ih x hx
 exact all r x hx
end
def B0 (H:Hp) (a:Addr) (y:V) (r:Option V):Prop :=
 (∃kvs k,Rd H a (.dK kvs)∧y=kV k∧r=mz kvs k)∨∃kvs k b,Rd H a (.dT kvs)∧y=.ref b∧H b=some (.tup (k.map kV))∧r=mz kvs k
theorem B0.k {H:Hp} {a:Addr} {kvs:List (Key×V)} {k:Key} (e:H a=some (.dK kvs)):B0 H a (kV k) (mz kvs k):=.inl ⟨kvs,k,.inl e,rfl,rfl⟩
section
variable {X:Cx} {pins:List (Addr×Obj)} {σ:St} {H:Hp} {s:Shared} {a:Addr} {y v:V} {u r:Value} {o:Option V} {A:Around} {E:Value→Shared→Prop}
theorem Inv.big (I:Inv X pins σ H s):sysModules < s.heap.objs.size:=by
 have h:mainGlobals < s.heap.objs.size:=(I.mod.glob.keeps I.bk).lt
 exact Nat.lt_trans (by decide) h
theorem A6 {Q:Value→Shared→Prop} (hu:A.units + 1 < cLine) (I:Inv X pins σ H s) (g:B0 H a y (some v)) (ry:RelV y u) (h:∀w' s',Inv X pins σ H s'→RelV v w'→Q w' s') :
  wpAny (model X.prog X.w) A (getItem (.ref a) u) Q E s:=by
 rcases g with ⟨kvs,k,e,ey,l⟩ | ⟨kvs,k,b,e,ey,eb,l⟩
 ·subst ey
  obtain⟨z,hd,vs,rel,dd⟩:=Ea I.hok e
  obtain⟨w',hw,rw'⟩:=wM.some_of (v:=v) (o:=valueAt vs k) (by rw [l];exact rel.val k)
  exact wpAny_getItem_of (DL ry) dd.mapOf hw (h w' _ (I.tok _) rw')
 ·subst ey
  cases (show u=Value.ref b from ry)
  obtain⟨z,hd,xs,rel,dd⟩:=GG I.hok e
  obtain⟨w',hw,rw'⟩:=wM.some_of (v:=v) (o:=(atKey xs k).map (·.2)) (by rw [l];exact rel.val k)
  obtain⟨p,hp,hp2⟩:=MZ.mp hw
  refine wpAny_getItem_heap (tupleKind_room_in1 hu) (CD I.hok eb) dd hp ?_
  rw [hp2]
  exact h w' _ (I.tok _) rw'
theorem kC {h':Heap} {t':Nat} {ob:HO} (I:Inv X pins σ H s) (mu:J3 (H a)) (hs:Heap.SameBut a s.heap h') (he:∃q,h'.get? a=some q) (new:bO X.prog X.w (upd H a ob) h' a ob) :
  Inv X pins σ (upd H a ob) { s with heap:=h',toks:=t' } :=
 I.write (x:=a) (e:=a) mu (.inl rfl) (fun b q hb z=>(hs.2 b hb).trans z) he new
theorem IA {P:Program} {w:World} {H':Hp} {h':Heap} {kvs:List (Key×V)} {vs:List (Key×Value)} (z:kvs.length≤sizeLine) (hd:(a == sysModules)=false) (rel:KV kvs vs) (dd:h'.DictOf (cK P w) a vs) :
  bO P w H' h' a (.dK kvs):=⟨z,hd,vs,rel,dd⟩
end
def AY (i:Expr):Prop:=∀ov iv,subscripted i false ov iv=operate [ov,iv] (getItem ov iv)
theorem zV {prog:Program} {w:World} {A:Around} {E:Value→Shared→Prop} {s:Shared} {env:Env} {value slice:Expr} {pos:Pos} {T id:String} {Q:Value→Shared→Prop}
  (hl:typeLookup (.type T) "__getitem__" = pure (some (.builtin id))) (hs:AY slice)
  (h:wpAny (model prog w) A (eval value env) (fun o s₁=>wpAny (model prog w) A (eval slice env) (fun i s₂=>s₂.TypeIs o T∧wpAny (model prog w) A (getItem o i) Q E s₂) E s₁) E s) :
  wpAny (model prog w) A (eval (.Subscript value slice pos) env) Q E s:=by
 refine Subscript_ (MO h (fun o s₁ h₁=>MO h₁ (fun i s₂ h₂=>?_) fun _ _ x=>x) fun _ _ x=>x)
 obtain⟨hT,h₂⟩:=h₂
 unfold subscriptTail
 refine Mn ?_
 rw [getitemInPython_of_ne hT.not_modules]
 refine Mn (wpAny_specialOf hT hl ?_)
 have fin:wpAny (model prog w) A (subscripted slice false o i) (fun r s₃=>wpAny (model prog w) A (letTemporaryGo value o r >>= fun _=>pure r) Q E s₃) E s₂:=by
  rw [hs o i]
  exact wpAny_operating (MO h₂ (fun r s₃ h₃=>Mn (wpAny_letTemporaryGo (Mr h₃))) fun _ _ x=>x)
 first
  | exact Mr (Mn fin)
  | exact Mn (Mr (Mn fin))
  | exact Mn fin
theorem wb {X:Cx} {pins:List (Addr×Obj)} {σ:St} {H:Hp} {s:Shared} {a:Addr} {y:V} {o:Option V} (I:Inv X pins σ H s) (g:B0 H a y o):s.TypeIs (.ref a) "dict":=by
 rcases g with ⟨kvs,k,e,_,_⟩ | ⟨kvs,k,b,e,_,_,_⟩
 ·obtain⟨_,_,vs,_,dd⟩:=Ea I.hok e
  exact dd.typeIs
 ·obtain⟨_,_,xs,_,dd⟩:=GG I.hok e
  exact dd.typeIs
def Jy (td ty:TE):TE:=fun σ H Q=>td σ H fun x H1=>ty σ H1 fun y H2=>∃a v,x=.ref a∧B0 H2 a y (some v)∧Q v H2
section
variable {X:Cx} {o i e value:Expr} {pos pos' tpos:Pos} {td ty tv:TE}
theorem Fy (hu:X.A.units + 1 < cLine) (ho:PE X o td) (hi:PE X i ty) (hs:AY i):PE X (.Subscript o i pos) (Jy td ty):=by
 intro pins s σ H Q I h
 refine zV PySem.F.slot_dict_getitem.lookup hs (bH (ho pins s σ H _ I h) fun u s1 ⟨x,H1,I1,rx,q1⟩=>bH (hi pins s1 σ H1 _ I1 q1) fun iv s2 hq0=>?_)
 obtain⟨y,H2,I2,ry,a,v,ex,g,q2⟩:=hq0
 subst ex
 obtain rfl:u=Value.ref a:=rx
 exact⟨wb I2 g,A6 hu I2 g ry fun w' s3 I3 rw'=>⟨v,H2,I3,rw',q2⟩⟩
end
theorem Dv {P:Program} {w:World} {H:Hp} (h:Heap) (hb:sysModules < h.objs.size):bO P w H (h.push { cls:=.type "dict",data:=.dict #[] }) h.objs.size (.dK []) :=
 ⟨MX _,beq_eq_false_iff_ne.mpr (Ne.symm (MR hb)),[],.nil,Heap.DictOf.new h⟩
def lK:List (TE×TE)→St→Hp→(List (V×V)→Hp→Prop)→Prop
 | [],_,H,Q=>Q [] H
 | (tk,tv) :: r,σ,H,Q=>tk σ H fun x H1=>tv σ H1 fun y H2=>lK r σ H2 fun ps H3=>Q ((x,y) :: ps) H3
abbrev VV:List (V×V)→List (Value×Value)→Prop:=Paired fun p q=>RelV p.1 q.1∧RelV p.2 q.2
def Jl (X:Cx) (pos:Pos) (keys:List (Option Expr)) (values:List Expr) (trs:List (TE×TE)):Prop :=
 ∀(pins:List (Addr×Obj)) (s:Shared) (σ:St) (H:Hp) (Q:List (V×V)→Hp→Prop),Inv X pins σ H s→lK trs σ H Q →
  wpAny (model X.prog X.w) X.A (evalPairs (pairTrees keys values X.env pos)) (fun vs s'=>∃ps H',Inv X pins σ H' s'∧VV ps vs∧Q ps H') X.xe s
theorem zz {X:Cx} {pos:Pos}:Jl X pos [] [] []:=fun pins s σ H Q I h=>pairTrees_nil_walk ⟨[],H,I,.nil,h⟩
theorem qO {X:Cx} {pos:Pos} {k v:Expr} {ks:List (Option Expr)} {vs:List Expr} {tk tv:TE} {trs:List (TE×TE)} (hk:PE X k tk) (hv:PE X v tv) (hr:Jl X pos ks vs trs) :
  Jl X pos (some k :: ks) (v :: vs) ((tk,tv) :: trs):=fun pins s σ H Q I h =>
 pairTrees_cons_walk (bH (hk pins s σ H _ I h) fun u s1 ⟨x,H1,I1,rx,q1⟩=>bH (hv pins s1 σ H1 _ I1 q1) fun w2 s2 ⟨y,H2,I2,ry,q2⟩ =>
  bH (hr pins s2 σ H2 _ I2 q2) fun ws s3 ⟨ps,H3,I3,rel,q3⟩=>⟨(x,y) :: ps,H3,I3,.cons ⟨rx,ry⟩ rel,q3⟩)
def jq (kvs more:List (Key×V)):List (Key×V):=more.foldl (fun acc kv=>putK acc kv.1 kv.2) kvs
theorem KV.merge:∀{more:List (Key×V)} {rs:List (Key×Value)} {kvs:List (Key×V)} {vs:List (Key×Value)},KV more rs→KV kvs vs→KV (jq kvs more) (merged vs rs):=by
 intro more rs kvs vs r
 unfold KV at r
 induction r generalizing kvs vs with
 | nil=>intro q;exact q
 | @cons p q ps qs h t ih =>
  intro r0
  have e:KV (putK kvs p.1 p.2) (stored vs q.1 q.2):=by
   have:=r0.put p.1 h.2
   rw [← h.1];exact this
  exact ih e
theorem lC:∀(more kvs:List (Key×V)),(jq kvs more).length≤kvs.length + more.length
 | [],kvs=>by show kvs.length≤kvs.length + 0;omega
 | p :: r,kvs=>by
  have h1:=lC r (putK kvs p.1 p.2)
  have h2:=vM kvs p.1 p.2
  show (jq (putK kvs p.1 p.2) r).length≤_
  rw [List.length_cons];omega
theorem rz {P:Program} {w:World}:∀{kvs:List (Key×V)} {ws:List (Value×Value)},VV (kvs.map fun kv=>(kV kv.1,kv.2)) ws→∃rs,Carries (cK P w) ws rs∧KV kvs rs
 | [],_,r=>by rw [List.map_nil] at r;cases r;exact⟨[],True.intro,.nil⟩
 | p :: kvs,_,r=>by
  rw [MQ] at r
  cases r with
  | @cons a b as bs h t =>
   obtain⟨rs,c,q⟩:=rz (P:=P) (w:=w) t
   obtain⟨b1,b2⟩:=b
   exact⟨(p.1,b2) :: rs,⟨DL h.1,rfl,c⟩,.cons ⟨rfl,h.2⟩ q⟩
def Js (trs:List (TE×TE)):TE:=fun σ H Q=>∀p,H p=none→lK trs σ (upd H p (.dK [])) fun ps H2=>H2 p=some (.dK [])∧∃kvs:List (Key×V),ps=kvs.map (fun kv=>(kV kv.1,kv.2))∧kvs.length≤15∧Q (.ref p) (upd H2 p (.dK (jq [] kvs)))
theorem EY {X:Cx} {pos:Pos} {keys:List (Option Expr)} {values:List Expr} {trs:List (TE×TE)} (h:Jl X pos keys values trs) (hall:keys.all (·.isSome)=true) (hl:keys.length=values.length) (h0:keys≠[])
  (h15:keys.length≤15):PE X (.Dict keys values pos) (Js trs):=by
 intro pins s σ H Q I q
 have hn:=I.hok.fresh (Mx s.heap.objs.size)
 have I1:=I.laid (a:=s.heap.objs.size) (o:=.dK []) (h':=s.heap.push { cls:=.type "dict",data:=.dict #[] }) (t':=s.toks) (fun _ _ q=>Mz _ q) (Mx _) (Dv s.heap I.big)
 refine wpAny_Dict_walk (knd:=cK X.prog X.w) hall hl h0 h15 (bH (h pins _ σ _ _ I1 (q _ hn)) fun ws s2 hq0=>?_)
 obtain⟨ps,H2,I2,rel,e,kvs,ep,lk,q2⟩:=hq0
 subst ep
 obtain⟨rs,c,rk⟩:=rz (P:=X.prog) (w:=X.w) rel
 obtain⟨z,hd,vs0,r0,dd⟩:=Jo I2.hok e
 cases r0
 refine⟨rs,c,dd,fun h' dd' hs=>⟨.ref s.heap.objs.size,_,?_,rfl,q2⟩⟩
 have hz:(jq [] kvs).length≤sizeLine:=by
  have h1:=lC kvs []
  rw [List.length_nil] at h1
  rw [sizeLine_eq];omega
 have he:∃q,h'.get? s.heap.objs.size=some q:=let ⟨q,_,_,hq,_⟩:=dd';⟨q,hq⟩
 exact kC I2 (by rw [e];exact True.intro) hs he (IA hz hd (rk.merge .nil) dd')
structure M1 (X:Cx) (o:Expr) (m:Str) (apos:Pos) (e:Expr) (cpos:Pos):Prop where
 base:attributeBase o m X.env (eval o X.env)=eval o X.env
 few:((backTo cpos (starEach [e] X.env)).all (fun x=>!x.1) && (backToKw cpos (keywordEach [] X.env)).all (fun x=>x.1.isSome)
  && decide (([e]:List Expr).length + ([]:List Keyword).length + (if ([]:List Keyword).isEmpty then 0 else 1) < 30))=true
 line:(apos.endLine == cpos.line)=true
 trees:backTo cpos (starEach [e] X.env)=[(false,eval e X.env)]
end L2
namespace L2.L3
open PySem PySem.Spec PyProof.Rows
inductive D where
 | non | bl (b:Bool) | int (i:Int) | str (x:Str) | tup (xs:List D) | lst (xs:List D) | dct (ks:List Key) (xs:List D) | ty (n:String) | exc (c:Str) | cls (c:Str) | obj (P:PySem.W.Frag→Hp→Addr→Prop)
def excAt (a C:Addr) (h:Heap):Prop:=∃o vs,h.get? a=some o∧o.cls=.ref C∧o.dict=none∧o.data=.fields vs
mutual
def Den (K:PySem.W.Frag) (F:Hp):D→V→Prop
 | .non,v=>v=V.non
 | .bl b,v=>v=V.bl b
 | .int i,v=>v=V.int i
 | .str x,v=>v=V.str x
 | .ty n,v=>v=V.ty n
 | .exc c,v=>∃a C,v=V.ref a∧PySem.W.nsIn K mainGlobals c=some (some (.ref C))∧F a=some (.ext (excAt a C))
 | .cls c,v=>∃C,v=V.ref C∧PySem.W.nsIn K mainGlobals c=some (some (.ref C))
 | .tup ds,v=>∃a vs,v=V.ref a∧jv K F a vs∧aq K F ds vs
 | .lst ds,v=>∃a vs,v=V.ref a∧fL K F a vs∧aq K F ds vs
 | .obj P,v=>∃a,v=V.ref a∧∀G,ar F G→P K G a
 | .dct ks ds,v=>∃a vs,v=V.ref a∧F a=some (.dK (ks.zip vs))∧vs.length=ks.length∧aq K F ds vs
def aq (K:PySem.W.Frag) (F:Hp):List D→List V→Prop
 | [],vs=>vs=[]
 | d :: ds,vs=>∃v r,vs=v :: r∧Den K F d v∧aq K F ds r
end
theorem ar.cm {K:PySem.W.Frag} {H H':Hp} {a:Addr} {xs:List V} (e:ar H H') (h:jv K H a xs):jv K H' a xs:=by
 rcases h with (h | ⟨o,h⟩) | h
 ·exact .inl (.inl (e _ _ h))
 ·exact .inl (.inr ⟨o,e _ _ h⟩)
 ·exact .inr h
mutual
theorem Den.mono {K:PySem.W.Frag} {F F':Hp} (s:ar F F'):∀(d:D) (v:V),Den K F d v→Den K F' d v
 | .non,_,h=>by simpa only [Den] using h
 | .bl _,_,h=>by simpa only [Den] using h
 | .int _,_,h=>by simpa only [Den] using h
 | .str _,_,h=>by simpa only [Den] using h
 | .ty _,_,h=>by simpa only [Den] using h
 | .cls _,_,h=>by simpa only [Den] using h
 | .exc _,v,h=>by
  simp only [Den] at h ⊢
  obtain⟨a,C,e,z,q⟩:=h
  exact⟨a,C,e,z,s _ _ q⟩
 | .tup ds,v,h=>by
  simp only [Den] at h ⊢
  obtain⟨a,vs,e,q,r⟩:=h
  exact⟨a,vs,e,ar.cm s q,aq.mono s ds vs r⟩
 | .lst ds,v,h=>by
  simp only [Den] at h ⊢
  obtain⟨a,vs,e,q,r⟩:=h
  exact⟨a,vs,e,s.seq q,aq.mono s ds vs r⟩
 | .obj _,v,h=>by
  simp only [Den] at h ⊢
  obtain⟨a,e,q⟩:=h
  exact⟨a,e,fun G sG=>q G (s.trans sG)⟩
 | .dct ks ds,v,h=>by
  simp only [Den] at h ⊢
  obtain⟨a,vs,e,q,l,r⟩:=h
  exact⟨a,vs,e,s _ _ q,l,aq.mono s ds vs r⟩
theorem aq.mono {K:PySem.W.Frag} {F F':Hp} (s:ar F F'):∀(ds:List D) (vs:List V),aq K F ds vs→aq K F' ds vs
 | [],_,h=>by simpa only [aq] using h
 | d :: ds,vs,h=>by
  simp only [aq] at h ⊢
  obtain⟨v,r,e,a,b⟩:=h
  exact⟨v,r,e,Den.mono s d v a,aq.mono s ds r b⟩
end
section
variable {K:PySem.W.Frag} {F:Hp}
theorem bo {i:Int}:Den K F (.int i) (.int i):=by simp only [Den]
theorem dj {b:Bool}:Den K F (.bl b) (.bl b):=by simp only [Den]
theorem jd:Den K F .non .non:=by simp only [Den]
theorem hW {x:Str}:Den K F (.str x) (.str x):=by simp only [Den]
theorem G7 {x:String}:Den K F (.ty x) (.ty x):=by simp only [Den]
theorem hG {a:Addr} {vs:List V} {ds:List D} (h:jv K F a vs) (r:aq K F ds vs):Den K F (.tup ds) (.ref a):=by
 simp only [Den];exact⟨a,vs,rfl,h,r⟩
theorem iS {a:Addr} {vs:List V} {ds:List D} (h:fL K F a vs) (r:aq K F ds vs):Den K F (.lst ds) (.ref a):=by
 simp only [Den];exact⟨a,vs,rfl,h,r⟩
theorem aU:aq K F [] []:=by simp only [aq]
theorem aO {d:D} {v:V} {ds:List D} {vs:List V} (h:Den K F d v) (r:aq K F ds vs):aq K F (d :: ds) (v :: vs):=by
 simp only [aq];exact⟨v,vs,rfl,h,r⟩
theorem aq.length:∀{ds:List D} {vs:List V},aq K F ds vs→ds.length=vs.length
 | [],vs,h=>by simp only [aq] at h;subst h;rfl
 | d :: ds,vs,h=>by
  simp only [aq] at h
  obtain⟨v,r,rfl,_,b⟩:=h
  simp [aq.length b]
theorem aq.get:∀{ds:List D} {vs:List V} {i:Nat} {d:D},aq K F ds vs→ds[i]?=some d→∃v,vs[i]?=some v∧Den K F d v
 | [],vs,i,d,h,e=>by simp at e
 | x :: ds,vs,i,d,h,e=>by
  simp only [aq] at h
  obtain⟨v,r,rfl,a,b⟩:=h
  cases i with
  | zero=>simp at e;subst e;exact⟨v,rfl,a⟩
  | succ i=>simpa using aq.get b (by simpa using e)
theorem aq.J0:∀{ds:List D} {vs:List V} {i:Nat} {v:V},aq K F ds vs→vs[i]?=some v→∃d,ds[i]?=some d∧Den K F d v
 | [],vs,i,d,h,e=>by simp only [aq] at h;subst h;simp at e
 | x :: ds,vs,i,d,h,e=>by
  simp only [aq] at h
  obtain⟨v,r,rfl,a,b⟩:=h
  cases i with
  | zero=>simp at e;subst e;exact⟨x,rfl,a⟩
  | succ i=>simpa using aq.J0 b (by simpa using e)
theorem aq.append:∀{ds es:List D} {vs us:List V},aq K F ds vs→aq K F es us→aq K F (ds ++ es) (vs ++ us)
 | [],es,vs,us,h,g=>by simp only [aq] at h;subst h;exact g
 | x :: ds,es,vs,us,h,g=>by
  simp only [aq] at h
  obtain⟨v,r,rfl,a,b⟩:=h
  exact aO a (aq.append b g)
theorem aq.take:∀{ds:List D} {vs:List V} (n:Nat),aq K F ds vs→aq K F (ds.take n) (vs.take n)
 | _,_,0,_=>by simpa using aU
 | [],vs,n + 1,h=>by simp only [aq] at h;subst h;simpa using aU
 | x :: ds,vs,n + 1,h=>by
  simp only [aq] at h
  obtain⟨v,r,rfl,a,b⟩:=h
  exact aO a (aq.take n b)
theorem aq.drop:∀{ds:List D} {vs:List V} (n:Nat),aq K F ds vs→aq K F (ds.drop n) (vs.drop n)
 | _,_,0,h=>by simpa using h
 | [],vs,n + 1,h=>by simp only [aq] at h;subst h;simpa using aU
 | x :: ds,vs,n + 1,h=>by
  simp only [aq] at h
  obtain⟨v,r,rfl,a,b⟩:=h
  exact aq.drop n b
theorem aq.set {x:D} {v:V} (q:Den K F x v):∀{ds:List D} {vs:List V} (n:Nat),aq K F ds vs→aq K F (ds.set n x) (vs.set n v)
 | [],vs,n,h=>by simp only [aq] at h;subst h;simpa using aU
 | y :: ds,vs,0,h=>by
  simp only [aq] at h
  obtain⟨w,r,rfl,a,b⟩:=h
  exact aO q b
 | y :: ds,vs,n + 1,h=>by
  simp only [aq] at h
  obtain⟨w,r,rfl,a,b⟩:=h
  exact aO a (aq.set q n b)
theorem sW (ns:List Int):aq K F (ns.map D.int) (ns.map V.int):=by
 induction ns with
 | nil=>exact aU
 | cons n r ih=>exact aO bo ih
end
mutual
def BI:D→Int
 | .int i=>hashInt i
 | .tup ds=>reduceHash (Builtin.Tuple.tupleHashOf (rn ds))
 | .non=>4238894112
 | _=>0
def rn:List D→List Int
 | []=>[]
 | d :: ds=>BI d :: rn ds
end
def bJ (h:Heap) (d:Addr) (es:Array DictEntry) (ep:Nat):Prop:=∃o,h.get? d=some o∧o.ExactDict∧o.data=.dict es ep
def yM (row:Int×V×V) (e:DictEntry):Prop:=e.hash=row.1∧RelV row.2.1 e.key∧RelV row.2.2 e.val
def cD (p:Addr) (ep:Nat) (rows:List (Int×V×V)):HO:=.ext fun h=>rows.length≤sizeLine∧(p == sysModules)=false∧∃es,bJ h p es ep∧Paired yM rows es.toList
def bz (kvs:List (D×D)) (us vs:List V):List (Int×V×V):=(kvs.map fun kv=>BI kv.1).zip (us.zip vs)
inductive Lo where
 | d (x:D) | own (xs:List D) | dic (kvs:List (D×D))
abbrev En:=List (Option Lo)
structure Base where
 F:Hp
 H:Hp
 N:Addr→Prop
 nb:∀p,N p→H p≠none
structure Rep (K:PySem.W.Frag) (B:Base) (F H:Hp) (σ:St) (e:En):Prop where
 f0:ar B.F F
 fh:ar F H
 h0:ar B.H H
 nf:∀p,B.N p→F p=none
 dv:∀(i:Nat) x,e[i]?=some (some (.d x))→∃v,σ[i]?=some (some v)∧Den K F x v
 ov:∀(i:Nat) xs,e[i]?=some (some (.own xs))→∃p vs,σ[i]?=some (some (.ref p))∧H p=some (.lst vs)∧F p=none∧B.H p=none∧aq K F xs vs
 ne:∀(i j:Nat) xs ys p,i≠j→e[i]?=some (some (.own xs))→e[j]?=some (some (.own ys))→σ[i]?=some (some (.ref p))→σ[j]?=some (some (.ref p))→False
 mv:∀(i:Nat) kvs,e[i]?=some (some (.dic kvs))→∃p ep us vs,σ[i]?=some (some (.ref p))∧H p=some (cD p ep (bz kvs us vs))∧F p=none∧B.H p=none∧aq K F (kvs.map (·.1)) us∧aq K F (kvs.map (·.2)) vs
 nm:∀(i j:Nat) xs ys p,i≠j→e[i]?=some (some (.dic xs))→e[j]?=some (some (.dic ys))→σ[i]?=some (some (.ref p))→σ[j]?=some (some (.ref p))→False
section
variable {K:PySem.W.Frag} {B:Base} {F H F' H':Hp} {σ:St} {e:En}
theorem Rep.ext (r:Rep K B F H σ e) (a:ar F F') (b:ar F' H') (c:ar H H') (n:∀p,H p≠none→F p=none→F' p=none):Rep K B F' H' σ e where
 f0:=r.f0.trans a
 fh:=b
 h0:=r.h0.trans c
 nf:=fun p hp=>by
  refine n p (fun z=>?_) (r.nf p hp)
  have q:=B.nb p hp
  cases w:B.H p with
  | none=>exact q w
  | some o=>rw [r.h0 _ _ w] at z;cases z
 dv:=fun i x h=>let ⟨v,h1,h2⟩:=r.dv i x h;⟨v,h1,Den.mono a _ _ h2⟩
 ov:=fun i xs h=>by
  obtain⟨p,vs,h1,h2,h3,h4,h5⟩:=r.ov i xs h
  exact⟨p,vs,h1,c _ _ h2,n p (by rw [h2];simp) h3,h4,aq.mono a _ _ h5⟩
 ne:=r.ne
 mv:=fun i xs h=>by
  obtain⟨p,ep,us,vs,h1,h2,h3,h4,h5,h6⟩:=r.mv i xs h
  exact⟨p,ep,us,vs,h1,c _ _ h2,n p (by rw [h2];simp) h3,h4,aq.mono a _ _ h5,aq.mono a _ _ h6⟩
 nm:=r.nm
theorem Rep.oE (r:Rep K B F H σ e) {p:Addr} (h:H p=none):F p=none:=r.fh.free h
theorem cB {H:Hp} {p:Addr} {o:HO} (h:H p=none):ar H (upd H p o):=fun b u q=>by rw [aC (bY q h)];exact q
theorem nA {F H:Hp} {p:Addr} {o:HO} (h:ar F H):ar (upd F p o) (upd H p o):=fun b u q=>by
 by_cases e:b=p
 ·subst e;rw [aG] at q ⊢;exact q
 ·rw [aC e] at q ⊢;exact h _ _ q
theorem Rep.laid (r:Rep K B F H σ e) {p:Addr} {o:HO} (h:H p=none):Rep K B (upd F p o) (upd H p o) σ e∧ar F (upd F p o):=by
 have hf:=r.oE h
 refine⟨r.ext (cB hf) (nA r.fh) (cB h) fun q hq hn=>?_,cB hf⟩
 by_cases z:q=p
 ·subst z;exact absurd h hq
 ·rw [aC z];exact hn
theorem Rep.loose (r:Rep K B F H σ e) {p:Addr} {o:HO} (h:H p=none):Rep K B F (upd H p o) σ e :=
 r.ext (ar.refl _) (r.fh.trans (cB h)) (cB h) fun _ _ hn=>hn
theorem Rep.now (r:Rep K B F H σ e):Rep K ⟨F,B.H,B.N,B.nb⟩ F H σ e:=⟨ar.refl _,r.fh,r.h0,r.nf,r.dv,r.ov,r.ne,r.mv,r.nm⟩
theorem Rep.back {G:Hp} (s:ar B.F G) (r:Rep K ⟨G,B.H,B.N,B.nb⟩ F H σ e):Rep K B F H σ e:=⟨s.trans r.f0,r.fh,r.h0,r.nf,r.dv,r.ov,r.ne,r.mv,r.nm⟩
theorem a5 {e:En} {i j:Nat} {l:Lo} {kvs:List (D×D)} (hl:∀z,l≠.dic z) (q:(e.set i (some l))[j]?=some (some (.dic kvs))):i≠j:=fun z=>by
 subst z
 by_cases w:i < e.length
 ·rw [Mv w] at q;cases q;exact hl _ rfl
 ·rw [MF (by simpa using w)] at q;cases q
theorem Rep.set (r:Rep K B F H σ e) {i:Nat} {v:V} {x:D} (h:Den K F x v) (hl:i < σ.length):Rep K B F H (σ.set i (some v)) (e.set i (some (.d x))) where
 f0:=r.f0
 fh:=r.fh
 h0:=r.h0
 nf:=r.nf
 dv:=fun j y q=>by
  by_cases z:i=j
  ·subst z
   by_cases w:i < e.length
   ·rw [Mv w] at q
    cases q
    exact⟨v,Mv hl,h⟩
   ·rw [MF (by simpa using w)] at q;cases q
  ·rw [Mp z] at q ⊢;exact r.dv j y q
 ov:=fun j y q=>by
  by_cases z:i=j
  ·subst z
   by_cases w:i < e.length
   ·rw [Mv w] at q;cases q
   ·rw [MF (by simpa using w)] at q;cases q
  ·rw [Mp z] at q ⊢;exact r.ov j y q
 ne:=fun j k xs ys p hjk q1 q2 q3 q4=>by
  have own_ne:∀(j:Nat) (ys:List D),(e.set i (some (.d x)))[j]?=some (some (.own ys))→i≠j:=fun j ys q z=>by
   subst z
   by_cases w:i < e.length
   ·rw [Mv w] at q;cases q
   ·rw [MF (by simpa using w)] at q;cases q
  have z1:=own_ne j xs q1
  have z2:=own_ne k ys q2
  rw [Mp z1] at q1 q3
  rw [Mp z2] at q2 q4
  exact r.ne j k xs ys p hjk q1 q2 q3 q4
 mv:=fun j y q=>by
  have z:i≠j:=a5 (fun _ w=>by cases w) q
  rw [Mp z] at q ⊢;exact r.mv j y q
 nm:=fun j k xs ys p hjk q1 q2 q3 q4=>by
  have z1:=a5 (fun _ w=>by cases w) q1
  have z2:=a5 (fun _ w=>by cases w) q2
  rw [Mp z1] at q1 q3
  rw [Mp z2] at q2 q4
  exact r.nm j k xs ys p hjk q1 q2 q3 q4
theorem Rep.Dg (r:Rep K B F H σ e) {i:Nat} {p:Addr} {vs:List V} {xs:List D} (h:H p=none) (hd:aq K F xs vs) (hl:i < σ.length) :
  Rep K B F (upd H p (.lst vs)) (σ.set i (some (.ref p))) (e.set i (some (.own xs))):=by
 have r1:=r.loose (o:=.lst vs) h
 have hb:B.H p=none:=r.h0.free h
 have old:∀(j:Nat) (ys:List D),e[j]?=some (some (.own ys))→σ[j]?≠some (some (.ref p)):=fun j ys q z=>by
  obtain⟨q1,_,h1,h2,_⟩:=r.ov j ys q
  rw [z] at h1;cases h1;rw [h] at h2;cases h2
 refine⟨r1.f0,r1.fh,r1.h0,r1.nf,fun j y q=>?_,fun j y q=>?_,fun j k ys zs q hjk q1 q2 q3 q4=>?_,fun j y q=>?_,fun j k ys zs q hjk q1 q2 q3 q4=>?_⟩
 ·by_cases z:i=j
  ·subst z
   by_cases w:i < e.length
   ·rw [Mv w] at q;cases q
   ·rw [MF (by simpa using w)] at q;cases q
  ·rw [Mp z] at q ⊢;exact r1.dv j y q
 ·by_cases z:i=j
  ·subst z
   by_cases w:i < e.length
   ·rw [Mv w] at q
    cases q
    exact⟨p,vs,Mv hl,aG,r.oE h,hb,hd⟩
   ·rw [MF (by simpa using w)] at q;cases q
  ·rw [Mp z] at q ⊢;exact r1.ov j y q
 ·by_cases z1:i=j
  ·subst z1
   rw [Mp hjk] at q2 q4
   by_cases w:i < e.length
   ·rw [Mv hl] at q3
    cases q3
    exact old k zs q2 q4
   ·rw [MF (by simpa using w)] at q1;cases q1
  ·rw [Mp z1] at q1 q3
   by_cases z2:i=k
   ·subst z2
    rw [Mv hl] at q4
    cases q4
    exact old j ys q1 q3
   ·rw [Mp z2] at q2 q4
    exact r.ne j k ys zs q hjk q1 q2 q3 q4
 ·have z:i≠j:=a5 (fun _ w=>by cases w) q
  rw [Mp z] at q ⊢;exact r1.mv j y q
 ·have z1:=a5 (fun _ w=>by cases w) q1
  have z2:=a5 (fun _ w=>by cases w) q2
  rw [Mp z1] at q1 q3
  rw [Mp z2] at q2 q4
  exact r.nm j k ys zs q hjk q1 q2 q3 q4
theorem Rep.change (r:Rep K B F H σ e) {i:Nat} {p:Addr} {vs:List V} {xs ys:List D} (h:e[i]?=some (some (.own xs))) (hp:σ[i]?=some (some (.ref p))) (hd:aq K F ys vs) :
  Rep K B F (upd H p (.lst vs)) σ (e.set i (some (.own ys))):=by
 obtain⟨p',_,h1,h2,h3,h4,_⟩:=r.ov i xs h
 rw [hp] at h1;cases h1
 have wl:i < e.length:=(Mo.mp h).1
 have fk:∀q o,F q=some o→q≠p:=fun q o z w=>by subst w;rw [h3] at z;cases z
 have bk:∀q o,B.H q=some o→q≠p:=fun q o z w=>by subst w;rw [h4] at z;cases z
 have ownAt:∀(j:Nat) (zs:List D),(e.set i (some (.own ys)))[j]?=some (some (.own zs))→∃ws,e[j]?=some (some (.own ws)):=fun j zs q=>by
  by_cases z:i=j
  ·subst z;exact⟨xs,h⟩
  ·rw [Mp z] at q;exact⟨zs,q⟩
 refine⟨r.f0,fun b o z=>by rw [aC (fk b o z)];exact r.fh _ _ z,fun b o z=>by rw [aC (bk b o z)];exact r.h0 _ _ z,r.nf,fun j y q=>?_,fun j y q=>?_,fun j k as bs q hjk q1 q2 q3 q4=>?_,fun j y q=>?_,fun j k as bs q hjk q1 q2 q3 q4=>?_⟩
 ·by_cases z:i=j
  ·subst z;rw [Mv wl] at q;cases q
  ·rw [Mp z] at q;exact r.dv j y q
 ·by_cases z:i=j
  ·subst z
   rw [Mv wl] at q
   cases q
   exact⟨p,vs,hp,aG,h3,h4,hd⟩
  ·rw [Mp z] at q
   obtain⟨p2,us,g1,g2,g3,g4,g5⟩:=r.ov j y q
   have:p2≠p:=fun w=>by subst w;exact r.ne j i y xs p2 (Ne.symm z) q h g1 hp
   exact⟨p2,us,g1,by rw [aC this];exact g2,g3,g4,g5⟩
 ·obtain⟨as',w1⟩:=ownAt j as q1
  obtain⟨bs',w2⟩:=ownAt k bs q2
  exact r.ne j k as' bs' q hjk w1 w2 q3 q4
 ·have z:i≠j:=a5 (fun _ w=>by cases w) q
  rw [Mp z] at q
  obtain⟨p2,ep,us,ws,g1,g2,g3,g4,g5,g6⟩:=r.mv j y q
  have:p2≠p:=fun w=>by subst w;rw [h2] at g2;cases g2
  exact⟨p2,ep,us,ws,g1,by rw [aC this];exact g2,g3,g4,g5,g6⟩
 ·have z1:=a5 (fun _ w=>by cases w) q1
  have z2:=a5 (fun _ w=>by cases w) q2
  rw [Mp z1] at q1
  rw [Mp z2] at q2
  exact r.nm j k as bs q hjk q1 q2 q3 q4
theorem Rep.freeze (r:Rep K B F H σ e) {i:Nat} {xs:List D} (h:e[i]?=some (some (.own xs))):∃F',ar F F'∧Rep K B F' H σ (e.set i (some (.d (.lst xs)))):=by
 obtain⟨p,vs,h1,h2,h3,h4,h5⟩:=r.ov i xs h
 have wl:i < e.length:=(Mo.mp h).1
 have s1:ar F (upd F p (.lst vs)):=cB h3
 refine⟨upd F p (.lst vs),s1,r.f0.trans s1,fun b o z=>?_,r.h0,fun q hq=>?_,fun j y q=>?_,fun j y q=>?_,fun j k as bs q hjk q1 q2 q3 q4=>?_,fun j y q=>?_,fun j k as bs q hjk q1 q2 q3 q4=>?_⟩
 ·by_cases w:b=p
  ·subst w;rw [aG] at z;cases z;exact h2
  ·rw [aC w] at z;exact r.fh _ _ z
 ·have:q≠p:=fun w=>by subst w;exact B.nb _ hq h4
  rw [aC this];exact r.nf q hq
 ·by_cases z:i=j
  ·subst z
   rw [Mv wl] at q
   cases q
   exact⟨_,h1,iS (fL.of aG) (aq.mono s1 _ _ h5)⟩
  ·rw [Mp z] at q
   obtain⟨v,a,b⟩:=r.dv j y q
   exact⟨v,a,Den.mono s1 _ _ b⟩
 ·by_cases z:i=j
  ·subst z;rw [Mv wl] at q;cases q
  ·rw [Mp z] at q
   obtain⟨p2,us,g1,g2,g3,g4,g5⟩:=r.ov j y q
   have:p2≠p:=fun w=>by subst w;exact r.ne j i y xs p2 (Ne.symm z) q h g1 h1
   exact⟨p2,us,g1,g2,by rw [aC this];exact g3,g4,aq.mono s1 _ _ g5⟩
 ·have ownAt:∀(j:Nat) (zs:List D),(e.set i (some (.d (.lst xs))))[j]?=some (some (.own zs))→e[j]?=some (some (.own zs)):=fun j zs q=>by
   by_cases z:i=j
   ·subst z;rw [Mv wl] at q;cases q
   ·rw [Mp z] at q;exact q
  exact r.ne j k as bs q hjk (ownAt j as q1) (ownAt k bs q2) q3 q4
 ·have z:i≠j:=a5 (fun _ w=>by cases w) q
  rw [Mp z] at q
  obtain⟨p2,ep,us,ws,g1,g2,g3,g4,g5,g6⟩:=r.mv j y q
  have:p2≠p:=fun w=>by subst w;rw [h2] at g2;cases g2
  exact⟨p2,ep,us,ws,g1,g2,by rw [aC this];exact g3,g4,aq.mono s1 _ _ g5,aq.mono s1 _ _ g6⟩
 ·have z1:=a5 (fun _ w=>by cases w) q1
  have z2:=a5 (fun _ w=>by cases w) q2
  rw [Mp z1] at q1
  rw [Mp z2] at q2
  exact r.nm j k as bs q hjk q1 q2 q3 q4
end
end L2.L3
namespace L2.L3
open PySem PySem.Spec PyProof.Rows
def notStar:Expr→Bool
 | .Starred _ _=>false
 | _=>true
theorem aT {e:Expr} {es:List Expr} {env:Env} (h:notStar e=true):starEach (e :: es) env=(false,eval e env) :: starEach es env:=by
 cases e <;> first | rfl | cases h
abbrev TD:=En→(D→Prop)→Prop
abbrev TB:=En→(Bool→Prop)→Prop
abbrev eQ:=En→(List D→Prop)→Prop
structure Ends3 where
 nx:En→Prop
 rt:D→Prop
 bk:En→Prop:=fun _=>False
 ct:En→Prop:=fun _=>False
abbrev bB:=Ends3→En→Prop
def wE (X:Cx) (e:Expr):TE:=fun σ H Q=>∀(pins:List (Addr×Obj)) (s:Shared),Inv X pins σ H s→wpAny (model X.prog X.w) X.A (eval e X.env) (EP X pins σ Q) X.xe s
def wT (X:Cx) (e:Expr):TT:=fun σ H Q=>∀(pins:List (Addr×Obj)) (s:Shared),Inv X pins σ H s→wpAny (model X.prog X.w) X.A (isTrue e X.env (eval e X.env)) (TP X pins σ Q) X.xe s
def wW (X:Cx) (e:Expr):TT:=fun σ H Q=>∀(whole:Sem Value) (pins:List (Addr×Obj)) (s:Shared),Inv X pins σ H s→wpAny (model X.prog X.w) X.A (isTrue e X.env whole) (TP X pins σ Q) X.xe s
def wA (X:Cx) (es:List Expr):TA:=fun σ H Q=>∀(pos:Pos) (pins:List (Addr×Obj)) (s:Shared),Inv X pins σ H s→wpAny (model X.prog X.w) X.A (spliced (backTo pos (starEach es X.env))) (AP X pins σ Q) X.xe s
def wS (X:Cx) (st:Stmt):TS:=fun D σ H=>∀(pins:List (Addr×Obj)) (s:Shared),Inv X pins σ H s→wpAny (model X.prog X.w) X.A (exec st X.env) (SP X pins D) X.xe s
def wSs (X:Cx) (st:List Stmt):TS:=fun D σ H=>∀(pins:List (Addr×Obj)) (s:Shared),Inv X pins σ H s→wpAny (model X.prog X.w) X.A (execs st X.env) (SP X pins D) X.xe s
section
variable {X:Cx} {e:Expr} {es:List Expr} {st:Stmt} {sts:List Stmt} {σ:St} {H:Hp}
theorem bh:PE X e (wE X e):=fun pins s σ H Q I h=>h pins s I
theorem sg:PT X e (wT X e):=fun pins s σ H Q I h=>h pins s I
theorem Km:PW X e (wW X e):=fun wh pins s σ H Q I h=>h wh pins s I
theorem jF:PA X es (wA X es):=fun pos pins s σ H Q I h=>h pos pins s I
theorem B4:PS X st (wS X st):=fun pins s σ H D I h=>h pins s I
theorem eT:xD X sts (wSs X sts):=fun pins s σ H D I h=>h pins s I
theorem bN {te:TE} {Q:VK} (h:PE X e te) (q:te σ H Q):wE X e σ H Q:=fun pins s I=>h pins s σ H Q I q
theorem tU {te:TT} {Q:Bool→Hp→Prop} (h:PT X e te) (q:te σ H Q):wT X e σ H Q:=fun pins s I=>h pins s σ H Q I q
theorem Ab {te:TT} {Q:Bool→Hp→Prop} (h:PW X e te) (q:te σ H Q):wW X e σ H Q:=fun wh pins s I=>h wh pins s σ H Q I q
theorem Gd {te:TA} {Q:List V→Hp→Prop} (h:PA X es te) (q:te σ H Q):wA X es σ H Q:=fun pos pins s I=>h pos pins s σ H Q I q
theorem dG {te:TS} {D:Ends} (h:PS X st te) (q:te D σ H):wS X st D σ H:=fun pins s I=>h pins s σ H D I q
theorem n6 {te:TS} {D:Ends} (h:xD X sts te) (q:te D σ H):wSs X sts D σ H:=fun pins s I=>h pins s σ H D I q
theorem aA {Q Q':VK} (h:wE X e σ H Q) (i:∀v H',Q v H'→Q' v H'):wE X e σ H Q':=fun pins s I=>bH (h pins s I) fun _ _ ⟨v,H',I',r,q⟩=>⟨v,H',I',r,i v H' q⟩
theorem gV {Q Q':Bool→Hp→Prop} (h:wT X e σ H Q) (i:∀v H',Q v H'→Q' v H'):wT X e σ H Q':=fun pins s I=>bH (h pins s I) fun b _ ⟨H',I',q⟩=>⟨H',I',i b H' q⟩
theorem zx {Q Q':Bool→Hp→Prop} (h:wW X e σ H Q) (i:∀v H',Q v H'→Q' v H'):wW X e σ H Q':=fun wh pins s I=>bH (h wh pins s I) fun b _ ⟨H',I',q⟩=>⟨H',I',i b H' q⟩
theorem cy {Q Q':List V→Hp→Prop} (h:wA X es σ H Q) (i:∀v H',Q v H'→Q' v H'):wA X es σ H Q':=fun pos pins s I=>bH (h pos pins s I) fun _ _ ⟨v,H',I',r,q⟩=>⟨v,H',I',r,i v H' q⟩
theorem pT {pins:List (Addr×Obj)} {D D':Ends} {f:Flow} {s':Shared} (h:SP X pins D f s') (nx:∀σ H,D.nx σ H→D'.nx σ H) (rt:∀v H,D.rt v H→D'.rt v H) (bk:∀σ H,D.bk σ H→D'.bk σ H) (ct:∀σ H,D.ct σ H→D'.ct σ H):SP X pins D' f s':=by
 cases f with
 | next=>obtain⟨σ',H',I,q⟩:=h;exact⟨σ',H',I,nx _ _ q⟩
 | brk=>obtain⟨σ',H',I,q⟩:=h;exact⟨σ',H',I,bk _ _ q⟩
 | cont=>obtain⟨σ',H',I,q⟩:=h;exact⟨σ',H',I,ct _ _ q⟩
 | ret u=>obtain⟨v,σ',H',I,r,q⟩:=h;exact⟨v,σ',H',I,r,rt _ _ q⟩
theorem zR {D D':Ends} (h:wS X st D σ H) (nx:∀σ H,D.nx σ H→D'.nx σ H) (rt:∀v H,D.rt v H→D'.rt v H) (bk:∀σ H,D.bk σ H→D'.bk σ H) (ct:∀σ H,D.ct σ H→D'.ct σ H):wS X st D' σ H :=
 fun pins s I=>bH (h pins s I) fun _ _ q=>pT q nx rt bk ct
theorem gL {D D':Ends} (h:wSs X sts D σ H) (nx:∀σ H,D.nx σ H→D'.nx σ H) (rt:∀v H,D.rt v H→D'.rt v H) (bk:∀σ H,D.bk σ H→D'.bk σ H) (ct:∀σ H,D.ct σ H→D'.ct σ H):wSs X sts D' σ H :=
 fun pins s I=>bH (h pins s I) fun _ _ q=>pT q nx rt bk ct
end
def RV (X:Cx) (B:Base) (σ:St) (env:En) (F:Hp) (Q:D→Prop):VK:=fun v H'=>∃F' d,Rep X.K B F' H' σ env∧ar F F'∧Den X.K F' d v∧Q d
def RB (X:Cx) (B:Base) (σ:St) (env:En) (F:Hp) (Q:Bool→Prop):Bool→Hp→Prop:=fun b H'=>∃F',Rep X.K B F' H' σ env∧ar F F'∧Q b
def RA (X:Cx) (B:Base) (σ:St) (env:En) (F:Hp) (Q:List D→Prop):List V→Hp→Prop:=fun vs H'=>∃F' ds,Rep X.K B F' H' σ env∧ar F F'∧aq X.K F' ds vs∧Q ds
def RS (X:Cx) (B:Base) (D:Ends3):Ends where
 nx:=fun σ' H'=>∃F' env',Rep X.K B F' H' σ' env'∧D.nx env'
 rt:=fun v H'=>∃F' d,Rep X.K B F' H' [] []∧Den X.K F' d v∧D.rt d
 bk:=fun σ' H'=>∃F' env',Rep X.K B F' H' σ' env'∧D.bk env'
 ct:=fun σ' H'=>∃F' env',Rep X.K B F' H' σ' env'∧D.ct env'
structure QE (X:Cx) (e:Expr) (t:TD):Prop where
 of ::
 run:∀(B:Base) (σ:St) (F H:Hp) (env:En) (Q:D→Prop),Rep X.K B F H σ env→t env Q→wE X e σ H (RV X B σ env F Q)
instance {X:Cx} {e:Expr} {t:TD}:CoeFun (QE X e t) (fun _=>∀(B:Base) (σ:St) (F H:Hp) (env:En) (Q:D→Prop),Rep X.K B F H σ env→t env Q→wE X e σ H (RV X B σ env F Q)):=⟨QE.run⟩
structure QT (X:Cx) (e:Expr) (t:TB):Prop where
 of ::
 run:∀(B:Base) (σ:St) (F H:Hp) (env:En) (Q:Bool→Prop),Rep X.K B F H σ env→t env Q→wT X e σ H (RB X B σ env F Q)
instance {X:Cx} {e:Expr} {t:TB}:CoeFun (QT X e t) (fun _=>∀(B:Base) (σ:St) (F H:Hp) (env:En) (Q:Bool→Prop),Rep X.K B F H σ env→t env Q→wT X e σ H (RB X B σ env F Q)):=⟨QT.run⟩
structure QW (X:Cx) (e:Expr) (t:TB):Prop where
 of ::
 run:∀(B:Base) (σ:St) (F H:Hp) (env:En) (Q:Bool→Prop),Rep X.K B F H σ env→t env Q→wW X e σ H (RB X B σ env F Q)
instance {X:Cx} {e:Expr} {t:TB}:CoeFun (QW X e t) (fun _=>∀(B:Base) (σ:St) (F H:Hp) (env:En) (Q:Bool→Prop),Rep X.K B F H σ env→t env Q→wW X e σ H (RB X B σ env F Q)):=⟨QW.run⟩
structure QA (X:Cx) (es:List Expr) (t:eQ):Prop where
 of ::
 run:∀(B:Base) (σ:St) (F H:Hp) (env:En) (Q:List D→Prop),Rep X.K B F H σ env→t env Q→wA X es σ H (RA X B σ env F Q)
instance {X:Cx} {es:List Expr} {t:eQ}:CoeFun (QA X es t) (fun _=>∀(B:Base) (σ:St) (F H:Hp) (env:En) (Q:List D→Prop),Rep X.K B F H σ env→t env Q→wA X es σ H (RA X B σ env F Q)):=⟨QA.run⟩
structure QS (X:Cx) (st:Stmt) (t:bB):Prop where
 of ::
 run:∀(B:Base) (σ:St) (F H:Hp) (env:En) (D:Ends3),Rep X.K B F H σ env→t D env→wS X st (RS X B D) σ H
instance {X:Cx} {st:Stmt} {t:bB}:CoeFun (QS X st t) (fun _=>∀(B:Base) (σ:St) (F H:Hp) (env:En) (D:Ends3),Rep X.K B F H σ env→t D env→wS X st (RS X B D) σ H):=⟨QS.run⟩
structure oF (X:Cx) (st:List Stmt) (t:bB):Prop where
 of ::
 run:∀(B:Base) (σ:St) (F H:Hp) (env:En) (D:Ends3),Rep X.K B F H σ env→t D env→wSs X st (RS X B D) σ H
instance {X:Cx} {st:List Stmt} {t:bB}:CoeFun (oF X st t) (fun _=>∀(B:Base) (σ:St) (F H:Hp) (env:En) (D:Ends3),Rep X.K B F H σ env→t D env→wSs X st (RS X B D) σ H):=⟨oF.run⟩
section
variable {X:Cx} {a b c e:Expr} {es:List Expr} {ta tb tc:TD} {tA tB':TB} {ts:eQ} {pos:Pos} {rest:List Expr}
def ag (i:Nat):TD:=fun env Q=>∃x,env[i]?=some (some (.d x))∧Q x
def cC (x:D):TD:=fun _ Q=>Q x
theorem qv (i:Nat) {x:Str} {pos:Pos} (hN:X.N[i]?=some x:=by rfl) (hv:xA X.env.scope x:=by first | exact Or.inl rfl | exact Or.inr (Or.inl rfl) | exact Or.inr (Or.inr rfl)) (hd:(x == ("__debug__" : Str))=false:=by decide)
  (hcd:(x == ("__classdict__" : Str))=false:=by decide):QE X (.Name x pos) (ag i):=by
 refine⟨?_⟩
 intro B σ F H env Q r ⟨x,hx,q⟩
 obtain⟨v,hv',hd'⟩:=r.dv i x hx
 exact bN (eB hN hv hd hcd) ⟨v,hv',F,x,r,ar.refl _,hd',q⟩
theorem qc {te:TE} {v:V} {x:D} (h:PE X e (tC v)) (hd:∀F,Den X.K F x v):QE X e (cC x):=⟨fun B σ F H env Q r q=>bN h ⟨F,x,r,ar.refl _,hd F,q⟩⟩
theorem av {i j pos}:QE X (.Constant (.int i) j pos) (cC (.int i)):=qc (te:=tC (.int i)) yU fun _=>bo
theorem zc {b j pos}:QE X (.Constant (.bool b) j pos) (cC (.bl b)):=qc (te:=tC (.bl b)) Kk fun _=>dj
theorem uF {j pos}:QE X (.Constant .none j pos) (cC .non):=qc (te:=tC .non) Bu fun _=>jd
theorem bL {x j pos}:QE X (.Constant (.str x) j pos) (cC (.str x)):=qc (te:=tC (.str x)) C1 fun _=>hW
theorem LY {x:Str} {n:String} {pos:Pos} (hg:Gl X x) (hm:X.mg x=none) (hv:bootBuiltins x=some (.type n)) (hn:x≠"__name__":=by decide) (hd:(x == ("__debug__" : Str))=false:=by decide):QE X (.Name x pos) (cC (.ty n)) :=
 qc (te:=tC (.ty n)) (ER (v:=.ty n) hg hm hv rfl hn hd) fun _=>G7
def Kont (X:Cx) (B:Base) (σ:St) (env:En) (F:Hp) (Q:D→Prop) (Z:VK):Prop:=∀(v:V) (H' F':Hp) (d:D),Rep X.K B F' H' σ env→ar F F'→Den X.K F' d v→Q d→Z v H'
def sj (X:Cx) (r:R2) (f:D→D→(D→Prop)→Prop):Prop:=∀(B:Base) (σ:St) (F H:Hp) (env:En) (Q:D→Prop) (d d':D) (x y:V) (Z:VK),Rep X.K B F H σ env→Den X.K F d x→Den X.K F d' y→Kont X B σ env F Q Z→f d d' Q→r x y H Z
def aB (f:D→D→(D→Prop)→Prop) (ta tb:TD):TD:=fun env Q=>ta env fun x=>tb env fun y=>f x y Q
theorem RV.weaken {B:Base} {σ:St} {env:En} {F F':Hp} {Q:D→Prop} (s:ar F F') {v:V} {H:Hp} (h:RV X B σ env F' Q v H):RV X B σ env F Q v H:=by
 obtain⟨G,d,r,s',hd,q⟩:=h
 exact⟨G,d,r,s.trans s',hd,q⟩
theorem two {r:R2} {f:D→D→(D→Prop)→Prop} (hf:sj X r f) (ha:QE X a ta) (hb:QE X b tb) {B:Base} {σ:St} {F H:Hp} {env:En} {Q:D→Prop} {Z:VK} (rp:Rep X.K B F H σ env) (hz:Kont X B σ env F Q Z) (h:aB f ta tb env Q) :
  Je r (wE X a) (wE X b) σ H Z:=by
 refine aA (ha B σ F H env _ rp h) fun x H1 hq0=>?_
 obtain⟨F1,d,r1,s1,d1,q1⟩:=hq0
 refine aA (hb B σ F1 H1 env _ r1 q1) fun y H2 hq0=>?_
 obtain⟨F2,d',r2,s2,d2,q2⟩:=hq0
 exact hf B σ F2 H2 env Q d d' x y Z r2 (Den.mono s2 _ _ d1) d2 (fun v H' F' d' r' s'=>hz v H' F' d' r' ((s1.trans s2).trans s')) q2
theorem Kh {B:Base} {σ:St} {env:En} {F:Hp} {Q:D→Prop}:Kont X B σ env F Q (RV X B σ env F Q):=fun v H' F' d r s hd q=>⟨F',d,r,s,hd,q⟩
theorem y9 {op:Operator} {r:R2} {f:D→D→(D→Prop)→Prop} (ho:iQ X (binaryOp op) r) (hf:sj X r f) (ha:QE X a ta) (hb:QE X b tb):QE X (.BinOp a op b pos) (aB f ta tb) :=
 ⟨fun B σ F H env Q rp h=>bN (JY ho bh bh) (two hf ha hb rp Kh h)⟩
theorem CF {op:CmpOp} {r:R2} {f:D→D→(D→Prop)→Prop} (ho:iQ X (compareOp op) r) (hf:sj X r f) (ha:QE X a ta) (hb:QE X b tb) (hm:behindInMarks op b=false):QE X (.Compare a [op] [b] pos) (aB f ta tb) :=
 ⟨fun B σ F H env Q rp h=>bN (Ex ho bh bh hm) (two hf ha hb rp Kh h)⟩
def aJ (t:TD):TB:=fun env Q=>t env fun x=>∃k,x=.bl k∧Q k
theorem fq {K:PySem.W.Frag} {F:Hp} {k:Bool} {v:V} (h:Den K F (.bl k) v):v=.bl k:=by simpa only [Den] using h
theorem ie {op:CmpOp} {r:R2} {f:D→D→(D→Prop)→Prop} (ho:iQ X (compareOp op) r) (hf:sj X r f) (ha:QE X a ta) (hb:QE X b tb) (hm:behindInMarks op b=false):QT X (.Compare a [op] [b] pos) (aJ (aB f ta tb)):=by
 refine⟨?_⟩
 intro B σ F H env Q rp h
 refine tU (pN ho bh bh hm) ?_
 show Je r (wE X a) (wE X b) σ H fun x H'=>∃k,x=.bl k∧RB X B σ env F Q k H'
 refine two hf ha hb rp (fun v H' F' d r' s' hd q=>?_) h
 obtain⟨k,rfl,q⟩:=q
 exact⟨k,fq hd,F',r',s',q⟩
theorem ig {t:TD} (h:QE X e t) (he:∀whole,isTrue e X.env whole=(do let v ← whole;standAt e.pos;holding [v] (truthy v)):=by intro _;rfl):QT X e (aJ t):=by
 refine⟨?_⟩
 intro B σ F H env Q rp hq
 refine tU (IB bh he) ?_
 refine aA (h B σ F H env _ rp hq) fun v H' w=>?_
 obtain⟨F',d,r',s',hd,k,rfl,q⟩:=w
 exact⟨k,fq hd,F',r',s',q⟩
def n8 (t u:TB):TB:=fun env Q=>t env fun k=>if k=true then u env Q else Q false
def ya (t u:TB):TB:=fun env Q=>t env fun k=>if k=true then Q true else u env Q
def mi (t:TB):TB:=fun env Q=>t env fun k=>Q (!k)
theorem QW.t (h:QW X e tA):QT X e tA:=⟨fun B σ F H env Q rp hq pins s I=>h B σ F H env Q rp hq _ pins s I⟩
theorem kQ (ha:QT X a tA):QW X (.BoolOp .And [a] pos) tA:=⟨fun B σ F H env Q rp h=>Ab (EA sg) (ha B σ F H env Q rp h)⟩
theorem j7 (ha:QT X a tA):QW X (.BoolOp .Or [a] pos) tA:=⟨fun B σ F H env Q rp h=>Ab (IH sg) (ha B σ F H env Q rp h)⟩
theorem nT (ha:QT X a tA) (hb:QW X (.BoolOp .And (b :: rest) pos) tB'):QW X (.BoolOp .And (a :: b :: rest) pos) (n8 tA tB'):=by
 refine⟨?_⟩
 intro B σ F H env Q rp h
 refine Ab (He sg Km) ?_
 refine gV (ha B σ F H env _ rp h) fun k H1 ⟨F1,r1,s1,q1⟩=>?_
 cases k with
 | true=>exact zx (hb B σ F1 H1 env Q r1 q1) fun k2 H2 ⟨F2,r2,s2,q2⟩=>⟨F2,r2,s1.trans s2,q2⟩
 | false=>exact⟨F1,r1,s1,q1⟩
theorem md (ha:QT X a tA) (hb:QW X (.BoolOp .Or (b :: rest) pos) tB'):QW X (.BoolOp .Or (a :: b :: rest) pos) (ya tA tB'):=by
 refine⟨?_⟩
 intro B σ F H env Q rp h
 refine Ab (Kc sg Km) ?_
 refine gV (ha B σ F H env _ rp h) fun k H1 ⟨F1,r1,s1,q1⟩=>?_
 cases k with
 | false=>exact zx (hb B σ F1 H1 env Q r1 q1) fun k2 H2 ⟨F2,r2,s2,q2⟩=>⟨F2,r2,s1.trans s2,q2⟩
 | true=>exact⟨F1,r1,s1,q1⟩
theorem lY (ha:QT X a tA):QT X (.UnaryOp .Not a pos) (mi tA):=⟨fun B σ F H env Q rp h=>tU (HF sg) (gV (ha B σ F H env _ rp h) fun k H1 q=>q)⟩
def m8 (t u:TD):TD:=fun env Q=>t env fun x=>∃k,x=.bl k∧if k=true then u env Q else Q (.bl false)
def w4 (t u:TD):TD:=fun env Q=>t env fun x=>∃k,x=.bl k∧if k=true then Q (.bl true) else u env Q
def mO (t:TD):TD:=fun env Q=>t env fun x=>∃k,x=.bl k∧Q (.bl (!k))
theorem BX {op} (h:QE X a ta):QE X (.BoolOp op [a] pos) ta:=⟨fun B σ F H env Q rp q=>bN (G8 bh) (h B σ F H env Q rp q)⟩
theorem G0 (ha:QE X a ta) (hb:QE X (.BoolOp .And (b :: rest) pos) tb):QE X (.BoolOp .And (a :: b :: rest) pos) (m8 ta tb):=by
 refine⟨?_⟩
 intro B σ F H env Q rp h
 refine bN (Io bh bh) ?_
 refine aA (ha B σ F H env _ rp h) fun v H1 hq0=>?_
 obtain⟨F1,d,r1,s1,d1,k,hk,q1⟩:=hq0
 subst hk
 refine⟨k,fq d1,?_⟩
 cases k with
 | true=>exact aA (hb B σ F1 H1 env Q r1 q1) fun v H2 z=>z.weaken s1
 | false=>exact⟨F1,_,r1,s1,dj,q1⟩
theorem JQ (ha:QE X a ta) (hb:QE X (.BoolOp .Or (b :: rest) pos) tb):QE X (.BoolOp .Or (a :: b :: rest) pos) (w4 ta tb):=by
 refine⟨?_⟩
 intro B σ F H env Q rp h
 refine bN (JA bh bh) ?_
 refine aA (ha B σ F H env _ rp h) fun v H1 hq0=>?_
 obtain⟨F1,d,r1,s1,d1,k,hk,q1⟩:=hq0
 subst hk
 refine⟨k,fq d1,?_⟩
 cases k with
 | false=>exact aA (hb B σ F1 H1 env Q r1 q1) fun v H2 z=>z.weaken s1
 | true=>exact⟨F1,_,r1,s1,dj,q1⟩
theorem Hf (ha:QE X a ta):QE X (.UnaryOp .Not a pos) (mO ta):=by
 refine⟨?_⟩
 intro B σ F H env Q rp h
 refine bN (G3 bh) ?_
 refine aA (ha B σ F H env _ rp h) fun v H1 hq0=>?_
 obtain⟨F1,d,r1,s1,d1,k,hk,q1⟩:=hq0
 subst hk
 exact⟨k,fq d1,F1,_,r1,s1,dj,q1⟩
def Gm (t:TB) (ta tb:TD):TD:=fun env Q=>t env fun k=>if k=true then ta env Q else tb env Q
theorem Ko (hc:QT X c tA) (ha:QE X a ta) (hb:QE X b tb):QE X (.IfExp c a b pos) (Gm tA ta tb):=by
 refine⟨?_⟩
 intro B σ F H env Q rp h
 refine bN (Bp sg bh bh) ?_
 refine gV (hc B σ F H env _ rp h) fun k H1 ⟨F1,r1,s1,q1⟩=>?_
 cases k with
 | true=>exact aA (ha B σ F1 H1 env Q r1 q1) fun v H2 z=>z.weaken s1
 | false=>exact aA (hb B σ F1 H1 env Q r1 q1) fun v H2 z=>z.weaken s1
def au:eQ:=fun _ Q=>Q []
def af (ta:TD) (tr:eQ):eQ:=fun env Q=>ta env fun x=>tr env fun xs=>Q (x :: xs)
theorem aj:QA X [] au:=⟨fun B σ F H env Q rp h=>Gd gz ⟨F,[],rp,ar.refl _,aU,h⟩⟩
theorem ae (ha:QE X e ta) (hr:QA X es ts) (hs:starEach (e :: es) X.env=(false,eval e X.env) :: starEach es X.env:=by exact aT rfl):QA X (e :: es) (af ta ts):=by
 refine⟨?_⟩
 intro B σ F H env Q rp h
 refine Gd (cT bh jF hs) ?_
 refine aA (ha B σ F H env _ rp h) fun x H1 hq0=>?_
 obtain⟨F1,d,r1,s1,d1,q1⟩:=hq0
 exact cy (hr B σ F1 H1 env _ r1 q1) fun xs H2 ⟨F2,ds,r2,s2,d2,q2⟩=>⟨F2,d :: ds,r2,s1.trans s2,aO (Den.mono s2 _ _ d1) d2,q2⟩
def bQ (t:eQ):TD:=fun env Q=>t env fun xs=>xs.length≤sizeLine∧Q (.tup xs)
def gB (t:eQ):TD:=fun env Q=>t env fun xs=>xs.length≤sizeLine∧Q (.lst xs)
theorem RV.Hd {B:Base} {σ:St} {env:En} {F H:Hp} {Q:D→Prop} {ds:List D} {vs:List V} (r:Rep X.K B F H σ env) (hd:aq X.K F ds vs) (q:Q (.tup ds)):∀p,H p=none→RV X B σ env F Q (.ref p) (upd H p (.tup vs)):=fun p hp=>by
 obtain⟨r2,s2⟩:=r.laid (o:=.tup vs) hp
 exact⟨_,_,r2,s2,hG (jv.of aG) (aq.mono s2 _ _ hd),q⟩
theorem RV.Ca {B:Base} {σ:St} {env:En} {F H:Hp} {Q:D→Prop} {ds:List D} {vs:List V} (r:Rep X.K B F H σ env) (hd:aq X.K F ds vs) (q:Q (.lst ds)):∀p,H p=none→RV X B σ env F Q (.ref p) (upd H p (.lst vs)):=fun p hp=>by
 obtain⟨r2,s2⟩:=r.laid (o:=.lst vs) hp
 exact⟨_,_,r2,s2,iS (fL.of aG) (aq.mono s2 _ _ hd),q⟩
theorem aY {x1} (h:QA X es ts):QE X (.Tuple es x1 pos) (bQ ts):=by
 refine⟨?_⟩
 intro B σ F H env Q rp hq
 refine bN (G5 jF) ?_
 refine cy (h B σ F H env _ rp hq) fun vs H1 ⟨F1,ds,r1,s1,d1,z,q1⟩=>⟨by rw [← d1.length];exact z,fun p hp=>(RV.Hd r1 d1 q1 p hp).weaken s1⟩
theorem fw (h:QA X es ts):QE X (.List es pos) (gB ts):=by
 refine⟨?_⟩
 intro B σ F H env Q rp hq
 refine bN (zd jF) ?_
 refine cy (h B σ F H env _ rp hq) fun vs H1 ⟨F1,ds,r1,s1,d1,z,q1⟩=>⟨by rw [← d1.length];exact z,fun p hp=>(RV.Ca r1 d1 q1 p hp).weaken s1⟩
end
end L2.L3
namespace L2.L3
open PySem PySem.Spec PyProof.Rows
mutual
def a6:D→D→Bool
 | .non,.non=>true
 | .bl a,.bl b=>a == b
 | .bl a,.int b=>(if a then 1 else 0) == b
 | .int a,.bl b=>a == (if b then 1 else 0)
 | .int a,.int b=>a == b
 | .str a,.str b=>a == b
 | .tup a,.tup b=>dm a b
 | .lst a,.lst b=>dm a b
 | _,_=>false
def dm:List D→List D→Bool
 | [],[]=>true
 | a :: as,b :: bs=>a6 a b && dm as bs
 | _,_=>false
end
mutual
def dep:D→Nat
 | .tup ds=>b9 ds + 1
 | .lst ds=>b9 ds + 1
 | .dct _ _=>1000
 | .obj _=>1000
 | .ty _=>1000
 | .exc _=>1000
 | .cls _=>1000
 | _=>0
def b9:List D→Nat
 | []=>0
 | d :: ds=>max (dep d) (b9 ds)
end
def vZ (ds es:List D) (j:Nat):Bool:=match ds[j]?,es[j]? with
 | some a,some b=>a6 a b
 | _,_=>true
theorem qy (n:Nat) (e:Nat→Bool):(List.range (n + 1)).all e=(e 0 && (List.range n).all fun i=>e (i + 1)):=by
 rw [List.range_succ_eq_map,List.all_cons,List.all_map];rfl
theorem uZ:∀ds es:List D,((List.range (min ds.length es.length)).all (vZ ds es) && (ds.length == es.length))=dm ds es
 | [],[]=>by simp [dm]
 | [],b :: es=>by simp [dm]
 | a :: ds,[]=>by simp [dm]
 | a :: ds,b :: es=>by
  have ih:=uZ ds es
  rw [List.length_cons,List.length_cons,Nat.succ_min_succ,qy]
  have e1:vZ (a :: ds) (b :: es) 0=a6 a b:=by simp [vZ]
  have e2:(fun i=>vZ (a :: ds) (b :: es) (i + 1))=vZ ds es:=by funext i;simp [vZ]
  have e3:(ds.length + 1 == es.length + 1)=(ds.length == es.length):=by
   rw [Bool.eq_iff_iff];simp
  rw [e1,e2,e3,Bool.and_assoc,ih,dm]
section
variable {X:Cx} {pins:List (Addr×Obj)} {σ:St} {H F:Hp} {s:Shared}
theorem Inv.wt (I:Inv X pins σ H s) {a:Addr} {xs ys:List V} (h:jv X.K H a xs) (h':fL X.K H a ys):False:=by
 obtain⟨_,_,⟨o,e1,c1,_⟩,_⟩:=I.tuple h
 obtain⟨_,_,⟨o2,_,e2,c2,_⟩,_⟩:=I.list h'
 rw [e1] at e2;cases e2;rw [c1] at c2;injection c2 with z;exact absurd z (by decide)
mutual
theorem pJ (I:Inv X pins σ H s) (fh:ar F H):∀(d d':D) (v:V),dep d < 1000→dep d' < 1000→Den X.K F d v→Den X.K F d' v→a6 d d'=true
 | .non,d',v,h1,h2,e1,e2=>by
  simp only [Den] at e1;subst e1
  cases d' <;> simp only [Den] at e2 <;> first | rfl | (obtain⟨a,vs,z,_⟩:=e2;cases z;done) | (obtain⟨a,z,_⟩:=e2;cases z;done) | cases e2
 | .bl b,d',v,h1,h2,e1,e2=>by
  simp only [Den] at e1;subst e1
  cases d' <;> simp only [Den] at e2 <;> first | (obtain⟨a,vs,z,_⟩:=e2;cases z;done) | (obtain⟨a,z,_⟩:=e2;cases z;done) | (cases e2;simp [a6];done) | cases e2
 | .int b,d',v,h1,h2,e1,e2=>by
  simp only [Den] at e1;subst e1
  cases d' <;> simp only [Den] at e2 <;> first | (obtain⟨a,vs,z,_⟩:=e2;cases z;done) | (obtain⟨a,z,_⟩:=e2;cases z;done) | (cases e2;simp [a6];done) | cases e2
 | .str b,d',v,h1,h2,e1,e2=>by
  simp only [Den] at e1;subst e1
  cases d' <;> simp only [Den] at e2 <;> first | (obtain⟨a,vs,z,_⟩:=e2;cases z;done) | (obtain⟨a,z,_⟩:=e2;cases z;done) | (cases e2;simp [a6];done) | cases e2
 | .ty b,d',v,h1,h2,e1,e2=>by simp [dep] at h1
 | .exc b,d',v,h1,h2,e1,e2=>by simp [dep] at h1
 | .cls b,d',v,h1,h2,e1,e2=>by simp [dep] at h1
 | .dct _ _,d',v,h1,h2,e1,e2=>by simp [dep] at h1
 | .obj _,d',v,h1,h2,e1,e2=>by simp [dep] at h1
 | .tup ds,d',v,h1,h2,e1,e2=>by
  simp only [Den] at e1
  obtain⟨a,vs,rfl,q,r⟩:=e1
  cases d' with
  | tup es =>
   simp only [Den] at e2
   obtain⟨a',us,z,q',r'⟩:=e2
   cases z
   have:=I.nC (ar.cm fh q) (ar.cm fh q')
   subst this
   simp only [a6]
   exact qU I fh ds es vs (by simp [dep] at h1;omega) (by simp [dep] at h2;omega) r r'
  | lst es =>
   simp only [Den] at e2
   obtain⟨a',us,z,q',r'⟩:=e2
   cases z
   exact (Inv.wt I (ar.cm fh q) (fh.seq q')).elim
  | dct _ _=>simp [dep] at h2
  | obj _=>simp [dep] at h2
  | exc _=>simp [dep] at h2
  | cls _=>simp [dep] at h2
  | _=>simp only [Den] at e2;cases e2
 | .lst ds,d',v,h1,h2,e1,e2=>by
  simp only [Den] at e1
  obtain⟨a,vs,rfl,q,r⟩:=e1
  cases d' with
  | lst es =>
   simp only [Den] at e2
   obtain⟨a',us,z,q',r'⟩:=e2
   cases z
   have:=I.rq (fh.seq q) (fh.seq q')
   subst this
   simp only [a6]
   exact qU I fh ds es vs (by simp [dep] at h1;omega) (by simp [dep] at h2;omega) r r'
  | tup es =>
   simp only [Den] at e2
   obtain⟨a',us,z,q',r'⟩:=e2
   cases z
   exact (Inv.wt I (ar.cm fh q') (fh.seq q)).elim
  | dct _ _=>simp [dep] at h2
  | obj _=>simp [dep] at h2
  | exc _=>simp [dep] at h2
  | cls _=>simp [dep] at h2
  | _=>simp only [Den] at e2;cases e2
theorem qU (I:Inv X pins σ H s) (fh:ar F H):∀(ds es:List D) (vs:List V),b9 ds < 1000→b9 es < 1000→aq X.K F ds vs→aq X.K F es vs→dm ds es=true
 | [],es,vs,h1,h2,e1,e2=>by
  simp only [aq] at e1;subst e1
  cases es with
  | nil=>rfl
  | cons _ _=>simp only [aq] at e2;obtain⟨_,_,z,_⟩:=e2;cases z
 | d :: ds,es,vs,h1,h2,e1,e2=>by
  simp only [aq] at e1
  obtain⟨v,r,rfl,a,b⟩:=e1
  cases es with
  | nil=>simp only [aq] at e2;cases e2
  | cons e es =>
   simp only [aq] at e2
   obtain⟨v',r',z,a',b'⟩:=e2
   cases z
   simp only [b9] at h1 h2
   simp only [dm,Bool.and_eq_true]
   exact⟨pJ I fh d e v (by omega) (by omega) a a',qU I fh ds es r (by omega) (by omega) b b'⟩
end
theorem units_in1 (A:Around):A.in1.units=A.units + 1:=rfl
def J5:D→Bool
 | .non=>true
 | .bl _=>true
 | .int _=>true
 | .str _=>true
 | _=>false
theorem vt (I:Inv X pins σ H s) (fh:ar F H):∀(d d':D) (A:Around) (x y:V) (u v:Value),J5 d=true→A.units + dep d < cLine→dep d' < 1000→Den X.K F d x→Den X.K F d' y→RelV x u→RelV y v →
  SeqAt.RcAt A s u v (a6 d d')∧SeqAt.RcNeAt A s u v (!a6 d d')
 | .non,d',A,x,y,u,v,lf,hu,h2,e1,e2,r1,r2=>by
  simp only [Den] at e1;subst e1;cases r1
  have hu0:A.units < cLine:=by omega
  cases d' with
  | ty _=>simp [dep] at h2
  | dct _ _=>simp [dep] at h2
  | obj _=>simp [dep] at h2
  | exc _=>simp [dep] at h2
  | cls _=>simp [dep] at h2
  | non=>simp only [Den] at e2;subst e2;cases r2;exact⟨SeqAt.RcAt.none_none,SeqAt.RcNeAt.none_none⟩
  | bl b=>simp only [Den] at e2;subst e2;cases r2;exact⟨SeqAt.RcAt.none_bool b,SeqAt.RcNeAt.none_bool b⟩
  | int b=>simp only [Den] at e2;subst e2;obtain⟨t,rfl⟩:=r2;exact⟨SeqAt.RcAt.none_int b t,SeqAt.RcNeAt.none_int b t⟩
  | str b=>simp only [Den] at e2;subst e2;obtain⟨t,rfl⟩:=r2;exact⟨SeqAt.RcAt.none_str b t,SeqAt.RcNeAt.none_str b t⟩
  | tup es =>
   simp only [Den] at e2;obtain⟨a,vs,rfl,q,r⟩:=e2;cases r2
   obtain⟨its,rv,ht,hz⟩:=I.tuple (ar.cm fh q)
   exact⟨SeqAt.RcAt.none_tuple ht hu0,SeqAt.RcNeAt.none_tuple ht hu0⟩
  | lst es =>
   simp only [Den] at e2;obtain⟨a,vs,rfl,q,r⟩:=e2;cases r2
   obtain⟨its,rv,ht,hz⟩:=I.list (fh.seq q)
   exact⟨SeqAt.RcAt.none_list ht.isList hu0,SeqAt.RcNeAt.none_list ht.isList hu0⟩
 | .bl b',d',A,x,y,u,v,lf,hu,h2,e1,e2,r1,r2=>by
  simp only [Den] at e1;subst e1;cases r1
  have hu0:A.units < cLine:=by omega
  cases d' with
  | ty _=>simp [dep] at h2
  | dct _ _=>simp [dep] at h2
  | obj _=>simp [dep] at h2
  | exc _=>simp [dep] at h2
  | cls _=>simp [dep] at h2
  | non=>simp only [Den] at e2;subst e2;cases r2;exact⟨SeqAt.RcAt.bool_none b',SeqAt.RcNeAt.bool_none b'⟩
  | bl b=>simp only [Den] at e2;subst e2;cases r2;exact⟨by simpa only [a6] using SeqAt.RcAt.bool_bool b' b,by simpa only [a6] using SeqAt.RcNeAt.bool_bool b' b⟩
  | int b=>simp only [Den] at e2;subst e2;obtain⟨t,rfl⟩:=r2;exact⟨by simpa only [a6] using SeqAt.RcAt.bool_int b' b t,by simpa only [a6] using SeqAt.RcNeAt.bool_int b' b t⟩
  | str b=>simp only [Den] at e2;subst e2;obtain⟨t,rfl⟩:=r2;exact⟨SeqAt.RcAt.bool_str b' b t,SeqAt.RcNeAt.bool_str b' b t⟩
  | tup es =>
   simp only [Den] at e2;obtain⟨a,vs,rfl,q,r⟩:=e2;cases r2
   obtain⟨its,rv,ht,hz⟩:=I.tuple (ar.cm fh q)
   exact⟨SeqAt.RcAt.bool_tuple b' ht hu0,SeqAt.RcNeAt.bool_tuple b' ht hu0⟩
  | lst es =>
   simp only [Den] at e2;obtain⟨a,vs,rfl,q,r⟩:=e2;cases r2
   obtain⟨its,rv,ht,hz⟩:=I.list (fh.seq q)
   exact⟨SeqAt.RcAt.bool_list b' ht.isList hu0,SeqAt.RcNeAt.bool_list b' ht.isList hu0⟩
 | .int b',d',A,x,y,u,v,lf,hu,h2,e1,e2,r1,r2=>by
  simp only [Den] at e1;subst e1;obtain⟨t',rfl⟩:=r1
  have hu0:A.units < cLine:=by omega
  cases d' with
  | ty _=>simp [dep] at h2
  | dct _ _=>simp [dep] at h2
  | obj _=>simp [dep] at h2
  | exc _=>simp [dep] at h2
  | cls _=>simp [dep] at h2
  | non=>simp only [Den] at e2;subst e2;cases r2;exact⟨SeqAt.RcAt.int_none b' t',SeqAt.RcNeAt.int_none b' t'⟩
  | bl b=>simp only [Den] at e2;subst e2;cases r2;exact⟨by simpa only [a6] using SeqAt.RcAt.int_bool b' t' b,by simpa only [a6] using SeqAt.RcNeAt.int_bool b' t' b⟩
  | int b=>simp only [Den] at e2;subst e2;obtain⟨t,rfl⟩:=r2;exact⟨by simpa only [a6] using SeqAt.RcAt.int_int b' t' b t,by simpa only [a6] using SeqAt.RcNeAt.int_int b' t' b t⟩
  | str b=>simp only [Den] at e2;subst e2;obtain⟨t,rfl⟩:=r2;exact⟨SeqAt.RcAt.int_str b' t' b t,SeqAt.RcNeAt.int_str b' t' b t⟩
  | tup es =>
   simp only [Den] at e2;obtain⟨a,vs,rfl,q,r⟩:=e2;cases r2
   obtain⟨its,rv,ht,hz⟩:=I.tuple (ar.cm fh q)
   exact⟨SeqAt.RcAt.int_tuple b' t' ht hu0,SeqAt.RcNeAt.int_tuple b' t' ht hu0⟩
  | lst es =>
   simp only [Den] at e2;obtain⟨a,vs,rfl,q,r⟩:=e2;cases r2
   obtain⟨its,rv,ht,hz⟩:=I.list (fh.seq q)
   exact⟨SeqAt.RcAt.int_list b' t' ht.isList hu0,SeqAt.RcNeAt.int_list b' t' ht.isList hu0⟩
 | .str b',d',A,x,y,u,v,lf,hu,h2,e1,e2,r1,r2=>by
  simp only [Den] at e1;subst e1;obtain⟨t',rfl⟩:=r1
  have hu0:A.units < cLine:=by omega
  cases d' with
  | ty _=>simp [dep] at h2
  | dct _ _=>simp [dep] at h2
  | obj _=>simp [dep] at h2
  | exc _=>simp [dep] at h2
  | cls _=>simp [dep] at h2
  | non=>simp only [Den] at e2;subst e2;cases r2;exact⟨SeqAt.RcAt.str_none b' t',SeqAt.RcNeAt.str_none b' t'⟩
  | bl b=>simp only [Den] at e2;subst e2;cases r2;exact⟨SeqAt.RcAt.str_bool b' t' b,SeqAt.RcNeAt.str_bool b' t' b⟩
  | int b=>simp only [Den] at e2;subst e2;obtain⟨t,rfl⟩:=r2;exact⟨SeqAt.RcAt.str_int b' t' b t,SeqAt.RcNeAt.str_int b' t' b t⟩
  | str b=>simp only [Den] at e2;subst e2;obtain⟨t,rfl⟩:=r2;exact⟨by simpa only [a6] using SeqAt.RcAt.str_str b' t' b t,by simpa only [a6] using SeqAt.RcNeAt.str_str b' t' b t⟩
  | tup es =>
   simp only [Den] at e2;obtain⟨a,vs,rfl,q,r⟩:=e2;cases r2
   obtain⟨its,rv,ht,hz⟩:=I.tuple (ar.cm fh q)
   exact⟨SeqAt.RcAt.str_tuple b' t' ht hu0,SeqAt.RcNeAt.str_tuple b' t' ht hu0⟩
  | lst es =>
   simp only [Den] at e2;obtain⟨a,vs,rfl,q,r⟩:=e2;cases r2
   obtain⟨its,rv,ht,hz⟩:=I.list (fh.seq q)
   exact⟨SeqAt.RcAt.str_list b' t' ht.isList hu0,SeqAt.RcNeAt.str_list b' t' ht.isList hu0⟩
 | .ty _,d',A,x,y,u,v,lf,hu,h2,e1,e2,r1,r2=>(by cases lf)
 | .exc _,d',A,x,y,u,v,lf,hu,h2,e1,e2,r1,r2=>(by cases lf)
 | .cls _,d',A,x,y,u,v,lf,hu,h2,e1,e2,r1,r2=>(by cases lf)
 | .dct _ _,d',A,x,y,u,v,lf,hu,h2,e1,e2,r1,r2=>(by cases lf)
 | .obj _,d',A,x,y,u,v,lf,hu,h2,e1,e2,r1,r2=>(by cases lf)
 | .tup _,d',A,x,y,u,v,lf,hu,h2,e1,e2,r1,r2=>(by cases lf)
 | .lst _,d',A,x,y,u,v,lf,hu,h2,e1,e2,r1,r2=>(by cases lf)
theorem zA (I:Inv X pins σ H s) (fh:ar F H) (d d':D) (A:Around) (x y:V) (u v:Value) (hu:A.units + dep d < cLine) (h1:dep d < 1000) (h2:dep d' < 1000) (e1:Den X.K F d x) (e2:Den X.K F d' y) (r1:RelV x u) (r2:RelV y v) (k:SeqAt.RcAt A s u v (a6 d d')) :
  SeqAt.EqAt A s u v (a6 d d'):=by
 have hu0:A.units < cLine:=by omega
 by_cases z:u=v
 ·subst z
  have:x=y:=r1.inj r2
  subst this
  rw [pJ I fh d d' x h1 h2 e1 e2]
  exact SeqAt.EqAt.same u
 ·intro prog w E Q hq
  unfold eqBool
  refine wpAny_holding ?_
  refine wpAny_ite_split (fun hab=>absurd (eq_of_beq hab) z) (fun _=>?_)
  have nf:∀b t,u≠.float b t:=fun b t w=>by
   subst w
   cases x <;> first | (obtain⟨_,q⟩:=r1;cases q;done) | (cases r1;done) | skip
   cases d <;> simp only [Den] at e1 <;> first | (cases e1;done) | (obtain⟨_,_,z,_⟩:=e1;cases z;done) | (obtain⟨_,z,_⟩:=e1;cases z;done)
  cases u <;> cases v <;> first | exact absurd rfl (nf _ _) | exact Mn (k prog w E _ (wpAny_truthy_bool hq))
theorem Gi (I:Inv X pins σ H s) (fh:ar F H) (ds0:List D) (d d':D) (A:Around) (x y:V) (u v:Value) (hl:d=.tup ds0∨d=.lst ds0) (hu:A.units + dep d < cLine) (h1:dep d < 1000) (h2:dep d' < 1000) (e1:Den X.K F d x) (e2:Den X.K F d' y) (r1:RelV x u) (r2:RelV y v)
  (rec:∀(es:List D),(d'=.tup es∨d'=.lst es)→∀(vs1 vs:List V) (its1 its:List Value),aq X.K F ds0 vs1→aq X.K F es vs→Vals vs1 its1→Vals vs its→∀(j:Nat) (h1:j < its1.length) (h2:j < its.length),SeqAt.EqAt A.in1 s its1[j] its[j] (vZ ds0 es j)) :
  SeqAt.RcAt A s u v (a6 d d')∧SeqAt.RcNeAt A s u v (!a6 d d'):=by
 cases d with
 | non=>rcases hl with hl | hl <;> cases hl
 | bl _=>rcases hl with hl | hl <;> cases hl
 | int _=>rcases hl with hl | hl <;> cases hl
 | str _=>rcases hl with hl | hl <;> cases hl
 | ty _=>simp [dep] at h1
 | exc _=>simp [dep] at h1
 | cls _=>simp [dep] at h1
 | dct _ _=>simp [dep] at h1
 | obj _=>simp [dep] at h1
 | tup ds =>
  have z:ds=ds0:=by rcases hl with hl | hl <;> cases hl <;> rfl
  subst z
  simp only [Den] at e1;obtain⟨a1,vs1,rfl,q1,g1⟩:=e1;cases r1
  obtain⟨its1,rv1,ht1,hz1⟩:=I.tuple (ar.cm fh q1)
  simp only [dep] at hu h1
  have hu0:A.units < cLine:=by omega
  cases d' with
  | ty _=>simp [dep] at h2
  | dct _ _=>simp [dep] at h2
  | obj _=>simp [dep] at h2
  | exc _=>simp [dep] at h2
  | cls _=>simp [dep] at h2
  | non=>simp only [Den] at e2;subst e2;cases r2;exact⟨SeqAt.RcAt.tuple_none ht1 hu0,SeqAt.RcNeAt.tuple_none ht1 hu0⟩
  | bl b=>simp only [Den] at e2;subst e2;cases r2;exact⟨SeqAt.RcAt.tuple_bool b ht1 hu0,SeqAt.RcNeAt.tuple_bool b ht1 hu0⟩
  | int b=>simp only [Den] at e2;subst e2;obtain⟨t,rfl⟩:=r2;exact⟨SeqAt.RcAt.tuple_int b t ht1 hu0,SeqAt.RcNeAt.tuple_int b t ht1 hu0⟩
  | str b=>simp only [Den] at e2;subst e2;obtain⟨t,rfl⟩:=r2;exact⟨SeqAt.RcAt.tuple_str b t ht1 hu0,SeqAt.RcNeAt.tuple_str b t ht1 hu0⟩
  | lst es =>
   simp only [Den] at e2;obtain⟨a,vs,rfl,q,r⟩:=e2;cases r2
   obtain⟨its,rv,ht,hz⟩:=I.list (fh.seq q)
   exact⟨SeqAt.RcAt.tuple_list ht1 ht.isList hu0,SeqAt.RcNeAt.tuple_list ht1 ht.isList hu0⟩
  | tup es =>
   simp only [Den] at e2;obtain⟨a,vs,rfl,q,r⟩:=e2;cases r2
   obtain⟨its,rv,ht,hz⟩:=I.tuple (ar.cm fh q)
   simp only [dep] at h2
   have he:=rec es (.inl rfl) vs1 vs its1 its g1 r rv1 rv
   have l1:its1.length=ds.length:=by rw [g1.length,rv1.length]
   have l2:its.length=es.length:=by rw [r.length,rv.length]
   have k1:=SeqAt.RcAt.tuples (e:=vZ ds es) ht1 ht hu0 (fun j h1 h2=>he j (by simpa using h1) (by simpa using h2))
   have k2:=SeqAt.RcNeAt.tuples (e:=vZ ds es) ht1 ht hu0 (fun j h1 h2=>he j (by simpa using h1) (by simpa using h2))
   rw [MG,MG,l1,l2,uZ] at k1 k2
   exact⟨by simpa only [a6] using k1,by simpa only [a6] using k2⟩
 | lst ds =>
  have z:ds=ds0:=by rcases hl with hl | hl <;> cases hl <;> rfl
  subst z
  simp only [Den] at e1;obtain⟨a1,vs1,rfl,q1,g1⟩:=e1;cases r1
  obtain⟨its1,rv1,ht1,hz1⟩:=I.list (fh.seq q1)
  simp only [dep] at hu h1
  have hu0:A.units < cLine:=by omega
  cases d' with
  | ty _=>simp [dep] at h2
  | dct _ _=>simp [dep] at h2
  | obj _=>simp [dep] at h2
  | exc _=>simp [dep] at h2
  | cls _=>simp [dep] at h2
  | non=>simp only [Den] at e2;subst e2;cases r2;exact⟨SeqAt.RcAt.list_none ht1.isList hu0,SeqAt.RcNeAt.list_none ht1.isList hu0⟩
  | bl b=>simp only [Den] at e2;subst e2;cases r2;exact⟨SeqAt.RcAt.list_bool b ht1.isList hu0,SeqAt.RcNeAt.list_bool b ht1.isList hu0⟩
  | int b=>simp only [Den] at e2;subst e2;obtain⟨t,rfl⟩:=r2;exact⟨SeqAt.RcAt.list_int b t ht1.isList hu0,SeqAt.RcNeAt.list_int b t ht1.isList hu0⟩
  | str b=>simp only [Den] at e2;subst e2;obtain⟨t,rfl⟩:=r2;exact⟨SeqAt.RcAt.list_str b t ht1.isList hu0,SeqAt.RcNeAt.list_str b t ht1.isList hu0⟩
  | tup es =>
   simp only [Den] at e2;obtain⟨a,vs,rfl,q,r⟩:=e2;cases r2
   obtain⟨its,rv,ht,hz⟩:=I.tuple (ar.cm fh q)
   exact⟨SeqAt.RcAt.list_tuple ht1.isList ht hu0,SeqAt.RcNeAt.list_tuple ht1.isList ht hu0⟩
  | lst es =>
   simp only [Den] at e2;obtain⟨a,vs,rfl,q,r⟩:=e2;cases r2
   obtain⟨its,rv,ht,hz⟩:=I.list (fh.seq q)
   simp only [dep] at h2
   have he:=rec es (.inr rfl) vs1 vs its1 its g1 r rv1 rv
   have l1:its1.length=ds.length:=by rw [g1.length,rv1.length]
   have l2:its.length=es.length:=by rw [r.length,rv.length]
   simp only [a6]
   rw [← uZ]
   by_cases hsz:ds.length=es.length
   ·have k1:=SeqAt.RcAt.lists (e:=vZ ds es) ht1.isList ht.isList (by simp [l1,l2,hsz]) hu0 (fun j h1 h2=>he j (by simpa using h1) (by simpa using h2))
    have k2:=SeqAt.RcNeAt.lists (e:=vZ ds es) ht1.isList ht.isList (by simp [l1,l2,hsz]) hu0 (fun j h1 h2=>he j (by simpa using h1) (by simpa using h2))
    rw [MG,l1] at k1 k2
    have e:(ds.length == es.length)=true:=by simp [hsz]
    rw [e,Bool.and_true,← hsz,Nat.min_self]
    exact⟨k1,k2⟩
   ·have e:(ds.length == es.length)=false:=by simp [hsz]
    rw [e,Bool.and_false]
    have e2:(its1.toArray.size != its.toArray.size)=true:=by simp [l1,l2,hsz]
    exact⟨SeqAt.RcAt.lists_lengths ht1.isList ht.isList e2 hu0,SeqAt.RcNeAt.lists_lengths ht1.isList ht.isList e2 hu0⟩
mutual
theorem Fq (I:Inv X pins σ H s) (fh:ar F H):∀(d d':D) (A:Around) (x y:V) (u v:Value),A.units + dep d < cLine→dep d < 1000→dep d' < 1000→Den X.K F d x→Den X.K F d' y→RelV x u→RelV y v →
  SeqAt.RcAt A s u v (a6 d d')∧SeqAt.RcNeAt A s u v (!a6 d d')
 | .ty _,d',A,x,y,u,v,hu,h1,h2,e1,e2,r1,r2=>by simp [dep] at h1
 | .exc _,d',A,x,y,u,v,hu,h1,h2,e1,e2,r1,r2=>by simp [dep] at h1
 | .cls _,d',A,x,y,u,v,hu,h1,h2,e1,e2,r1,r2=>by simp [dep] at h1
 | .dct _ _,d',A,x,y,u,v,hu,h1,h2,e1,e2,r1,r2=>by simp [dep] at h1
 | .obj _,d',A,x,y,u,v,hu,h1,h2,e1,e2,r1,r2=>by simp [dep] at h1
 | .non,d',A,x,y,u,v,hu,h1,h2,e1,e2,r1,r2=>vt I fh _ d' A x y u v rfl hu h2 e1 e2 r1 r2
 | .bl _,d',A,x,y,u,v,hu,h1,h2,e1,e2,r1,r2=>vt I fh _ d' A x y u v rfl hu h2 e1 e2 r1 r2
 | .int _,d',A,x,y,u,v,hu,h1,h2,e1,e2,r1,r2=>vt I fh _ d' A x y u v rfl hu h2 e1 e2 r1 r2
 | .str _,d',A,x,y,u,v,hu,h1,h2,e1,e2,r1,r2=>vt I fh _ d' A x y u v rfl hu h2 e1 e2 r1 r2
 | .tup ds,d',A,x,y,u,v,hu,h1,h2,e1,e2,r1,r2=>Gi I fh ds _ d' A x y u v (.inl rfl) hu h1 h2 e1 e2 r1 r2 fun es z2 vs1 vs its1 its g1 r rv1 rv =>
  Dn I fh ds es A.in1 vs1 vs its1 its (by rw [units_in1];simp only [dep] at hu;omega) (by simp only [dep] at h1;omega) (by rcases z2 with rfl | rfl <;> (simp only [dep] at h2;omega)) g1 r rv1 rv
 | .lst ds,d',A,x,y,u,v,hu,h1,h2,e1,e2,r1,r2=>Gi I fh ds _ d' A x y u v (.inr rfl) hu h1 h2 e1 e2 r1 r2 fun es z2 vs1 vs its1 its g1 r rv1 rv =>
  Dn I fh ds es A.in1 vs1 vs its1 its (by rw [units_in1];simp only [dep] at hu;omega) (by simp only [dep] at h1;omega) (by rcases z2 with rfl | rfl <;> (simp only [dep] at h2;omega)) g1 r rv1 rv
theorem Dn (I:Inv X pins σ H s) (fh:ar F H):∀(ds es:List D) (A:Around) (xs ys:List V) (us vs:List Value),A.units + b9 ds < cLine→b9 ds < 1000→b9 es < 1000→aq X.K F ds xs→aq X.K F es ys→Vals xs us→Vals ys vs →
  ∀(j:Nat) (h1:j < us.length) (h2:j < vs.length),SeqAt.EqAt A s us[j] vs[j] (vZ ds es j)
 | [],es,A,xs,ys,us,vs,hu,h1,h2,e1,e2,r1,r2,j,hj1,hj2=>by
  simp only [aq] at e1;subst e1;cases r1;simp at hj1
 | d :: ds,es,A,xs,ys,us,vs,hu,h1,h2,e1,e2,r1,r2,j,hj1,hj2=>by
  simp only [aq] at e1
  obtain⟨x,xr,rfl,ax,bx⟩:=e1
  cases r1 with
  | cons rx rrx =>
  cases es with
  | nil=>simp only [aq] at e2;subst e2;cases r2;simp at hj2
  | cons e es =>
   simp only [aq] at e2
   obtain⟨y,yr,rfl,ay,by'⟩:=e2
   cases r2 with
   | cons ry rry =>
   simp only [b9] at hu h1 h2
   cases j with
   | zero =>
    simp only [List.getElem_cons_zero]
    have e0:vZ (d :: ds) (e :: es) 0=a6 d e:=by simp [vZ]
    rw [e0]
    exact zA I fh d e A x y _ _ (by omega) (by omega) (by omega) ax ay rx ry (Fq I fh d e A x y _ _ (by omega) (by omega) (by omega) ax ay rx ry).1
   | succ j =>
    simp only [List.getElem_cons_succ]
    have e0:vZ (d :: ds) (e :: es) (j + 1)=vZ ds es j:=by simp [vZ]
    rw [e0]
    exact Dn I fh ds es A xr yr _ _ (by omega) (by omega) (by omega) bx by' rrx rry j (by simpa using hj1) (by simpa using hj2)
end
theorem p9 (I:Inv X pins σ H s) (fh:ar F H) (d d':D) (A:Around) (x y:V) (u v:Value) (hu:A.units + dep d < cLine) (h1:dep d < 1000) (h2:dep d' < 1000) (e1:Den X.K F d x) (e2:Den X.K F d' y) (r1:RelV x u) (r2:RelV y v) :
  SeqAt.EqAt A s u v (a6 d d'):=zA I fh d d' A x y u v hu h1 h2 e1 e2 r1 r2 (Fq I fh d d' A x y u v hu h1 h2 e1 e2 r1 r2).1
end
end L2.L3
namespace L2.L3
open PySem PySem.Spec PyProof.Rows
section
variable {X:Cx} {a b c e:Expr} {es:List Expr} {ta tb tc:TD} {tA tB':TB} {ts:eQ} {pos:Pos} {rest:List Expr}
def GI (K:PySem.W.Frag):R2:=fun x y H Q=>∃l b xs zs,x=.ref l∧y=.ref b∧fL K H l xs∧fL K H b zs∧xs.length + zs.length≤sizeLine∧∀p,H p=none→Q (.ref p) (upd H p (.lst (xs ++ zs)))
theorem FI:iQ X (binaryOp .Add) (GI X.K):=by
 intro pins s σ H x y v u Q I rx ry h
 obtain⟨l,b,xs,zs,rfl,rfl,hH,hB,hz,q⟩:=h
 cases rx
 cases ry
 obtain⟨its,r,⟨⟨cls,dd,data,sl⟩,n,ho,hc,hdd,hd⟩,z⟩:=I.list hH
 obtain⟨its2,r2,⟨⟨cls2,dd2,data2,sl2⟩,n2,ho2,hc2,hdd2,hd2⟩,z2⟩:=I.list hB
 simp only at hc hdd hd hc2 hdd2 hd2
 subst hc hdd hd hc2 hdd2 hd2
 have ea:its.toArray ++ its2.toArray=(its ++ its2).toArray:=by simp
 refine concat_meets ⟨_,ho,rfl⟩ ⟨_,ho2,rfl⟩ noFill_list_add seq_list_add PySem.F.slot_list_add PySem.F.entry_list_add (PySem.F.args_list_add_2 _ _)
  (list_addW l b its.toArray its2.toArray n n2 none none sl sl2 (by rw [MG,MG,← r.length,← r2.length];exact hz)) ⟨ho,ho2,?_⟩
 rw [ea]
 exact⟨.ref _,_,I.KN (t':=s.toks) (r.append r2) (by rw [MS];omega),rfl,q _ I.fresh⟩
def Ci (K:PySem.W.Frag):R2:=fun x y H Q=>∃a b ys,x=.ref a∧y=.ref b∧jv K H a []∧jv K H b ys∧Q (.ref b) H
theorem BZ:iQ X (binaryOp .Add) (Ci X.K):=by
 intro pins s σ H x y v u Q I rx ry h
 obtain⟨l,b,zs,rfl,rfl,hH,hB,q⟩:=h
 cases rx
 cases ry
 obtain⟨its,r,⟨⟨cls,dd,data,sl⟩,ho,hc,n,hd⟩,z⟩:=I.tuple hH
 obtain⟨its2,r2,⟨⟨cls2,dd2,data2,sl2⟩,ho2,hc2,n2,hd2⟩,z2⟩:=I.tuple hB
 cases r
 simp only at hc hd hc2 hd2
 subst hc hd hc2 hd2
 exact concat_meets ⟨_,ho,rfl⟩ ⟨_,ho2,rfl⟩ noFill_tuple_add seq_tuple_add PySem.F.slot_tuple_add PySem.F.entry_tuple_add (PySem.F.args_tuple_add_2 _ _)
  (tuple_addW0 l b _ _ n n2 dd dd2 sl sl2 (by simp)) ⟨ho,ho2,⟨.ref b,H,I,rfl,q⟩⟩
def bK (x y:D) (Q:D→Prop):Prop:=match x,y with
 | .int i,.int j=>Q (.int (i + j))
 | .str u,.str w=>u.length + w.length≤sizeLine∧Q (.str (u ++ w))
 | .lst u,.lst w=>u.length + w.length≤sizeLine∧Q (.lst (u ++ w))
 | .tup u,.tup w=>u.length + w.length≤sizeLine∧Q (.tup (u ++ w))
 | _,_=>False
def zD (K:PySem.W.Frag):R2:=fun x y H Q=>BS (fun i j=>.int (i + j)) x y H Q∨(∃i j,x=.str i∧y=.str j∧i.length + j.length≤sizeLine∧Q (.str (i ++ j)) H)∨GI K x y H Q∨Gx K x y H Q∨Ci K x y H Q
theorem Ar:iQ X (binaryOp .Add) (zD X.K):=GW.or (yC.or (FI.or (El.or BZ)))
theorem Hu:sj X (zD X.K) bK:=by
 intro B σ F H env Q d d' x y Z rp h1 h2 hz hf
 unfold bK at hf
 split at hf
 ·simp only [Den] at h1 h2;subst h1 h2
  exact .inl ⟨_,_,rfl,rfl,hz _ _ F _ rp (ar.refl _) bo hf⟩
 ·simp only [Den] at h1 h2;subst h1 h2
  exact .inr (.inl ⟨_,_,rfl,rfl,hf.1,hz _ _ F _ rp (ar.refl _) hW hf.2⟩)
 ·simp only [Den] at h1 h2
  obtain⟨p,vs,rfl,q,r⟩:=h1
  obtain⟨p',vs',rfl,q',r'⟩:=h2
  refine .inr (.inr (.inl ⟨p,p',vs,vs',rfl,rfl,rp.fh.seq q,rp.fh.seq q',by rw [← r.length,← r'.length];exact hf.1,fun w hw=>?_⟩))
  obtain⟨r2,s2⟩:=rp.laid (o:=.lst (vs ++ vs')) hw
  exact hz _ _ _ _ r2 s2 (iS (fL.of aG) (aq.mono s2 _ _ (r.append r'))) hf.2
 ·simp only [Den] at h1 h2
  obtain⟨p,vs,rfl,q,r⟩:=h1
  obtain⟨p',vs',rfl,q',r'⟩:=h2
  cases vs with
  | nil =>
   rename_i u w
   cases u with
   | cons _ _=>simp only [aq] at r;obtain⟨_,_,z,_⟩:=r;cases z
   | nil =>
    exact .inr (.inr (.inr (.inr ⟨p,p',vs',rfl,rfl,ar.cm rp.fh q,ar.cm rp.fh q',hz _ _ F _ rp (ar.refl _) (hG q' r') (by simpa using hf.2)⟩)))
  | cons v0 vr =>
   refine .inr (.inr (.inr (.inl ⟨p,p',v0 :: vr,vs',rfl,rfl,ar.cm rp.fh q,ar.cm rp.fh q',by simp,by rw [← r.length,← r'.length];exact hf.1,fun w=>?_,fun w z hw=>?_⟩)))
   ·subst w
    rename_i w
    have e:w=[]:=by
     cases w with
     | nil=>rfl
     | cons _ _=>simp only [aq] at r';obtain⟨_,_,z,_⟩:=r';cases z
    subst e
    exact hz _ _ F _ rp (ar.refl _) (hG q r) (by simpa using hf.2)
   ·obtain⟨r2,s2⟩:=rp.laid (o:=.tup (v0 :: vr ++ vs')) hw
    exact hz _ _ _ _ r2 s2 (hG (jv.of aG) (aq.mono s2 _ _ (r.append r'))) hf.2
 ·exact hf.elim
theorem bq (ha:QE X a ta) (hb:QE X b tb):QE X (.BinOp a .Add b pos) (aB bK ta tb):=y9 Ar Hu ha hb
def yc (C:Int→Int→Prop) (g:Int→Int→D) (x y:D) (Q:D→Prop):Prop:=match x,y with
 | .int i,.int j=>C i j∧Q (g i j)
 | _,_=>False
theorem zH {C:Int→Int→Prop} {g:Int→Int→Int}:sj X (rI C fun i j=>.int (g i j)) (yc C fun i j=>.int (g i j)):=by
 intro B σ F H env Q d d' x y Z rp h1 h2 hz hf
 unfold yc at hf
 split at hf
 ·simp only [Den] at h1 h2;subst h1 h2
  exact⟨_,_,rfl,rfl,hf.1,hz _ _ F _ rp (ar.refl _) bo hf.2⟩
 ·exact hf.elim
theorem Ib {g:Int→Int→Int}:sj X (BS fun i j=>.int (g i j)) (yc (fun _ _=>True) fun i j=>.int (g i j)):=by
 intro B σ F H env Q d d' x y Z rp h1 h2 hz hf
 unfold yc at hf
 split at hf
 ·simp only [Den] at h1 h2;subst h1 h2
  exact⟨_,_,rfl,rfl,hz _ _ F _ rp (ar.refl _) bo hf.2⟩
 ·exact hf.elim
theorem lJ {g:Int→Int→Bool}:sj X (BS fun i j=>.bl (g i j)) (yc (fun _ _=>True) fun i j=>.bl (g i j)):=by
 intro B σ F H env Q d d' x y Z rp h1 h2 hz hf
 unfold yc at hf
 split at hf
 ·simp only [Den] at h1 h2;subst h1 h2
  exact⟨_,_,rfl,rfl,hz _ _ F _ rp (ar.refl _) dj hf.2⟩
 ·exact hf.elim
theorem FN:iQ X (binaryOp .Mult) (rI IntMulOk fun i j=>.int (i * j)):=Kz fun _ _ _ _ _ _ _ hc q=>mul_int q hc
def zM (_ j:Int):Prop:=j≠0∧j.natAbs.log2 < 9000
theorem C8:iQ X (binaryOp .FloorDiv) (rI zM fun i j=>.int (i.fdiv j)):=Kz fun _ _ _ _ _ _ _ hc q=>floordiv_int hc.1 q (.inl (PyProof.noPylong_of_log2 hc.2))
def Bq (_ j:Int):Prop:=j≠0
abbrev fW:=yc (fun _ _=>True) fun i j=>.int (i - j)
abbrev gF:=yc IntMulOk fun i j=>.int (i * j)
abbrev zU:=yc zM fun i j=>.int (i.fdiv j)
abbrev pg:=yc Bq fun i j=>.int (i.fmod j)
abbrev CN:=yc Ia fun i j=>.int (i ^ j.toNat)
abbrev yb:=yc (fun _ _=>True) fun i j=>.bl (decide (i < j))
abbrev LR:=yc (fun _ _=>True) fun i j=>.bl (decide (i≤j))
abbrev Fd:=yc (fun _ _=>True) fun i j=>.bl (decide (j < i))
abbrev LZ:=yc (fun _ _=>True) fun i j=>.bl (decide (j≤i))
theorem dH (ha:QE X a ta) (hb:QE X b tb):QE X (.BinOp a .Sub b pos) (aB fW ta tb):=y9 IG Ib ha hb
theorem df (ha:QE X a ta) (hb:QE X b tb):QE X (.BinOp a .Mult b pos) (aB gF ta tb):=y9 FN zH ha hb
theorem ye (ha:QE X a ta) (hb:QE X b tb):QE X (.BinOp a .FloorDiv b pos) (aB zU ta tb):=y9 C8 zH ha hb
theorem jH (ha:QE X a ta) (hb:QE X b tb):QE X (.BinOp a .Mod b pos) (aB pg ta tb):=y9 (r:=rI Bq fun i j=>.int (i.fmod j)) E2 zH ha hb
theorem zL (ha:QE X a ta) (hb:QE X b tb):QE X (.BinOp a .Pow b pos) (aB CN ta tb):=y9 HJ zH ha hb
theorem J7 (ha:QE X a ta) (hb:QE X b tb):QE X (.Compare a [.Gt] [b] pos) (aB Fd ta tb):=CF Gp lJ ha hb (fT _)
theorem w8 (ha:QE X a ta) (hb:QE X b tb):QT X (.Compare a [.Lt] [b] pos) (aJ (aB yb ta tb)):=ie CW lJ ha hb (fT _)
theorem Lf (ha:QE X a ta) (hb:QE X b tb):QT X (.Compare a [.LtE] [b] pos) (aJ (aB LR ta tb)):=ie J4 lJ ha hb (fT _)
theorem CK (ha:QE X a ta) (hb:QE X b tb):QT X (.Compare a [.Gt] [b] pos) (aJ (aB Fd ta tb)):=ie Gp lJ ha hb (fT _)
theorem Ln (ha:QE X a ta) (hb:QE X b tb):QT X (.Compare a [.GtE] [b] pos) (aJ (aB LZ ta tb)):=ie JV lJ ha hb (fT _)
def Ml (X:Cx) (r:V→Hp→VK→Prop) (f:D→(D→Prop)→Prop):Prop:=∀(B:Base) (σ:St) (F H:Hp) (env:En) (Q:D→Prop) (d:D) (x:V) (Z:VK),Rep X.K B F H σ env→Den X.K F d x→Kont X B σ env F Q Z→f d Q→r x H Z
def qS (f:D→(D→Prop)→Prop) (ta:TD):TD:=fun env Q=>ta env fun x=>f x Q
theorem LJ {op:UnaryOp} {r:V→Hp→VK→Prop} {f:D→(D→Prop)→Prop} (ho:Ky X (unaryOp op) r) (hf:Ml X r f) (ha:QE X a ta):QE X (.UnaryOp op a pos) (qS f ta):=by
 refine⟨?_⟩
 intro B σ F H env Q rp h
 refine bN (JO ho bh) ?_
 refine aA (ha B σ F H env _ rp h) fun x H1 hq0=>?_
 obtain⟨F1,d,r1,s1,d1,q1⟩:=hq0
 exact hf B σ F1 H1 env Q d x _ r1 d1 (fun v H' F' d' r' s' hd q=>⟨F',d',r',s1.trans s',hd,q⟩) q1
def jD (x:D) (Q:D→Prop):Prop:=match x with
 | .int i=>Q (.int (-i))
 | _=>False
theorem gS (ha:QE X a ta):QE X (.UnaryOp .USub a pos) (qS jD ta):=by
 refine LJ HC ?_ ha
 intro B σ F H env Q d x Z rp h1 hz hf
 unfold jD at hf
 split at hf
 ·simp only [Den] at h1;subst h1
  exact⟨_,rfl,hz _ _ F _ rp (ar.refl _) bo hf⟩
 ·exact hf.elim
def E7 (X:Cx) (neg:Bool):R2:=fun x y H Q=>∃(F:Hp) (d d':D),ar F H∧Den X.K F d x∧Den X.K F d' y∧X.A.units + dep d < cLine∧dep d < 1000∧dep d' < 1000∧Q (.bl (if neg then !a6 d d' else a6 d d')) H
theorem CP:iQ X (compareOp .Eq) (E7 X false):=by
 intro pins s σ H x y v u Q I rx ry h
 obtain⟨F,d,d',fh,h1,h2,hu,hd,hd',q⟩:=h
 exact (Fq I fh d d' X.A x y v u hu hd hd' h1 h2 rx ry).1 X.prog X.w X.xe _ ⟨.bl _,H,I,rfl,q⟩
theorem yw:iQ X (compareOp .NotEq) (E7 X true):=by
 intro pins s σ H x y v u Q I rx ry h
 obtain⟨F,d,d',fh,h1,h2,hu,hd,hd',q⟩:=h
 exact (Fq I fh d d' X.A x y v u hu hd hd' h1 h2 rx ry).2 X.prog X.w X.xe _ ⟨.bl _,H,I,rfl,q⟩
def gA (x y:D):Prop:=dep x≤60∧dep y≤60
def gN (x y:D) (Q:D→Prop):Prop:=gA x y∧Q (.bl (a6 x y))
def lr (x y:D) (Q:D→Prop):Prop:=gA x y∧Q (.bl (!a6 x y))
theorem Gr (hu:X.A.units + 64 < cLine):sj X (E7 X false) gN:=by
 intro B σ F H env Q d d' x y Z rp h1 h2 hz hf
 obtain⟨⟨l1,l2⟩,q⟩:=hf
 exact⟨F,d,d',rp.fh,h1,h2,by omega,by omega,by omega,hz _ _ F _ rp (ar.refl _) dj q⟩
theorem FX (hu:X.A.units + 64 < cLine):sj X (E7 X true) lr:=by
 intro B σ F H env Q d d' x y Z rp h1 h2 hz hf
 obtain⟨⟨l1,l2⟩,q⟩:=hf
 exact⟨F,d,d',rp.fh,h1,h2,by omega,by omega,by omega,hz _ _ F _ rp (ar.refl _) dj q⟩
theorem AL (hu:X.A.units + 64 < cLine) (ha:QE X a ta) (hb:QE X b tb):QE X (.Compare a [.Eq] [b] pos) (aB gN ta tb):=CF CP (Gr hu) ha hb (fT _)
theorem K8 (hu:X.A.units + 64 < cLine) (ha:QE X a ta) (hb:QE X b tb):QE X (.Compare a [.NotEq] [b] pos) (aB lr ta tb):=CF yw (FX hu) ha hb (fT _)
theorem iq (hu:X.A.units + 64 < cLine) (ha:QE X a ta) (hb:QE X b tb):QT X (.Compare a [.Eq] [b] pos) (aJ (aB gN ta tb)):=ie CP (Gr hu) ha hb (fT _)
theorem pG (hu:X.A.units + 64 < cLine) (ha:QE X a ta) (hb:QE X b tb):QT X (.Compare a [.NotEq] [b] pos) (aJ (aB lr ta tb)):=ie yw (FX hu) ha hb (fT _)
def bP (x y:D) (Q:D→Prop):Prop:=match x,y with
 | .lst xs,.int i=>∃v,kU xs i=some v∧Q v
 | .tup xs,.int i=>∃v,kU xs i=some v∧Q v
 | .str z,.int i=>z.length≤sizeLine∧∃c,kU z.cps.toList i=some c∧Q (.str ⟨#[c]⟩)
 | _,_=>False
theorem aq.kU {K:PySem.W.Frag} {F:Hp} {ds:List D} {vs:List V} {i:Int} {d:D} (r:aq K F ds vs) (h:kU ds i=some d):∃v,L2.kU vs i=some v∧Den K F d v:=by
 unfold L2.kU at h ⊢
 rw [← r.length]
 cases e:uQ ds.length i with
 | none=>rw [e] at h;cases h
 | some j =>
  rw [e] at h
  exact r.get h
theorem FY:sj X (Lz X.K) bP:=by
 intro B σ F H env Q d d' x y Z rp h1 h2 hz hf
 unfold bP at hf
 split at hf
 ·simp only [Den] at h1 h2;subst h2
  obtain⟨p,vs,rfl,q,r⟩:=h1
  obtain⟨v,hv,qv⟩:=hf
  obtain⟨w,hw,dw⟩:=r.kU hv
  exact .inl ⟨p,vs,_,w,rfl,rfl,rp.fh.seq q,hw,hz _ _ F _ rp (ar.refl _) dw qv⟩
 ·simp only [Den] at h1 h2;subst h2
  obtain⟨p,vs,rfl,q,r⟩:=h1
  obtain⟨v,hv,qv⟩:=hf
  obtain⟨w,hw,dw⟩:=r.kU hv
  exact .inr (.inl ⟨p,vs,_,w,rfl,rfl,ar.cm rp.fh q,hw,hz _ _ F _ rp (ar.refl _) dw qv⟩)
 ·simp only [Den] at h1 h2;subst h1 h2
  obtain⟨hl,c,hc,qv⟩:=hf
  exact .inr (.inr ⟨_,_,c,rfl,rfl,hl,hc,hz _ _ F _ rp (ar.refl _) hW qv⟩)
 ·exact hf.elim
theorem bg (ha:QE X a ta) (hb:QE X b tb) (hs:mj b):QE X (.Subscript a b pos) (aB bP ta tb):=⟨fun B σ F H env Q rp h=>bN (zp B6 bh bh hs) (two FY ha hb rp Kh h)⟩
abbrev Ho:=En→(Option Int→Prop)→Prop
def fF:Ho:=fun _ Q=>Q none
def ju (t:TD):Ho:=fun env Q=>t env fun x=>∃i,x=.int i∧Q (some i)
def QO (X:Cx) (e:Option Expr) (t:Ho):Prop:=∃to:TO,PO X e to∧∀(B:Base) (σ:St) (F H:Hp) (env:En) (Q:Option Int→Prop) (Z:Option Int→Hp→Prop),Rep X.K B F H σ env→(∀o H' F',Rep X.K B F' H' σ env→ar F F'→Q o→Z o H')→t env Q→to σ H Z
theorem u4:QO X none fF:=⟨_,EN,fun B σ F H env Q Z rp hz h=>hz none H F rp (ar.refl _) h⟩
theorem mF (h:QE X e ta):QO X (some e) (ju ta):=by
 refine⟨_,FP bh,fun B σ F H env Q Z rp hz hq=>?_⟩
 refine aA (h B σ F H env _ rp hq) fun x H1 hq0=>?_
 obtain⟨F1,d,r1,s1,d1,i,hi,q1⟩:=hq0
 subst hi
 simp only [Den] at d1
 exact⟨i,d1,hz _ _ F1 r1 s1 q1⟩
def cutD (xs:List D) (lo hi:Option Int):List D:=(xs.drop (HT.eO xs.length 0 lo)).take (HT.eO xs.length xs.length hi - HT.eO xs.length 0 lo)
def Ll (x:D) (lo hi:Option Int) (Q:D→Prop):Prop:=match x with
 | .lst xs=>Q (.lst (cutD xs lo hi))
 | .tup xs=>¬ (HT.eO xs.length 0 lo=0∧HT.eO xs.length xs.length hi=xs.length)∧Q (.tup (cutD xs lo hi))
 | _=>False
def GH (ta:TD) (tl th:Ho):TD:=fun env Q=>ta env fun x=>tl env fun lo=>th env fun hi=>Ll x lo hi Q
theorem KQ {lo hi:Option Expr} {tl th:Ho} {p2:Pos} (ha:QE X a ta) (hl:QO X lo tl) (hh:QO X hi th):QE X (.Subscript a (.Slice lo hi none p2) pos) (GH ta tl th):=by
 refine⟨?_⟩
 intro B σ F H env Q rp h
 obtain⟨tl',pl,ql⟩:=hl
 obtain⟨th',ph,qh⟩:=hh
 refine bN (xp (Fv.or FG Jb) bh pl ph) ?_
 refine aA (ha B σ F H env _ rp h) fun x H1 hq0=>?_
 obtain⟨F1,d,r1,s1,d1,q1⟩:=hq0
 refine ql B σ F1 H1 env _ _ r1 (fun lo' H2 F2 r2 s2 q2=>?_) q1
 refine qh B σ F2 H2 env _ _ r2 (fun hi' H3 F3 r3 s3 q3=>?_) q2
 have d3:=Den.mono (s2.trans s3) _ _ d1
 unfold Ll at q3
 split at q3
 ·simp only [Den] at d3
  obtain⟨p,vs,rfl,q,r⟩:=d3
  refine .inl ⟨p,vs,rfl,r3.fh.seq q,fun w hw=>?_⟩
  obtain⟨r4,s4⟩:=r3.laid (o:=.lst (rK vs lo' hi')) hw
  refine⟨_,_,r4,((s1.trans s2).trans s3).trans s4,iS (fL.of aG) ?_,q3⟩
  unfold rK cutD
  rw [r.length]
  exact aq.mono s4 _ _ ((r.drop _).take _)
 ·simp only [Den] at d3
  obtain⟨p,vs,rfl,q,r⟩:=d3
  refine .inr ⟨p,vs,rfl,ar.cm r3.fh q,by rw [← r.length];exact q3.1,fun w hw=>?_⟩
  obtain⟨r4,s4⟩:=r3.laid (o:=.tup (rK vs lo' hi')) hw
  refine⟨_,_,r4,((s1.trans s2).trans s3).trans s4,hG (jv.of aG) ?_,q3.2⟩
  unfold rK cutD
  rw [r.length]
  exact aq.mono s4 _ _ ((r.drop _).take _)
 ·exact q3.elim
def Call3 (X:Cx) (r:List V→Hp→VK→Prop) (f:List D→(D→Prop)→Prop):Prop:=∀(B:Base) (σ:St) (F H:Hp) (env:En) (Q:D→Prop) (ds:List D) (vs:List V) (Z:VK),Rep X.K B F H σ env→aq X.K F ds vs→Kont X B σ env F Q Z→f ds Q→r vs H Z
def aw (f:List D→(D→Prop)→Prop) (ts:eQ):TD:=fun env Q=>ts env fun xs=>f xs Q
theorem GB {r:List V→Hp→VK→Prop} {f:List D→(D→Prop)→Prop} (hf:Call3 X r f) (ha:QA X es ts) {B:Base} {σ:St} {F H:Hp} {env:En} {Q:D→Prop} (rp:Rep X.K B F H σ env) (h:aw f ts env Q):KD r (wA X es) σ H (RV X B σ env F Q):=by
 refine cy (ha B σ F H env _ rp h) fun vs H1 hq0=>?_
 obtain⟨F1,ds,r1,s1,d1,q1⟩:=hq0
 exact hf B σ F1 H1 env Q ds vs _ r1 d1 (fun v H' F' d' r' s' hd q=>⟨F',d',r',s1.trans s',hd,q⟩) q1
theorem gY {id:String} {r:List V→Hp→VK→Prop} {f:List D→(D→Prop)→Prop} {x:Str} {p:Pos} (hc:dB X (.builtin id) r) (hf:Call3 X r f) (hg:Gl X x) (hm:X.mg x=none) (hv:bootBuiltins x=some (.builtin id)) (ha:QA X (e :: es) ts)
  (hn:x≠"__name__":=by decide) (hdb:(x == ("__debug__" : Str))=false:=by decide) (he:starEach (e :: es) X.env=(false,eval e X.env) :: starEach es X.env:=by exact aT rfl) (hpl:(backTo pos (starEach es X.env)).any (·.1)=false:=by rfl) :
  QE X (.Call (.Name x p) (e :: es) [] pos) (aw f ts):=⟨fun B σ F H env Q rp h=>bN (xh hc hg hm hv jF hn hdb he hpl) (GB hf ha rp h)⟩
theorem xy {T:String} {r:List V→Hp→VK→Prop} {f:List D→(D→Prop)→Prop} {x:Str} {p:Pos} (hc:dB X (.type T) r) (hf:Call3 X r f) (hg:Gl X x) (hm:X.mg x=none) (hv:bootBuiltins x=some (.type T)) (ha:QA X (e :: es) ts)
  (hn:x≠"__name__":=by decide) (hdb:(x == ("__debug__" : Str))=false:=by decide) (he:starEach (e :: es) X.env=(false,eval e X.env) :: starEach es X.env:=by exact aT rfl) (hpl:(backTo pos (starEach es X.env)).any (·.1)=false:=by rfl) :
  QE X (.Call (.Name x p) (e :: es) [] pos) (aw f ts):=⟨fun B σ F H env Q rp h=>bN (nJ hc hg hm hv jF hn hdb he hpl) (GB hf ha rp h)⟩
end
end L2.L3
namespace L2.L3
open PySem PySem.Spec PyProof.Rows
theorem Bc:bootBuiltins "abs" = some (.builtin "abs"):=by decide +kernel
theorem Au:bootBuiltins "all" = some (.builtin "all"):=by decide +kernel
theorem sZ:bootBuiltins "max" = some (.builtin "max"):=by decide +kernel
theorem AD:bootBuiltins "min" = some (.builtin "min"):=by decide +kernel
theorem sY:bootBuiltins "isinstance" = some (.builtin "isinstance"):=by decide +kernel
theorem tW:bootBuiltins "len" = some (.builtin "len"):=by decide +kernel
theorem sA:bootBuiltins "int" = some (.type "int"):=by decide +kernel
theorem zj:bootBuiltins "bool" = some (.type "bool"):=by decide +kernel
theorem qr:bootBuiltins "list" = some (.type "list"):=by decide +kernel
theorem jX:bootBuiltins "tuple" = some (.type "tuple"):=by decide +kernel
section
variable {X:Cx} {a b c e:Expr} {es:List Expr} {ta tb tc:TD} {tA tB':TB} {ts:eQ} {pos:Pos} {rest:List Expr}
def pE (ds:List D) (Q:D→Prop):Prop:=match ds with
 | [.int i]=>Q (.int (if i < 0 then -i else i))
 | _=>False
theorem GN:Call3 X (fun xs H Q=>∃i,xs=[.int i]∧Q (.int (if i < 0 then -i else i)) H) pE:=by
 intro B σ F H env Q ds vs Z rp h hz hf
 unfold pE at hf
 split at hf
 ·simp only [aq,Den] at h
  obtain⟨v,r,rfl,rfl,rfl⟩:=h
  exact⟨_,rfl,hz _ _ F _ rp (ar.refl _) bo hf⟩
 ·exact hf.elim
def gH (ds:List D) (Q:D→Prop):Prop:=match ds with
 | [.lst xs]=>Q (.int xs.length)
 | [.tup xs]=>Q (.int xs.length)
 | [.str z]=>z.length≤sizeLine∧Q (.int z.length)
 | _=>False
theorem Hm:Call3 X (fun xs H Q=>(∃p ys,xs=[.ref p]∧(fL X.K H p ys∨jv X.K H p ys)∧Q (.int ys.length) H)∨∃z,xs=[.str z]∧z.length≤sizeLine∧Q (.int z.length) H) gH:=by
 intro B σ F H env Q ds vs Z rp h hz hf
 unfold gH at hf
 split at hf
 ·simp only [aq,Den] at h
  obtain⟨v,r,rfl,⟨p,ys,rfl,q,r⟩,rfl⟩:=h
  refine .inl ⟨p,ys,rfl,.inl (rp.fh.seq q),hz _ _ F _ rp (ar.refl _) bo ?_⟩
  rw [← r.length];exact hf
 ·simp only [aq,Den] at h
  obtain⟨v,r,rfl,⟨p,ys,rfl,q,r⟩,rfl⟩:=h
  refine .inl ⟨p,ys,rfl,.inr (ar.cm rp.fh q),hz _ _ F _ rp (ar.refl _) bo ?_⟩
  rw [← r.length];exact hf
 ·simp only [aq,Den] at h
  obtain⟨v,r,rfl,rfl,rfl⟩:=h
  exact .inr ⟨_,rfl,hf.1,hz _ _ F _ rp (ar.refl _) bo hf.2⟩
 ·exact hf.elim
def Bv (ds:List D) (Q:D→Prop):Prop:=match ds with
 | [.int i,.int j]=>Q (.int (if j > i then j else i))
 | _=>False
def DU (ds:List D) (Q:D→Prop):Prop:=match ds with
 | [.int i,.int j]=>Q (.int (if j < i then j else i))
 | _=>False
theorem IE:Call3 X (fun xs H Q=>∃i j,xs=[.int i,.int j]∧Q (.int (if j > i then j else i)) H) Bv:=by
 intro B σ F H env Q ds vs Z rp h hz hf
 unfold Bv at hf
 split at hf
 ·simp only [aq,Den] at h
  obtain⟨v,r,rfl,rfl,v',r',rfl,rfl,rfl⟩:=h
  exact⟨_,_,rfl,hz _ _ F _ rp (ar.refl _) bo hf⟩
 ·exact hf.elim
theorem IT:Call3 X (fun xs H Q=>∃i j,xs=[.int i,.int j]∧Q (.int (if j < i then j else i)) H) DU:=by
 intro B σ F H env Q ds vs Z rp h hz hf
 unfold DU at hf
 split at hf
 ·simp only [aq,Den] at h
  obtain⟨v,r,rfl,rfl,v',r',rfl,rfl,rfl⟩:=h
  exact⟨_,_,rfl,hz _ _ F _ rp (ar.refl _) bo hf⟩
 ·exact hf.elim
def qY (ds:List D) (Q:D→Prop):Prop:=match ds with
 | [.int i]=>Q (.int i)
 | [.bl k]=>Q (.int (if k then 1 else 0))
 | _=>False
theorem IJ:Call3 X (fun xs H Q=>(∃i,xs=[.int i]∧Q (.int i) H)∨∃k,xs=[.bl k]∧Q (.int (if k then 1 else 0)) H) qY:=by
 intro B σ F H env Q ds vs Z rp h hz hf
 unfold qY at hf
 split at hf
 ·simp only [aq,Den] at h
  obtain⟨v,r,rfl,rfl,rfl⟩:=h
  exact .inl ⟨_,rfl,hz _ _ F _ rp (ar.refl _) bo hf⟩
 ·simp only [aq,Den] at h
  obtain⟨v,r,rfl,rfl,rfl⟩:=h
  exact .inr ⟨_,rfl,hz _ _ F _ rp (ar.refl _) bo hf⟩
 ·exact hf.elim
def f7 (ds:List D) (Q:D→Prop):Prop:=match ds with
 | [.lst xs]=>Q (.tup xs)
 | [.tup xs]=>Q (.tup xs)
 | _=>False
theorem DB:Call3 X (fun xs H Q=>∃p ys,xs=[.ref p]∧((fL X.K H p ys∧∀l,H l=none→Q (.ref l) (upd H l (.tup ys)))∨(jv X.K H p ys∧Q (.ref p) H))) f7:=by
 intro B σ F H env Q ds vs Z rp h hz hf
 unfold f7 at hf
 split at hf
 ·simp only [aq,Den] at h
  obtain⟨v,r,rfl,⟨p,ys,rfl,q,r⟩,rfl⟩:=h
  refine⟨p,ys,rfl,.inl ⟨rp.fh.seq q,fun w hw=>?_⟩⟩
  obtain⟨r2,s2⟩:=rp.laid (o:=.tup ys) hw
  exact hz _ _ _ _ r2 s2 (hG (jv.of aG) (aq.mono s2 _ _ r)) hf
 ·simp only [aq,Den] at h
  obtain⟨v,r,rfl,⟨p,ys,rfl,q,r⟩,rfl⟩:=h
  exact⟨p,ys,rfl,.inr ⟨ar.cm rp.fh q,hz _ _ F _ rp (ar.refl _) (hG q r) hf⟩⟩
 ·exact hf.elim
def LQ (K:PySem.W.Frag) (H:Hp) (x:V) (t:String):Prop:=match x with
 | .non=>t = "NoneType"
 | .bl _=>t = "bool"
 | .int _=>t = "int"
 | .str _=>t = "str"
 | .ref a=>(t = "tuple"∧∃vs,jv K H a vs)∨(t = "list"∧∃vs,fL K H a vs)
 | _=>False
theorem Dr:dB X (.builtin "isinstance") (fun xs H Q=>∃x n t b,xs=[x,.ty n]∧LQ X.K H x t∧PySem.W.kitOne X.K (.type t) (.type n)=some b∧Q (.bl b) H):=by
 intro pins s σ H xs us Q I r h
 obtain⟨x,n,t,b,rfl,ty,e,q⟩:=h
 obtain⟨u,w,rfl,rx,rw'⟩:=vals2 r
 cases (show w=Value.type n from rw')
 have fin:∀tk,EP X pins σ Q (.bool b) { s with toks:=tk }:=fun tk=>⟨.bl b,H,I.tok tk,rfl,q⟩
 cases x with
 | non=>cases (show t = "NoneType" from ty);cases (show u=Value.none from rx);exact PySem.W.kia_one PySem.W.kitx_none I.tD True.intro e (fun z=>nomatch z) fin
 | bl y=>cases (show t = "bool" from ty);cases (show u=Value.bool y from rx);exact PySem.W.kia_one PySem.W.kitx_bool I.tD True.intro e (fun z=>nomatch z) fin
 | int i=>cases (show t = "int" from ty);obtain⟨t,q⟩:=(show ∃t,u=Value.int i t from rx);cases q;exact PySem.W.kia_one PySem.W.kitx_int I.tD True.intro e (fun z=>nomatch z) fin
 | str i=>cases (show t = "str" from ty);obtain⟨t,q⟩:=(show ∃t,u=Value.str i t from rx);cases q;exact PySem.W.kia_one PySem.W.kitx_str I.tD True.intro e (fun z=>nomatch z) fin
 | ref a =>
  cases (show u=Value.ref a from rx)
  rcases ty with ⟨rfl,vs,hq⟩ | ⟨rfl,vs,hq⟩
  ·obtain⟨_,_,⟨o,h1,h2,_⟩,_⟩:=I.tuple hq
   exact PySem.W.kia_one PySem.W.kitx_tuple I.tD ⟨o,h1,h2⟩ e (fun z=>nomatch z) fin
  ·obtain⟨_,_,⟨o,n,h1,h2,_⟩,_⟩:=I.list hq
   exact PySem.W.kia_one PySem.W.kitx_list I.tD ⟨o,h1,h2⟩ e (fun z=>nomatch z) fin
 | _=>exact False.elim ty
inductive Kd where | non | bl | int | str | tup | lst | oth
def Jd:D→Kd
 | .non=>.non
 | .bl _=>.bl
 | .int _=>.int
 | .str _=>.str
 | .tup _=>.tup
 | .lst _=>.lst
 | _=>.oth
def E5:Kd→String→Option Bool
 | .oth,_=>none
 | k,"int"=>some (match k with | .int=>true | .bl=>true | _=>false)
 | k,"bool"=>some (match k with | .bl=>true | _=>false)
 | k,"str"=>some (match k with | .str=>true | _=>false)
 | k,"tuple"=>some (match k with | .tup=>true | _=>false)
 | k,"list"=>some (match k with | .lst=>true | _=>false)
 | _,_=>none
def Kb (ds:List D) (Q:D→Prop):Prop:=match ds with
 | [x,.ty n]=>∃b,E5 (Jd x) n=some b∧Q (.bl b)
 | _=>False
theorem kK (K:PySem.W.Frag) (k:Kd) (n t:String) (b:Bool) (h:E5 k n=some b)
  (ht:t=match k with | .non=>"NoneType" | .bl=>"bool" | .int=>"int" | .str=>"str" | .tup=>"tuple" | .lst=>"list" | .oth=>"type"):PySem.W.kitOne K (.type t) (.type n)=some b:=by
 subst ht
 unfold E5 at h
 split at h
 ·cases h
 all_goals (cases k <;> simp at h <;> subst h <;> rfl)
theorem IP:Call3 X (fun xs H Q=>∃x n t b,xs=[x,.ty n]∧LQ X.K H x t∧PySem.W.kitOne X.K (.type t) (.type n)=some b∧Q (.bl b) H) Kb:=by
 intro B σ F H env Q ds vs Z rp h hz hf
 unfold Kb at hf
 split at hf
 ·rename_i x n
  obtain⟨b,hb,q⟩:=hf
  simp only [aq] at h
  obtain⟨v,r,rfl,hd,v',r',rfl,hd',rfl⟩:=h
  simp only [Den] at hd'
  subst hd'
  have fin:=hz (.bl b) H F (.bl b) rp (ar.refl _) dj q
  cases x with
  | non=>simp only [Den] at hd;subst hd;exact⟨_,n,"NoneType",b,rfl,rfl,kK _ _ _ _ _ hb rfl,fin⟩
  | bl k=>simp only [Den] at hd;subst hd;exact⟨_,n,"bool",b,rfl,rfl,kK _ _ _ _ _ hb rfl,fin⟩
  | int k=>simp only [Den] at hd;subst hd;exact⟨_,n,"int",b,rfl,rfl,kK _ _ _ _ _ hb rfl,fin⟩
  | str k=>simp only [Den] at hd;subst hd;exact⟨_,n,"str",b,rfl,rfl,kK _ _ _ _ _ hb rfl,fin⟩
  | tup k=>simp only [Den] at hd;obtain⟨p,vs,rfl,q',r⟩:=hd;exact⟨_,n,"tuple",b,rfl,.inl ⟨rfl,vs,ar.cm rp.fh q'⟩,kK _ _ _ _ _ hb rfl,fin⟩
  | lst k=>simp only [Den] at hd;obtain⟨p,vs,rfl,q',r⟩:=hd;exact⟨_,n,"list",b,rfl,.inr ⟨rfl,vs,rp.fh.seq q'⟩,kK _ _ _ _ _ hb rfl,fin⟩
  | dct k _=>cases hb
  | obj k=>cases hb
  | ty k=>cases hb
  | exc k=>cases hb
  | cls k=>cases hb
 ·exact hf.elim
theorem oK:∀{bs:List Bool} {us:List Value},Vals (bs.map V.bl) us→LSm.BoolsAre us bs
 | [],_,r=>by rw [List.map_nil] at r;cases r;exact .nil
 | b :: bs,_,r=>by
  rw [MQ] at r
  cases r with
  | cons h t=>cases (show _=Value.bool b from h);exact .cons b (oK t)
theorem qB {s:Shared} {h':Heap} {o:Obj} (hk:∀b x,b∉[s.heap.objs.size]→(s.heap.push o).get? b=some x→h'.get? b=some x):∀b x,s.heap.get? b=some x→h'.get? b=some x :=
 fun b x e=>hk b x (fun hm=>by rw [MK.mp hm] at e;exact Nat.lt_irrefl _ (MI e)) (Mz _ e)
theorem Eb (hc:X.calm=true):dB X (.builtin "all") (fun xs H Q=>∃(p:Addr) (bs:List Bool),xs=[.ref p]∧fL X.K H p (bs.map V.bl)∧Q (.bl (bs.all id)) H):=by
 intro pins s σ H xs us Q I r h
 obtain⟨p,bs,rfl,hq,q⟩:=h
 obtain⟨u,rfl,rx⟩:=vals1 r
 cases rx
 obtain⟨its,r',pl,hz⟩:=I.list hq
 have hb:=oK r'
 have hl:=pl.isList
 have hlt:p < s.heap.objs.size:=by obtain⟨_,e,_⟩:=hl;exact MI e
 refine call_all_walk (wpAny_pyIter_list hl ?_)
 refine⟨s.heap.objs.size,[s.heap.objs.size,p],[s.heap.objs.size],its.toArray.size,_,_,fun i=>(bs[i]?).getD true,rfl,Walks.list (A:=X.A.in1) (I.ok.hd hc) _ p (MR hlt) its.toArray,
  ⟨⟨_,MM _ rfl,rfl,rfl⟩,hl.push _⟩,fun i v s' Q' E' hP hQ=>?_,fun h' tk hk=>?_⟩
 ·obtain⟨b,e,rfl⟩:=hb.get i v (by simpa using hP)
  simp only [e,Option.getD_some] at hQ
  exact wpAny_truthy_bool hQ
 ·have e:((List.range its.toArray.size).all fun i=>(bs[i]?).getD true)=bs.all id:=by
   rw [MG,hb.length];exact LSm.range_all bs
  rw [e]
  exact⟨.bl _,H,I.kept (t':=tk) (qB hk),rfl,q⟩
def boolsOf:List D→Option (List Bool)
 | []=>some []
 | .bl b :: r=>(boolsOf r).map (b :: ·)
 | _=>none
theorem wB (bs:List Bool):boolsOf (bs.map D.bl)=some bs:=by
 induction bs with
 | nil=>rfl
 | cons b r ih=>simp [boolsOf,ih]
theorem oB {K:PySem.W.Frag} {F:Hp}:∀{ds:List D} {bs:List Bool} {vs:List V},boolsOf ds=some bs→aq K F ds vs→vs=bs.map V.bl
 | [],bs,vs,h,r=>by simp only [boolsOf] at h;cases h;simp only [aq] at r;subst r;rfl
 | .bl b :: ds,bs,vs,h,r=>by
  simp only [boolsOf] at h
  cases e:boolsOf ds with
  | none=>rw [e] at h;cases h
  | some bs' =>
   rw [e] at h
   cases h
   simp only [aq,Den] at r
   obtain⟨v,r',rfl,rfl,r⟩:=r
   rw [oB e r];rfl
 | .non :: _,_,_,h,_=>by cases h
 | .int _ :: _,_,_,h,_=>by cases h
 | .str _ :: _,_,_,h,_=>by cases h
 | .tup _ :: _,_,_,h,_=>by cases h
 | .lst _ :: _,_,_,h,_=>by cases h
 | .dct _ _ :: _,_,_,h,_=>by cases h
 | .obj _ :: _,_,_,h,_=>by cases h
 | .ty _ :: _,_,_,h,_=>by cases h
 | .exc _ :: _,_,_,h,_=>by cases h
 | .cls _ :: _,_,_,h,_=>by cases h
def FJ (ds:List D) (Q:D→Prop):Prop:=match ds with
 | [.lst xs]=>∃bs,boolsOf xs=some bs∧Q (.bl (bs.all id))
 | _=>False
theorem HW:Call3 X (fun xs H Q=>∃(p:Addr) (bs:List Bool),xs=[.ref p]∧fL X.K H p (bs.map V.bl)∧Q (.bl (bs.all id)) H) FJ:=by
 intro B σ F H env Q ds vs Z rp h hz hf
 unfold FJ at hf
 split at hf
 ·obtain⟨bs,hb,q⟩:=hf
  simp only [aq,Den] at h
  obtain⟨v,r,rfl,⟨p,ys,rfl,q',r⟩,rfl⟩:=h
  have:=oB hb r
  subst this
  exact⟨p,bs,rfl,rp.fh.seq q',hz _ _ F _ rp (ar.refl _) dj q⟩
 ·exact hf.elim
end
end L2.L3
namespace L2.L3
open PySem PySem.Spec PyProof.Rows
section
variable {K:PySem.W.Frag} {B:Base} {F H:Hp} {σ:St} {env:En}
theorem Rep.bare (r:Rep K B F H σ env):Rep K B F H [] [] :=
 ⟨r.f0,r.fh,r.h0,r.nf,fun i x q=>by simp at q,fun i x q=>by simp at q,fun i j _ _ _ _ q=>by simp at q,fun i x q=>by simp at q,fun i j _ _ _ _ q=>by simp at q⟩
end
section
variable {X:Cx} {a b c e:Expr} {es:List Expr} {ta tb tc:TD} {tA tB':TB} {ts:eQ} {pos:Pos} {rest:List Expr} {st:Stmt} {sts:List Stmt} {t u:bB}
def a8:bB:=fun D env=>D.nx env
def aE (t u:bB):bB:=fun D env=>t { D with nx:=u D } env
theorem aS:oF X [] a8:=⟨fun B σ F H env D rp h=>n6 Fc ⟨F,env,rp,h⟩⟩
theorem ao (h1:QS X st t):oF X [st] t:=⟨fun B σ F H env D rp h=>n6 (uq B4) (h1 B σ F H env D rp h)⟩
theorem ah (h1:QS X st t) (h2:oF X sts u):oF X (st :: sts) (aE t u):=by
 refine⟨?_⟩
 intro B σ F H env D rp h
 refine n6 (xE B4 eT) ?_
 exact zR (h1 B σ F H env _ rp h) (fun σ' H' ⟨F',env',rp',q⟩=>h2 B σ' F' H' env' D rp' q) (fun _ _ q=>q) (fun _ _ q=>q) (fun _ _ q=>q)
def j6:bB:=fun D env=>D.bk env
theorem C0:QS X (.Break pos) j6:=⟨fun B σ F H env D rp h=>dG DV ⟨F,env,rp,h⟩⟩
def bb (te:TD):bB:=fun D env=>te env D.rt
theorem aN (he:QE X e ta):QS X (.Return (some e) pos) (bb ta):=by
 refine⟨?_⟩
 intro B σ F H env D rp h
 refine dG (u9 bh) ?_
 exact aA (he B σ F H env _ rp h) fun v H' ⟨F',d,r',s',hd,q⟩=>⟨F',d,r'.bare,hd,q⟩
def eR (c:TB) (t u:bB):bB:=fun D env=>c env fun k=>if k=true then t D env else u D env
theorem bc {xs ys:List Stmt} (hc:QT X c tA) (ha:oF X xs t) (hb:oF X ys u):QS X (.If c xs ys pos) (eR tA t u):=by
 refine⟨?_⟩
 intro B σ F H env D rp h
 refine dG (GJ sg eT eT) ?_
 refine gV (hc B σ F H env _ rp h) fun k H1 ⟨F1,r1,s1,q1⟩=>?_
 cases k with
 | true=>exact ha B σ F1 H1 env D r1 q1
 | false=>exact hb B σ F1 H1 env D r1 q1
def iU:bB:=fun _ _=>False
theorem vW:QS X st iU:=⟨fun _ _ _ _ _ _ _ h=>h.elim⟩
abbrev rJ:=D→En→(En→Prop)→Prop
abbrev vi:=List D→En→(En→Prop)→Prop
def wG (X:Cx) (tg:Expr):TG:=fun v σ H Q=>∀(pins:List (Addr×Obj)) (s:Shared) (u:Value),Inv X pins σ H s→RelV v u →
 wpAny (model X.prog X.w) X.A (assign tg X.env u) (fun _ s'=>∃σ' H',Inv X pins σ' H' s'∧Q σ' H') X.xe s
def Jh (X:Cx) (tg:List Expr):E3:=fun vs σ H Q=>∀(pins:List (Addr×Obj)) (s:Shared) (us:List Value),Inv X pins σ H s→Vals vs us →
 wpAny (model X.prog X.w) X.A (assignInOrder ((assignEach tg X.env).map (·.2)) us) (fun _ s'=>∃σ' H',Inv X pins σ' H' s'∧Q σ' H') X.xe s
theorem yo {tg:Expr}:PG X tg (wG X tg):=fun pins s σ H v u Q I r h=>h pins s u I r
theorem Gk {tg:List Expr}:Jj X tg (Jh X tg):=fun pins s σ H v u Q I r h=>h pins s u I r
theorem J6 {tg:Expr} {g:TG} {v:V} {σ:St} {H:Hp} {Q:St→Hp→Prop} (h:PG X tg g) (q:g v σ H Q):wG X tg v σ H Q:=fun pins s u I r=>h pins s σ H v u Q I r q
theorem BH {tg:List Expr} {g:E3} {v:List V} {σ:St} {H:Hp} {Q:St→Hp→Prop} (h:Jj X tg g) (q:g v σ H Q):Jh X tg v σ H Q:=fun pins s u I r=>h pins s σ H v u Q I r q
theorem gT {tg:Expr} {v:V} {σ:St} {H:Hp} {Q Q':St→Hp→Prop} (h:wG X tg v σ H Q) (i:∀σ H,Q σ H→Q' σ H):wG X tg v σ H Q':=fun pins s u I r=>bH (h pins s u I r) fun _ _ ⟨σ',H',I',q⟩=>⟨σ',H',I',i _ _ q⟩
theorem Ck {tg:List Expr} {v:List V} {σ:St} {H:Hp} {Q Q':St→Hp→Prop} (h:Jh X tg v σ H Q) (i:∀σ H,Q σ H→Q' σ H):Jh X tg v σ H Q':=fun pins s u I r=>bH (h pins s u I r) fun _ _ ⟨σ',H',I',q⟩=>⟨σ',H',I',i _ _ q⟩
def RG (X:Cx) (B:Base) (F:Hp) (Q:En→Prop):St→Hp→Prop:=fun σ' H'=>∃F' env',Rep X.K B F' H' σ' env'∧ar F F'∧Q env'
structure QG (X:Cx) (tg:Expr) (g:rJ):Prop where
 of ::
 run:∀(B:Base) (σ:St) (F H:Hp) (env:En) (Q:En→Prop) (d:D) (v:V),Rep X.K B F H σ env→Den X.K F d v→g d env Q→wG X tg v σ H (RG X B F Q)
instance {X:Cx} {tg:Expr} {g:rJ}:CoeFun (QG X tg g) (fun _=>∀(B:Base) (σ:St) (F H:Hp) (env:En) (Q:En→Prop) (d:D) (v:V),Rep X.K B F H σ env→Den X.K F d v→g d env Q→wG X tg v σ H (RG X B F Q)):=⟨QG.run⟩
structure Jg (X:Cx) (tg:List Expr) (g:vi):Prop where
 of ::
 run:∀(B:Base) (σ:St) (F H:Hp) (env:En) (Q:En→Prop) (ds:List D) (vs:List V),Rep X.K B F H σ env→aq X.K F ds vs→g ds env Q→Jh X tg vs σ H (RG X B F Q)
instance {X:Cx} {tg:List Expr} {g:vi}:CoeFun (Jg X tg g) (fun _=>∀(B:Base) (σ:St) (F H:Hp) (env:En) (Q:En→Prop) (ds:List D) (vs:List V),Rep X.K B F H σ env→aq X.K F ds vs→g ds env Q→Jh X tg vs σ H (RG X B F Q)):=⟨Jg.run⟩
def aR (i:Nat):rJ:=fun x env Q=>Q (env.set i (some (.d x)))
theorem aD {x:Str} (i:Nat) (hN:X.N.Nodup) (hi:X.N[i]?=some x:=by rfl) (hx:Loc X.env.scope x:=by first | exact Or.inl rfl | exact Or.inr rfl) (hf:X.fn x=true∨X.env.scope.names.lookup x=some .local:=by first | exact .inl rfl | exact .inr rfl):QG X (.Name x pos) (aR i):=by
 refine⟨?_⟩
 intro B σ F H env Q d v rp hd h pins s u I r
 refine EL (i:=i) hN hi hx hf pins s σ H v u _ I r ?_
 refine⟨F,_,rp.set hd ?_,ar.refl _,h⟩
 rw [I.len];exact (Mo.mp hi).1
def h7:vi:=fun xs env Q=>xs=[]∧Q env
def ba (g:rJ) (gs:vi):vi:=fun xs env Q=>∃x r,xs=x :: r∧g x env fun env'=>gs r env' Q
theorem c4:Jg X [] h7:=by
 refine⟨?_⟩
 intro B σ F H env Q ds vs rp hd h
 obtain⟨rfl,q⟩:=h
 simp only [aq] at hd
 exact BH EV ⟨hd,F,env,rp,ar.refl _,q⟩
theorem aL {g:rJ} {gs:vi} (h1:QG X e g) (h2:Jg X es gs) (hs:(assignEach (e :: es) X.env).map (·.2)=assign e X.env :: (assignEach es X.env).map (·.2):=by rfl):Jg X (e :: es) (ba g gs):=by
 refine⟨?_⟩
 intro B σ F H env Q ds vs rp hd h
 obtain⟨x,r,rfl,q⟩:=h
 simp only [aq] at hd
 obtain⟨v,vr,rfl,a1,b1⟩:=hd
 refine BH (Cb yo Gk hs) ⟨v,vr,rfl,?_⟩
 refine gT (h1 B σ F H env _ x v rp a1 q) fun σ1 H1 hq0=>?_
 obtain⟨F1,env1,r1,s1,q1⟩:=hq0
 exact Ck (h2 B σ1 F1 H1 env1 Q r vr r1 (aq.mono s1 _ _ b1) q1) fun σ2 H2 ⟨F2,env2,r2,s2,q2⟩=>⟨F2,env2,r2,s1.trans s2,q2⟩
def iw (n:Nat) (gs:vi):rJ:=fun x env Q=>∃xs,x=.tup xs∧xs.length=n∧gs xs env Q
theorem fc {k n:Nat} {gs:vi} (hc:X.calm=true) (h:Jg X es gs) (hn:(assignEach es X.env).length=n:=by rfl) (hst:(assignEach es X.env).findIdx? (·.1)=none:=by rfl):QG X (.Tuple es k pos) (iw n gs):=by
 refine⟨?_⟩
 intro B σ F H env Q d v rp hd hq
 obtain⟨xs,rfl,hl,q⟩:=hq
 simp only [Den] at hd
 obtain⟨p,vs,rfl,hs,r⟩:=hd
 refine J6 (GR hc Gk hn hst) ⟨p,vs,rfl,ar.cm rp.fh hs,by rw [← r.length];exact hl,?_⟩
 exact h B σ F H env Q xs vs rp r q
def kT (te:TD) (g:rJ):bB:=fun D env=>te env fun x=>g x env D.nx
theorem iT {tg:Expr} {g:rJ} (he:QE X e ta) (hg:QG X tg g) (hs:swapsWithSole [tg] e pos.line X.env=pure false:=by rfl) (hw:swappedStores [tg] e X.env=pure none:=by rfl)
  (h1:(assignEach [tg] X.env).map (·.2)=[assign tg X.env]:=by rfl):QS X (.Assign [tg] e pos) (kT ta g):=by
 refine⟨?_⟩
 intro B σ F H env D rp h
 refine dG (zh bh yo hs hw h1) ?_
 refine aA (he B σ F H env _ rp h) fun v H1 hq0=>?_
 obtain⟨F1,d,r1,s1,d1,q1⟩:=hq0
 exact gT (hg B σ F1 H1 env _ d v r1 d1 q1) fun σ2 H2 ⟨F2,env2,r2,s2,q2⟩=>⟨F2,env2,r2,q2⟩
def aV (i:Nat) (te:TD):bB:=fun D env=>te env fun x=>D.nx (env.set i (some (.d x)))
theorem aI {x:Str} {pos':Pos} (i:Nat) (hN:X.N.Nodup) (he:QE X e ta) (hi:X.N[i]?=some x:=by rfl) (hx:Loc X.env.scope x:=by first | exact Or.inl rfl | exact Or.inr rfl) (hs:swapsWith e (some (.Name x pos')) pos.line X.env=pure false:=by rfl)
  (hf:X.fn x=true∨X.env.scope.names.lookup x=some .local:=by first | exact .inl rfl | exact .inr rfl):QS X (.Assign [.Name x pos'] e pos) (aV i ta):=by
 refine⟨?_⟩
 intro B σ F H env D rp h pins s I
 refine oq (i:=i) hN hi hx bh hs hf pins s σ H _ I ?_
 refine aA (he B σ F H env _ rp h) fun v H1 ⟨F1,d,r1,s1,d1,q1⟩=>⟨F1,_,r1.set d1 ?_,q1⟩
 rw [I.len];exact (Mo.mp hi).1
def gC (c:TB) (tb:bB):bB:=fun D env=>∃(I:En→Prop) (μ:En→Nat),I env∧∀env,I env→c env fun k=>if k=true then tb { D with nx:=fun e'=>I e'∧μ e' < μ env,ct:=fun e'=>I e'∧μ e' < μ env,bk:=D.nx } env else D.nx env
theorem jW {body:List Stmt} (hp:PassesOwn (model X.prog X.w) X.A X.env X.xe) (hc:QT X c tA) (hb:oF X body t):QS X (.While c body [] pos) (gC tA t):=by
 refine⟨?_⟩
 intro B σ F H env D rp h
 obtain⟨I,μ,i0,turn⟩:=h
 refine dG (xH hp sg eT) ?_
 refine⟨fun m σ H=>∃F env,Rep X.K B F H σ env∧I env∧μ env=m,⟨_,F,env,rp,i0,rfl⟩,?_⟩
 rintro m σ1 H1 ⟨F1,env1,r1,i1,rfl⟩
 refine gV (hc B σ1 F1 H1 env1 _ r1 (turn env1 i1)) fun k H2 ⟨F2,r2,s2,q2⟩=>?_
 cases k with
 | false=>exact⟨F2,env1,r2,q2⟩
 | true =>
  refine⟨fun σ' H'=>∃F' env',Rep X.K B F' H' σ' env'∧I env'∧μ env' < μ env1,fun σ' H' ⟨F',env',r',i',l⟩=>⟨_,l,F',env',r',i',rfl⟩,?_⟩
  exact hb B σ1 F2 H2 env1 _ r2 q2
def turns (g:rJ) (tb:bB) (Z:Ends3):List D→En→Prop
 | [],env=>Z.nx env
 | x :: xs,env=>g x env fun env'=>tb { Z with nx:=turns g tb Z xs,ct:=turns g tb Z xs,bk:=Z.nx } env'
def dq (z:Str):List D:=z.cps.toList.map fun c=>.str ⟨#[c]⟩
def cX:D→Option (List D)
 | .lst xs=>some xs
 | .tup xs=>some xs
 | .str z=>some (dq z)
 | _=>none
def JT (z:Str):It:=⟨fun i _=>i < z.cps.size,fun i H v H'=>H'=H∧∃c,z.cps[i]?=some c∧v=.str ⟨#[c]⟩,fun i _=>z.cps.size≤i⟩
theorem xm {P:Program} {w:World} {K:PySem.W.Frag} {tg:Expr} (it:Addr) (z:Str) (t:Tok) (nm:String) (hn:["enumerate","zip","dict_itemiterator","dict_reverseitemiterator","odict_iterator","itertools.zip_longest","itertools.pairwise"].contains nm=false)
  (W:∀A:Around,A.handled=none→Walks P w A it [it] [it] z.cps.size (SignAt z) (fun i h=>h.IsStrIter it nm z t i)) (sf:∀(A:Around) (i:Nat) (s:Shared) (Q:Value→Shared→Prop) (E:Value→Shared→Prop),s.heap.IsStrIter it nm z t i→Q (.ref it) s→wpAny (model P w) A (pyIter (.ref it)) Q E s)
  (dn:∀(A:Around) (i:Nat) (s:Shared) (Q:Option Value→Shared→Prop) (E:Value→Shared→Prop),A.handled=none→s.heap.IsStrIter it nm z t i→z.cps[i]?=none→(∀h',Heap.ExtBut it s.heap h'→Q none { s with heap:=h' })→wpAny (model P w) A (pyNext (.ref it)) Q E s) :
  Turn P w K tg (JT z) [it] it (fun i h=>h.IsStrIter it nm z t i) where
 mem:=by simp
 obj:=fun i h st b hb=>by
  have e:b=it:=by simpa using hb
  subst e
  obtain⟨o,e,c,d⟩:=st
  exact⟨o,e,fun v z=>by rw [d] at z;cases z⟩
 keep:=fun i h h' st k=>by
  obtain⟨o,e,c,d⟩:=st
  exact⟨o,k it (by simp) o e,c,d⟩
 item:=by
  intro X hP hw hK hc i pins s σ H E I hf st hg
  subst hP hw hK
  obtain⟨f0,f1,f2,f3,f4,f5⟩:=hf it (by simp)
  refine (W X.A (I.ok.hd hc)).item i s _ _ hg st fun v h' tk hv st' kk=>?_
  obtain⟨c,u,hc',rfl⟩:=hv
  have I1:Inv X pins σ H { s with heap:=h',toks:=tk }:=I.turned (fun b o hb e=>kk b o (by simpa using hb) e) f0 f1 f3 f4 f5
  obtain⟨o,e,c',d⟩:=id st'
  exact⟨_,rfl,vU (s:={ s with heap:=h',toks:=tk }) e c' d hn ⟨.str ⟨#[c]⟩,H,I1,⟨u,rfl⟩,⟨rfl,c,hc',rfl⟩,st',fun b hb=>(hf b hb).1⟩⟩
 done:=by
  intro X hP hw hK hc i pins s σ H E I hf st hg
  subst hP hw hK
  obtain⟨f0,f1,f2,f3,f4,f5⟩:=hf it (by simp)
  have hg':z.cps.size≤i:=hg
  exact dn X.A i s _ _ (I.ok.hd hc) st (by simp;exact hg') fun h' eb=>⟨rfl,I.turned (t':=s.toks) (fun b o hb e=>eb b o hb e) f0 f1 f3 f4 f5⟩
 self:=fun A i s Q E st h=>sf A i s Q E st h
def Kq (K:PySem.W.Frag) (tl:TE):TI:=fun σ H R=>tl σ H fun x H1=>(∃a,x=.ref a∧(((∃xs,fL K H1 a xs)∧R (Kx K a) H1)∨((∃xs,jv K H1 a xs)∧R (Kw K a) H1)))∨∃z,x=.str z∧R (JT z) H1
theorem DN {tg l:Expr} {tl:TE} (hl:PE X l tl):PI X tg l (Kq X.K tl):=by
 intro pins s σ H R I h
 refine bH (hl pins s σ H _ I h) fun v s1 hq0=>?_
 obtain⟨x,H1,I1,r1,q1⟩:=hq0
 rcases q1 with ⟨a,e,q⟩ | ⟨z,e,q⟩
 rotate_left
 ·subst e
  obtain⟨t,rfl⟩:=r1
  have fin:∀(o:Obj) (nm:String),(∀v,o.data≠.cell v)→Turn X.prog X.w X.K tg (JT z) [s1.heap.objs.size] s1.heap.objs.size (fun i h=>h.IsStrIter s1.heap.objs.size nm z t i)→(s1.heap.push o).IsStrIter s1.heap.objs.size nm z t 0 →
    JP X pins σ tg R (.ref s1.heap.objs.size) { s1 with heap:=s1.heap.push o }:=fun o nm hcell T st=>by
   refine⟨s1.heap.objs.size,[s1.heap.objs.size],_,_,H1,rfl,I1.kept (t':=s1.toks) fun b o e=>Mz _ e,T,st,fun b hb=>?_,q⟩
   have e:b=s1.heap.objs.size:=by simpa using hb
   subst e
   exact I1.Be (Mx _) (I1.hok.fresh (Mx _))
  cases ha:z.cps.all (· < 128)
  ·exact wpAny_pyIter_wide ha (fin _ "str_iterator" (fun v e=>by cases e) (xm _ z t "str_iterator" (by decide) (fun A hA=>Walks.strWide hA _ z t) (fun A i s Q E st h=>wpAny_pyIter_striter_wide st h) (fun A i s Q E hh st hx h=>wpAny_pyNext_wide_end hh st hx h)) ⟨_,MM _ rfl,rfl,rfl⟩)
  ·exact wpAny_pyIter_ascii ha (fin _ "str_ascii_iterator" (fun v e=>by cases e) (xm _ z t "str_ascii_iterator" (by decide) (fun A hA=>Walks.strAscii hA _ z t) (fun A i s Q E st h=>wpAny_pyIter_striter_ascii st h) (fun A i s Q E hh st hx h=>wpAny_pyNext_ascii_end hh st hx h)) ⟨_,MM _ rfl,rfl,rfl⟩)
 subst e
 cases r1
 rcases q with ⟨⟨xs,hq⟩,q⟩ | ⟨⟨xs,hq⟩,q⟩
 ·obtain⟨its,rv,p,hz⟩:=I1.list hq
  refine wpAny_pyIter_list p.isList ?_
  refine⟨s1.heap.objs.size,[s1.heap.objs.size],_,_,H1,rfl,I1.kept (t':=s1.toks) fun b o e=>Mz _ e,AI a _,⟨_,MM _ rfl,rfl,rfl⟩,fun b hb=>?_,q⟩
  have e:b=s1.heap.objs.size:=by simpa using hb
  subst e
  exact I1.Be (Mx _) (I1.hok.fresh (Mx _))
 ·obtain⟨its,rv,p,hz⟩:=I1.tuple hq
  refine wpAny_pyIter_tuple (show s1.heap.IsTuple a its.toArray from p) ?_
  refine⟨s1.heap.objs.size,[s1.heap.objs.size],_,_,H1,rfl,I1.kept (t':=s1.toks) fun b o e=>Mz _ e,yj a _,⟨_,MM _ rfl,rfl,rfl⟩,fun b hb=>?_,q⟩
  have e:b=s1.heap.objs.size:=by simpa using hb
  subst e
  exact I1.Be (Mx _) (I1.hok.fresh (Mx _))
theorem yf {K:PySem.W.Frag} {F:Hp} (z:Str):aq K F (dq z) (z.cps.toList.map fun c=>V.str ⟨#[c]⟩):=by
 unfold dq
 induction z.cps.toList with
 | nil=>exact aU
 | cons c r ih=>exact aO hW ih
def jV (te:TD) (g:rJ) (tb:bB):bB:=fun D env=>te env fun x=>∃xs,cX x=some xs∧turns g tb D xs env
theorem drop_cons {α:Type} {xs:List α} {i:Nat} {x:α} (h:xs[i]?=some x):xs.drop i=x :: xs.drop (i + 1):=by
 obtain⟨hl,e⟩:=Mo.mp h
 rw [List.drop_eq_getElem_cons hl,e]
theorem RS.same {B:Base} {G:Hp} {D:Ends3} (s:ar B.F G):(∀σ H,(RS X ⟨G,B.H,B.N,B.nb⟩ D).nx σ H→(RS X B D).nx σ H)∧(∀v H,(RS X ⟨G,B.H,B.N,B.nb⟩ D).rt v H→(RS X B D).rt v H) ∧
  (∀σ H,(RS X ⟨G,B.H,B.N,B.nb⟩ D).bk σ H→(RS X B D).bk σ H)∧(∀σ H,(RS X ⟨G,B.H,B.N,B.nb⟩ D).ct σ H→(RS X B D).ct σ H) :=
 ⟨fun _ _ ⟨F',env',r,q⟩=>⟨F',env',r.back s,q⟩,fun _ _ ⟨F',d,r,hd,q⟩=>⟨F',d,r.back s,hd,q⟩,fun _ _ ⟨F',env',r,q⟩=>⟨F',env',r.back s,q⟩,fun _ _ ⟨F',env',r,q⟩=>⟨F',env',r.back s,q⟩⟩
theorem jo {tg iter:Expr} {body:List Stmt} {g:rJ} (hp:PassesOwn (model X.prog X.w) X.A X.env X.xe) (hc:X.calm=true) (hi:QE X iter ta) (hg:QG X tg g) (hb:oF X body t)
  (hs:∀x,foldedSetIterable iter X.env x=pure x:=by intro _;rfl):QS X (.For tg iter body [] pos) (jV ta g t):=by
 refine⟨?_⟩
 intro B σ F H env D rp h
 refine dG (qF hp hc (DN bh) yo eT hs) ?_
 refine aA (hi B σ F H env _ rp h) fun v H1 hq0=>?_
 obtain⟨F1,d,r1,s1,d1,xs,hx,q1⟩:=hq0
 have core:∀(a:Addr) (vs:List V) (J:It),aq X.K F1 xs vs→(∀(i:Nat) (x:V) (G H':Hp),ar F1 G→ar G H'→vs[i]?=some x→J.go i H')→(∀(i:Nat) (x:V) (G H':Hp) (y:V) (H'':Hp),ar F1 G→ar G H'→vs[i]?=some x→J.yld i H' y H''→H''=H'∧y=x) →
   (∀(G H':Hp),ar F1 G→ar G H'→J.stop vs.length H') →
   ∃W:Nat→Nat→St→Hp→Prop,(∃m,W 0 m σ H1)∧∀i m σ H,W i m σ H→(J.stop i H∧(RS X B D).nx σ H)∨(J.go i H∧∃N:St→Hp→Prop,(∀σ' H',N σ' H'→∃m',m' < m∧W (i + 1) m' σ' H') ∧
    ∀x H',J.yld i H x H'→wG X tg x σ H' fun σ2 H2=>wSs X body { RS X B D with nx:=N,ct:=N,bk:=(RS X B D).nx } σ2 H2):=by
  intro a vs J dl go yld stop
  have hlen:=dl.length
  refine⟨fun i m σ H=>m=vs.length - i∧i≤vs.length∧∃F env,Rep X.K ⟨F1,B.H,B.N,B.nb⟩ F H σ env∧turns g t D (xs.drop i) env,⟨vs.length,by simp,MX _,F1,env,r1.now,by simpa using q1⟩,?_⟩
  rintro i m σ2 H2 ⟨rfl,hi2,F2,env2,r2,q2⟩
  by_cases hlt:i < vs.length
  ·have hv:vs[i]?=some vs[i]:=by simp [hlt]
   obtain⟨dx,hdx,ddx⟩:=dl.J0 hv
   rw [drop_cons hdx] at q2
   refine .inr ⟨go i _ F2 H2 r2.f0 r2.fh hv,fun σ' H'=>∃F env,Rep X.K ⟨F1,B.H,B.N,B.nb⟩ F H' σ' env∧turns g t D (xs.drop (i + 1)) env,fun σ' H' ⟨F',env',r',q'⟩=>⟨vs.length - (i + 1),by omega,rfl,by omega,F',env',r',q'⟩,fun y H' hy=>?_⟩
   obtain⟨rfl,rfl⟩:=yld i _ F2 H2 y H' r2.f0 r2.fh hv hy
   have st:=hg ⟨F1,B.H,B.N,B.nb⟩ σ2 F2 _ env2 _ dx _ r2 (Den.mono r2.f0 _ _ ddx) q2
   refine gT st fun σ3 H3 hq0=>?_
   obtain⟨F3,env3,r3,s3,q3⟩:=hq0
   have bd:=hb ⟨F1,B.H,B.N,B.nb⟩ σ3 F3 H3 env3 _ r3 q3
   obtain⟨z1,z2,z3,z4⟩:=RS.same (X:=X) (B:=B) (D:=D) (r1.f0)
   exact gL bd (fun _ _ q=>q) z2 z1 (fun _ _ q=>q)
  ·have e:i=vs.length:=by omega
   subst e
   rw [M6 (by omega)] at q2
   exact .inl ⟨stop F2 H2 r2.f0 r2.fh,F2,env2,r2.back r1.f0,q2⟩
 cases d with
 | lst ys =>
  simp only [cX] at hx;cases hx
  simp only [Den] at d1
  obtain⟨a,vs,rfl,q,r⟩:=d1
  refine .inl ⟨a,rfl,.inl ⟨⟨vs,r1.fh.seq q⟩,core a vs (Kx X.K a) r (fun i x G H' s1 s2 hv=>⟨vs,x,s2.seq (s1.seq q),hv⟩) (fun i x G H' y H'' s1 s2 hv hy=>?_) (fun G H' s1 s2=>⟨vs,s2.seq (s1.seq q),Mx _⟩)⟩⟩
  obtain⟨e1,e2⟩:=hy
  have:=e2 vs (s2.seq (s1.seq q))
  rw [hv] at this
  exact⟨e1,(My this).symm⟩
 | tup ys =>
  simp only [cX] at hx;cases hx
  simp only [Den] at d1
  obtain⟨a,vs,rfl,q,r⟩:=d1
  refine .inl ⟨a,rfl,.inr ⟨⟨vs,ar.cm r1.fh q⟩,core a vs (Kw X.K a) r (fun i x G H' s1 s2 hv=>⟨vs,x,ar.cm s2 (ar.cm s1 q),hv⟩) (fun i x G H' y H'' s1 s2 hv hy=>?_) (fun G H' s1 s2=>⟨vs,ar.cm s2 (ar.cm s1 q),Mx _⟩)⟩⟩
  obtain⟨e1,e2⟩:=hy
  have:=e2 vs (ar.cm s2 (ar.cm s1 q))
  rw [hv] at this
  exact⟨e1,(My this).symm⟩
 | str z =>
  simp only [cX] at hx;cases hx
  simp only [Den] at d1
  subst d1
  refine .inr ⟨z,rfl,core 0 (z.cps.toList.map fun c=>V.str ⟨#[c]⟩) (JT z) (yf z) (fun i x G H' s1 s2 hv=>?_) (fun i x G H' y H'' s1 s2 hv hy=>?_) (fun G H' s1 s2=>?_)⟩
  ·have:=(Mo.mp hv).1
   show i < z.cps.size
   simpa using this
  ·obtain⟨e1,c,hc,rfl⟩:=hy
   rw [Mu,Array.getElem?_toList,hc] at hv
   exact⟨e1,My hv⟩
  ·show z.cps.size≤_
   simp
 | _=>simp only [cX] at hx;cases hx
def a9 (lo:Int) (n:Nat):List D:=(List.range n).map fun (i:Nat)=>D.int (lo + (i:Int))
def gd (f:List D→(Int→Nat→Prop)→Prop) (ts:eQ) (g:rJ) (tb:bB):bB:=fun D env=>ts env fun xs=>f xs fun lo n=>turns g tb D (a9 lo n) env
def iZ (xs:List D) (Q:Int→Nat→Prop):Prop:=match xs with
 | [.int j]=>(-(2 ^ 62)≤j∧j < 2 ^ 62)∧Q 0 j.toNat
 | _=>False
def Fo (xs:List D) (Q:Int→Nat→Prop):Prop:=match xs with
 | [.int i,.int j]=>(-(2 ^ 62)≤i∧i < 2 ^ 62∧-(2 ^ 62)≤j∧j < 2 ^ 62)∧Q i (j - i).toNat
 | _=>False
theorem x9 {tg:Expr} {body:List Stmt} {g:rJ} (hg:QG X tg g) (hb:oF X body t) {B:Base} {D:Ends3} {lo:Int} {n:Nat} {σ:St} {F1 H1:Hp} {env:En} (r1:Rep X.K B F1 H1 σ env) (q1:turns g t D (a9 lo n) env) :
  ∃W:Nat→Nat→St→Hp→Prop,(∃m,W 0 m σ H1)∧∀i m σ H,W i m σ H→((Gz lo n).stop i H∧(RS X B D).nx σ H)∨((Gz lo n).go i H∧∃N:St→Hp→Prop,(∀σ' H',N σ' H'→∃m',m' < m∧W (i + 1) m' σ' H') ∧
    ∀x H',(Gz lo n).yld i H x H'→wG X tg x σ H' fun σ2 H2=>wSs X body { RS X B D with nx:=N,ct:=N,bk:=(RS X B D).nx } σ2 H2):=by
 have hl:(a9 lo n).length=n:=by simp [a9]
 refine⟨fun i m σ H=>m=n - i∧i≤n∧∃F env,Rep X.K B F H σ env∧turns g t D ((a9 lo n).drop i) env,⟨n,by simp,MX _,F1,env,r1,by simpa using q1⟩,?_⟩
 rintro i m σ2 H2 ⟨rfl,hi2,F2,env2,r2,q2⟩
 by_cases hlt:i < n
 ·have hdx:(a9 lo n)[i]?=some (L3.D.int (lo + (i:Int))):=by simp [a9,hlt]
  rw [drop_cons hdx] at q2
  refine .inr ⟨hlt,fun σ' H'=>∃F env,Rep X.K B F H' σ' env∧turns g t D ((a9 lo n).drop (i + 1)) env,fun σ' H' ⟨F',env',r',q'⟩=>⟨n - (i + 1),by omega,rfl,by omega,F',env',r',q'⟩,fun y H' hy=>?_⟩
  obtain⟨rfl,rfl⟩:=hy
  refine gT (hg B σ2 F2 _ env2 _ _ _ r2 bo q2) fun σ3 H3 hq0=>?_
  obtain⟨F3,env3,r3,s3,q3⟩:=hq0
  exact gL (hb B σ3 F3 H3 env3 _ r3 q3) (fun _ _ q=>q) (fun _ _ q=>q) (fun _ _ q=>q) (fun _ _ q=>q)
 ·have e:i=n:=by omega
  subst e
  rw [M6 (by omega)] at q2
  exact .inl ⟨Mx _,F2,env2,r2,q2⟩
theorem gM {tg:Expr} {body:List Stmt} {g:rJ} {p:Pos} {pos2:Pos} (hp:PassesOwn (model X.prog X.w) X.A X.env X.xe) (hc:X.calm=true) (hgl:Gl X "range") (hm:X.mg "range" = none) (ha:QA X [a] ts) (hg:QG X tg g) (hb:oF X body t)
  (hst:starEach [a] X.env=[(false,eval a X.env)]:=by rfl) (hs:∀x,foldedSetIterable (.Call (.Name "range" p) [a] [] pos2) X.env x=pure x:=by intro _;rfl):QS X (.For tg (.Call (.Name "range" p) [a] [] pos2) body [] pos) (gd iZ ts g t):=by
 refine⟨?_⟩
 intro B σ F H env D rp h
 refine dG (qF hp hc (kE hgl hm jF hst) yo eT hs) ?_
 refine cy (ha B σ F H env _ rp h) fun vs H1 hq0=>?_
 obtain⟨F1,ds,r1,s1,d1,q1⟩:=hq0
 (try dsimp only at q1);unfold iZ at q1
 split at q1
 ·simp only [aq,Den] at d1
  obtain⟨v,r,rfl,rfl,rfl⟩:=d1
  exact⟨_,rfl,q1.1.1,q1.1.2,x9 hg hb r1 q1.2⟩
 ·exact q1.elim
theorem B5 {tg:Expr} {body:List Stmt} {g:rJ} {p:Pos} {pos2:Pos} (hp:PassesOwn (model X.prog X.w) X.A X.env X.xe) (hc:X.calm=true) (hgl:Gl X "range") (hm:X.mg "range" = none) (ha:QA X [a,b] ts) (hg:QG X tg g) (hb:oF X body t)
  (hst:starEach [a,b] X.env=[(false,eval a X.env),(false,eval b X.env)]:=by rfl) (hst2:starEach [b] X.env=[(false,eval b X.env)]:=by rfl) (hs:∀x,foldedSetIterable (.Call (.Name "range" p) [a,b] [] pos2) X.env x=pure x:=by intro _;rfl) :
  QS X (.For tg (.Call (.Name "range" p) [a,b] [] pos2) body [] pos) (gd Fo ts g t):=by
 refine⟨?_⟩
 intro B σ F H env D rp h
 refine dG (qF hp hc (Ay hgl hm jF hst hst2) yo eT hs) ?_
 refine cy (ha B σ F H env _ rp h) fun vs H1 hq0=>?_
 obtain⟨F1,ds,r1,s1,d1,q1⟩:=hq0
 (try dsimp only at q1);unfold Fo at q1
 split at q1
 ·simp only [aq,Den] at d1
  obtain⟨v,r,rfl,rfl,v',r',rfl,rfl,rfl⟩:=d1
  exact⟨_,_,rfl,q1.1,x9 hg hb r1 q1.2⟩
 ·exact q1.elim
def RF (X:Cx) (B:Base) (σ:St) (env:En) (F:Hp) (Q:List D→Prop):VK:=fun v H'=>∃F' H1 p vs ds,v=.ref p∧H1 p=none∧H'=upd H1 p (.lst vs)∧Rep X.K B F' H1 σ env∧ar F F'∧aq X.K F' ds vs∧Q ds
structure QF (X:Cx) (e:Expr) (t:eQ):Prop where
 of ::
 run:∀(B:Base) (σ:St) (F H:Hp) (env:En) (Q:List D→Prop),Rep X.K B F H σ env→t env Q→wE X e σ H (RF X B σ env F Q)
instance {X:Cx} {e:Expr} {t:eQ}:CoeFun (QF X e t) (fun _=>∀(B:Base) (σ:St) (F H:Hp) (env:En) (Q:List D→Prop),Rep X.K B F H σ env→t env Q→wE X e σ H (RF X B σ env F Q)):=⟨QF.run⟩
def pA (ts:eQ):eQ:=fun env Q=>ts env fun xs=>xs.length≤sizeLine∧Q xs
theorem p6 (h:QA X es ts):QF X (.List es pos) (pA ts):=by
 refine⟨?_⟩
 intro B σ F H env Q rp hq
 refine bN (zd jF) ?_
 exact cy (h B σ F H env _ rp hq) fun vs H1 ⟨F1,ds,r1,s1,d1,z,q1⟩=>⟨by rw [← d1.length];exact z,fun p hp=>⟨F1,H1,p,vs,ds,rfl,hp,rfl,r1,s1,d1,q1⟩⟩
def cA (i:Nat) (ts:eQ):bB:=fun D env=>ts env fun xs=>D.nx (env.set i (some (.own xs)))
theorem fb {x:Str} {pos':Pos} (i:Nat) (hN:X.N.Nodup) (he:QF X e ts) (hi:X.N[i]?=some x:=by rfl) (hx:Loc X.env.scope x:=by first | exact Or.inl rfl | exact Or.inr rfl) (hs:swapsWith e (some (.Name x pos')) pos.line X.env=pure false:=by rfl)
  (hf:X.fn x=true∨X.env.scope.names.lookup x=some .local:=by first | exact .inl rfl | exact .inr rfl):QS X (.Assign [.Name x pos'] e pos) (cA i ts):=by
 refine⟨?_⟩
 intro B σ F H env D rp h pins s I
 refine oq (i:=i) hN hi hx bh hs hf pins s σ H _ I ?_
 refine aA (he B σ F H env _ rp h) fun v H' hq0=>?_
 obtain⟨F1,H1,p,vs,ds,e1,hp,e2,r1,s1,d1,q1⟩:=hq0
 subst e1 e2
 refine⟨F1,_,r1.Dg hp d1 ?_,q1⟩
 rw [I.len];exact (Mo.mp hi).1
def er (i:Nat) (te:TD):bB:=fun D env=>∃xs,env[i]?=some (some (.own xs))∧xs.length < sizeLine∧te env fun x=>D.nx (env.set i (some (.own (xs ++ [x]))))
theorem kP {x:Str} {px apos cpos:Pos} (i:Nat) (he:QE X e ta) (hN:X.N[i]?=some x:=by rfl) (hv:xA X.env.scope x:=by first | exact Or.inl rfl | exact Or.inr (Or.inl rfl) | exact Or.inr (Or.inr rfl)) (hd:(x == ("__debug__" : Str))=false:=by decide) (hcd:(x == ("__classdict__" : Str))=false:=by decide)
  (hbase:attributeBase (.Name x px) "append" X.env (eval (.Name x px) X.env)=eval (.Name x px) X.env:=by rfl)
  (hfew:((backTo cpos (starEach [e] X.env)).all (fun x=>!x.1) && (backToKw cpos (keywordEach [] X.env)).all (fun x=>x.1.isSome)
   && decide (([e]:List Expr).length + ([]:List Keyword).length + (if ([]:List Keyword).isEmpty then 0 else 1) < 30))=true:=by rfl)
  (hline:(apos.endLine == cpos.line)=true:=by rfl) (hst:starEach [e] X.env=(false,eval e X.env) :: starEach [] X.env:=by exact aT rfl) (hplain:(backTo cpos (starEach ([]:List Expr) X.env)).any (·.1)=false:=by rfl)
  (hs:swapsWith (.Call (.Attribute (.Name x px) "append" apos) [e] [] cpos) none pos.line X.env=pure false:=by rfl) :
  QS X (.Expr (.Call (.Attribute (.Name x px) "append" apos) [e] [] cpos) pos) (er i ta):=by
 refine⟨?_⟩
 intro B σ F H env D rp h
 refine dG (vb (wO PySem.F.plainAttrs_list PySem.F.slot_list_append PySem.F.type_list_append sV (eB hN hv hd hcd) (cT bh gz hst) hbase hfew hline hst hplain) hs) ?_
 obtain⟨xs,hx,hl,h⟩:=h
 obtain⟨p,vs,h1,h2,h3,h4,h5⟩:=rp.ov i xs hx
 refine⟨.ref p,h1,.inl ⟨rfl,vs,fL.of h2⟩,?_⟩
 refine aA (he B σ F H env _ rp h) fun y H1 hq0=>?_
 obtain⟨F1,d,r1,s1,d1,q1⟩:=hq0
 obtain⟨p',vs',g1,g2,g3,g4,g5⟩:=r1.ov i xs hx
 rw [h1] at g1;cases g1
 exact⟨p,vs',y,rfl,rfl,g2,by rw [← g5.length];exact hl,F1,_,r1.change hx h1 (g5.append (aO d1 aU)),q1⟩
end
end L2.L3
namespace L2.L3
open PySem PySem.Spec PyProof.Rows
abbrev Fw:=List D→(D→Prop)→Prop
def Ep (K:PySem.W.Frag) (f:Fw):Sp:=fun vs H Q _=>∃(F:Hp) (ds:List D) (P:D→Prop),ar F H∧aq K F ds vs∧f ds P ∧
 ∀(d:D) (v:V) (F' H':Hp),ar F F'→ar H H'→ar F' H'→(∀p,H p≠none→F p=none→F' p=none)→Den K F' d v→P d→Q v H'
structure Known (P:Program) (w:World) (K:PySem.W.Frag) (mg:Str→Option Value) (base:Heap) (k:Nat) (x:Str) (f:Fw):Prop where
 ex:∃(fa:Addr) (fd:FuncData) (ps:List Str),nV P w K mg base tH k fa fd ps (Ep K f)∧mg x=some (.ref fa)∧PySem.W.keepIn K (.ref fa)=true∧Binds K fd ps []
def aF (N:List Str) (ds:List D):En:=ds.map (fun d=>some (Lo.d d)) ++ List.replicate (N.length - ds.length) none
section
variable {X:Cx} {e:Expr} {es:List Expr} {ts:eQ} {p pos:Pos} {x:Str} {k:Nat} {f:Fw}
theorem aK (h:Known X.prog X.w X.K X.mg X.base k x f) (hr:di k X.A) (ha:QA X (e :: es) ts) (hg:Gl X x:=by rfl) (hdb:(x == ("__debug__" : Str))=false:=by decide)
  (he:starEach (e :: es) X.env=(false,eval e X.env) :: starEach es X.env:=by exact aT rfl) (hpl:(backTo pos (starEach es X.env)).any (·.1)=false:=by rfl):QE X (.Call (.Name x p) (e :: es) [] pos) (aw f ts):=by
 refine⟨?_⟩
 intro B σ F H env Q rp hq
 obtain⟨fa,fd,ps,G,hm,hk,hb⟩:=h.ex
 refine bN (uU G hr hg hm hk hb .nil Aq jF hdb he hpl) ?_
 refine cy (ha B σ F H env _ rp hq) fun vs H1 hq0=>?_
 obtain⟨F1,ds,r1,s1,d1,hf⟩:=hq0
 rw [MV]
 exact⟨F1,ds,Q,r1.fh,d1,hf,fun d v F' H' a b c n hd q=>⟨F',d,r1.ext a c b n,s1.trans a,hd,q⟩⟩
end
theorem gE {K:PySem.W.Frag} {F H:Hp} {N:List Str} {ds:List D} {vs:List V} (fh:ar F H) (hd:aq K F ds vs) :
  Rep K ⟨F,H,fun p=>H p≠none∧F p=none,fun _ h=>h.1⟩ F H (start N vs) (aF N ds):=by
 have noown:∀(i:Nat) ys,(aF N ds)[i]?=some (some (.own ys))→False:=fun i ys q=>by
  unfold aF at q
  by_cases hi:i < ds.length
  ·rw [MJ (by simpa using hi),Mu] at q
   rw [Mq hi] at q
   cases q
  ·rw [MH (by simpa using hi),MW] at q
   split at q <;> cases q
 have nodic:∀(i:Nat) ys,(aF N ds)[i]?=some (some (.dic ys))→False:=fun i ys q=>by
  unfold aF at q
  by_cases hi:i < ds.length
  ·rw [MJ (by simpa using hi),Mu] at q
   rw [Mq hi] at q
   cases q
  ·rw [MH (by simpa using hi),MW] at q
   split at q <;> cases q
 refine⟨ar.refl _,fh,ar.refl _,fun p h=>h.2,fun i x q=>?_,fun i ys q=>(noown i ys q).elim,fun i j xs ys p _ q=>(noown i xs q).elim,fun i ys q=>(nodic i ys q).elim,fun i j xs ys p _ q=>(nodic i xs q).elim⟩
 unfold aF at q
 by_cases hi:i < ds.length
 ·rw [MJ (by simpa using hi),Mu] at q
  rw [Mq hi] at q
  cases q
  obtain⟨v,h1,h2⟩:=hd.get (Mq hi)
  refine⟨v,?_,h2⟩
  unfold start
  rw [MJ (by rw [MB,← hd.length];exact hi),Mu,h1]
  rfl
 ·rw [MH (by simpa using hi),MW] at q
  split at q <;> cases q
section
variable {P:Program} {w:World} {K:PySem.W.Frag} {mg:Str→Option Value} {base:Heap}
theorem pz.Fe {x qual:Str} {st:Stmt} {fa:Addr} {fd:FuncData} {N ps:List Str} {k:Nat} {f:Fw} (F:pz K x qual st fa fd) (S:aH N ps (ak st))
  (hl:∀ds Q,f ds Q→ds.length=ps.length)
  (hbody:∀(cdv:Value) (A:Around) (outer:List Env) (s:Shared) (H:Hp) (E:XK),di k (A.deeper (envOfC qual (ak st) s.heap.objs.size fa cdv)) →
   ∃t,oF (gO tH P w K mg base N qual (ak st) fa cdv A outer s H E).oZ (bp st) t∧∀ds (Q:D→Prop),f ds Q→t { nx:=fun _=>Q .non,rt:=Q } (aF N ds)) :
  nV P w K mg base tH (k + 1) fa fd ps (Ep K f):=by
 refine F.ok S (fun vs H Q E h=>?_) (fun cdv A outer s H vs Q E hr h=>?_)
 ·obtain⟨F0,ds,P,_,hd,hf,_⟩:=h
  rw [← hd.length];exact hl ds _ hf
 ·obtain⟨F0,ds,P,fh,hd,hf,kk⟩:=h
  obtain⟨t,ht,hq⟩:=hbody cdv A outer s H E hr
  refine⟨_,eT,?_⟩
  have core:=ht _ (start N vs) F0 H (aF N ds) _ (gE fh hd) (hq ds P hf)
  refine gL core (fun σ' H' ⟨F',env',r,q⟩=>?_) (fun v H' ⟨F',d',r,dd,q⟩=>?_) (fun _ _ ⟨_,_,_,q⟩=>q) (fun _ _ ⟨_,_,_,q⟩=>q)
  ·exact kk .non .non F' H' r.f0 r.h0 r.fh (fun p h1 h2=>r.nf p ⟨h1,h2⟩) jd q
  ·exact kk d' v F' H' r.f0 r.h0 r.fh (fun p h1 h2=>r.nf p ⟨h1,h2⟩) dd q
theorem pz.known {x qual:Str} {st:Stmt} {fa:Addr} {fd:FuncData} {N ps:List Str} {k:Nat} {f:Fw} (F:pz K x qual st fa fd) (S:aH N ps (ak st)) (hmg:mg x=some (.ref fa)) (hb:Binds K fd ps [])
  (hl:∀ds Q,f ds Q→ds.length=ps.length)
  (hbody:∀(cdv:Value) (A:Around) (outer:List Env) (s:Shared) (H:Hp) (E:XK),di k (A.deeper (envOfC qual (ak st) s.heap.objs.size fa cdv)) →
   ∃t,oF (gO tH P w K mg base N qual (ak st) fa cdv A outer s H E).oZ (bp st) t∧∀ds (Q:D→Prop),f ds Q→t { nx:=fun _=>Q .non,rt:=Q } (aF N ds)) :
  Known P w K mg base (k + 1) x f:=⟨fa,fd,ps,pz.Fe F S hl hbody,hmg,F.kp,hb⟩
def Bj (n:Nat):Fw:=fun ds Q=>∃ns:List Int,ds=[.lst (ns.map D.int)]∧ns.length≤n∧Q (.bl true)
theorem GV {K:PySem.W.Frag} {H:Hp} {a:Addr} {ns:List Int} {n:Nat} (hl:ns.length≤n) (hS:fL K H a (ns.map V.int)):Ep K (Bj n) [.ref a] H (fun v _=>v=.bl true) fun _ _ _=>False:=by
 refine⟨H,[.lst (ns.map D.int)],fun d=>d=.bl true,ar.refl _,aO (iS hS (sW ns)) aU,⟨ns,rfl,hl,rfl⟩,fun d v F' H' _ _ _ _ hd q=>?_⟩
 subst q
 simpa only [Den] using hd
end
section
variable {X:Cx} {a b c e:Expr} {es:List Expr} {ta tb tc:TD} {ts:eQ} {pos:Pos} {st:Stmt} {sts:List Stmt} {t u:bB}
def c9 (i:Nat) (t:bB):bB:=fun D env=>∃xs,env[i]?=some (some (.own xs))∧t D (env.set i (some (.d (.lst xs))))
theorem gu (i:Nat) (h:QS X st t):QS X st (c9 i t):=by
 refine⟨?_⟩
 intro B σ F H env D rp hq
 obtain⟨xs,hx,q⟩:=hq
 obtain⟨F',s',r'⟩:=rp.freeze hx
 exact h B σ F' H _ D r' q
def cM (i:Nat) (tj:TD):TD:=fun env Q=>∃xs,env[i]?=some (some (.own xs))∧tj env fun y=>∃j v,y=.int j∧kU xs j=some v∧Q v
theorem dJ {x:Str} {px:Pos} (i:Nat) (hb:QE X b tb) (hs:mj b) (hN:X.N[i]?=some x:=by rfl) (hv:xA X.env.scope x:=by first | exact Or.inl rfl | exact Or.inr (Or.inl rfl) | exact Or.inr (Or.inr rfl)) (hd:(x == ("__debug__" : Str))=false:=by decide)
  (hcd:(x == ("__classdict__" : Str))=false:=by decide):QE X (.Subscript (.Name x px) b pos) (cM i tb):=by
 refine⟨?_⟩
 intro B σ F H env Q rp h
 refine bN (zp zB (eB hN hv hd hcd) bh hs) ?_
 obtain⟨xs,hx,h⟩:=h
 obtain⟨p,vs,h1,h2,h3,h4,h5⟩:=rp.ov i xs hx
 refine⟨.ref p,h1,?_⟩
 refine aA (hb B σ F H env _ rp h) fun y H1 hq0=>?_
 obtain⟨F1,d,r1,s1,d1,j,v,hj,hv,q1⟩:=hq0
 subst hj
 simp only [Den] at d1
 obtain⟨p',vs',g1,g2,g3,g4,g5⟩:=r1.ov i xs hx
 rw [h1] at g1;cases g1
 obtain⟨w,hw,dw⟩:=g5.kU hv
 exact⟨p,vs',j,w,rfl,d1,fL.of g2,hw,F1,v,r1,s1,dw,q1⟩
def rY (i:Nat) (tj te:TD):bB:=fun D env=>te env fun x=>∃xs,env[i]?=some (some (.own xs))∧tj env fun y=>∃(j:Int) (k:Nat),y=.int j∧uQ xs.length j=some k∧D.nx (env.set i (some (.own (xs.set k x))))
theorem yz {x:Str} {px p2:Pos} (i:Nat) (hb:QE X b tb) (he:QE X e ta) (hN:X.N[i]?=some x:=by rfl) (hv:xA X.env.scope x:=by first | exact Or.inl rfl | exact Or.inr (Or.inl rfl) | exact Or.inr (Or.inr rfl)) (hd:(x == ("__debug__" : Str))=false:=by decide)
  (hcd:(x == ("__classdict__" : Str))=false:=by decide) (hs:swapsWithSole [.Subscript (.Name x px) b p2] e pos.line X.env=pure false:=by rfl) (hw:swappedStores [.Subscript (.Name x px) b p2] e X.env=pure none:=by rfl)
  (h1:(assignEach [.Subscript (.Name x px) b p2] X.env).map (·.2)=[assign (.Subscript (.Name x px) b p2) X.env]:=by rfl)
  (ha:∀v,assign (.Subscript (.Name x px) b p2) X.env v=(do
   let ov ← holding [v] (eval (.Name x px) X.env)
   let iv ← holding [v,ov] (eval b X.env)
   standAt p2
   holding [v,ov,iv] (setItem ov iv v)
   release [v,ov,iv] []):=by intro _;rfl):QS X (.Assign [.Subscript (.Name x px) b p2] e pos) (rY i tb ta):=by
 refine⟨?_⟩
 intro B σ F H env D rp h
 refine dG (zh bh (Dd (eB hN hv hd hcd) bh set_list ha) hs hw h1) ?_
 refine aA (he B σ F H env _ rp h) fun y H1 hq0=>?_
 obtain⟨F1,d,r1,s1,d1,xs,hx,q1⟩:=hq0
 obtain⟨p,vs,g1,g2,g3,g4,g5⟩:=r1.ov i xs hx
 refine⟨.ref p,g1,?_⟩
 refine aA (hb B σ F1 H1 env _ r1 q1) fun z H2 hq0=>?_
 obtain⟨F2,d2,r2,s2,dd2,j,k,hj,hk,q2⟩:=hq0
 subst hj
 simp only [Den] at dd2
 obtain⟨p',vs',e1,e2,e3,e4,e5⟩:=r2.ov i xs hx
 rw [g1] at e1;cases e1
 exact⟨p,vs',j,k,rfl,dd2,e2,by rw [← e5.length];exact hk,F2,_,r2.change hx g1 (e5.set (Den.mono s2 _ _ d1) k),q2⟩
end
end L2.L3
namespace L2.L3
open PySem PySem.Spec PyProof.Rows
def gK (names:List (Str×NameKind)) (cells:List (Str×Addr)) (acc:List (Str×Addr)):List (Str×Addr):=match names with
 | []=>acc
 | (n,k) :: r=>if k=.free then (match cells.lookup n with | some c=>gK r cells ((n,c) :: acc) | none=>gK r cells acc) else gK r cells acc
theorem fY {env:Env}:∀(names:List (Str×NameKind)) (acc:List (Str×Addr)),(∀y∈names,y.2=.free→∃c,env.cells.lookup y.1=some c) →
  (forIn names acc fun (x:Str×NameKind) r=>if (x.2 == NameKind.free)=true then (do let a ← cellOf env x.1;pure (ForInStep.yield ((x.1,a) :: r))) else pure (ForInStep.yield r):Sem (List (Str×Addr)))=pure (gK names env.cells acc)
 | [],acc,_=>rfl
 | (n,k) :: r,acc,h=>by
  rw [List.forIn_cons]
  by_cases hk:k=.free
  ·subst hk
   obtain⟨c,hc⟩:=h (n,.free) MN rfl
   have hc':env.cells.lookup n=some c:=hc
   have ih:=fY r ((n,c) :: acc) fun y hy=>h y (ME _ hy)
   simp only [beq_self_eq_true,if_true,cellOf,hc',gK]
   exact ih
  ·have ih:=fY r acc fun y hy=>h y (ME _ hy)
   have hb:(k == NameKind.free)=false:=by simpa using hk
   simp only [hb,Mt,if_false,gK,Ms hk]
   exact ih
theorem rO {scope:Scope} {env:Env} (h:∀y∈scope.names,y.2=.free→∃c,env.cells.lookup y.1=some c):closureFor scope env=pure (gK scope.names env.cells []):=by
 have e:=fY (env:=env) scope.names [] h
 have e2:closureFor scope env=((forIn scope.names ([]:List (Str×Addr)) fun (x:Str×NameKind) r=>if (x.2 == NameKind.free)=true then (do let a ← cellOf env x.1;pure (ForInStep.yield ((x.1,a) :: r))) else pure (ForInStep.yield r)) >>= fun cs=>pure cs):=rfl
 rw [e2,e];rfl
theorem iG {cells:List (Str×Addr)}:∀(names:List (Str×NameKind)) (acc:List (Str×Addr)),(∀x c,acc.lookup x=some c→cells.lookup x=some c)→∀x c,(gK names cells acc).lookup x=some c→cells.lookup x=some c
 | [],acc,h,x,c,q=>h x c q
 | (n,k) :: r,acc,h,x,c,q=>by
  unfold gK at q
  split at q
  ·split at q
   ·rename_i c' e
    refine iG r _ (fun y d w=>?_) x c q
    rw [List.lookup_cons] at w
    split at w
    ·rename_i z
     have:y=n:=by simpa using z
     subst this
     cases w;exact e
    ·exact h y d w
   ·exact iG r _ h x c q
  ·exact iG r _ h x c q
theorem mB {cells:List (Str×Addr)}:∀(names:List (Str×NameKind)) (acc:List (Str×Addr)) (x:Str),(acc.lookup x).isSome=true→((gK names cells acc).lookup x).isSome=true
 | [],acc,x,q=>q
 | (n,k) :: r,acc,x,q=>by
  unfold gK
  split
  ·split
   ·refine mB r _ x ?_
    rw [List.lookup_cons]
    split
    ·rfl
    ·exact q
   ·exact mB r _ x q
  ·exact mB r _ x q
theorem mU {cells:List (Str×Addr)}:∀(names:List (Str×NameKind)) (acc:List (Str×Addr)) (x:Str),(x,NameKind.free)∈names→(cells.lookup x).isSome=true→((gK names cells acc).lookup x).isSome=true
 | [],acc,x,h,_=>by simp at h
 | (n,k) :: r,acc,x,h,q=>by
  rcases ML.mp h with e | h
  ·cases e
   unfold gK
   rw [Mw rfl]
   split
   ·exact mB r _ _ (by rw [List.lookup_cons];simp)
   ·rename_i e;rw [e] at q;cases q
  ·unfold gK
   split
   ·split <;> exact mU r _ x h q
   ·exact mU r _ x h q
def aP (X:Cx) (N':List Str) (scope:Scope) (C:Addr) (s:Shared) (H:Hp) (fp:List Addr) (pins:List (Addr×Obj)):Cx :=
 { X with N:=N',s₀:=s,H₀:=H,env:=compEnvC scope (gK scope.names X.env.cells []) C X.env,outer:=X.stack,stack:=X.stack,ex:=fp,fn:=fun _=>false,pn:=X.pn ++ pins,xe:=fun _ _=>False }
structure bM (X:Cx) (N':List Str) (nt:Nat) (ix:List Nat) (scope:Scope):Prop where
 kind:scope.kind=.function
 nocell:∀x∈scope.names,x.2≠.cell
 names:∀x∈scope.names,x.2=.local→scope.names.lookup x.1=some .local
 free:∀x∈scope.names,x.2=.free→X.env.scope.names.lookup x.1=some .cell
 caps:∀(j:Nat) (i:Nat),ix[j]?=some i→∃x,N'[nt + j]?=some x∧X.N[i]?=some x∧(x,NameKind.free)∈scope.names∧(relabel scope X.env).names.lookup x=some .cell
 len:N'.length=nt + ix.length
section
variable {prog:Program} {w:World} {A:Around} {R:Result→Shared→Prop} {s:Shared}
theorem uP {elt target iter:Expr} {ifs:List Expr} {scope:Scope} {pos:Pos} {it acc:Value} {env:Env} (I:Nat→Shared→Prop)
  (turn:∀n s,I n s→wpAny (model prog w) A (pyNext it) (fun r s₁=>match r with
   | none=>R (.ok .next) s₁
   | some v=>wpAny (model prog w) A (letOwnedTupleGo target it v) (fun _ s₁'=>wpAny (model prog w) A (assign target env v) (fun _ s₂ =>
     wpAny (model prog w) A (forIn ifs true fun c r=>if r=true then do let ok ← isTrue c env (eval c env);pure (ForInStep.yield ok) else pure (ForInStep.yield r)) (fun ok s₃ =>
      if ok=true then wpAny (model prog w) A (eval elt env) (fun x s₄ =>
       wpAny (model prog w) A (call (.builtin "list.append") [acc,x]) (fun _ s₅=>∃m,m < n∧I m s₅) (fun _ _=>False) s₄) (fun _ _=>False) s₃
      else ∃m,m < n∧I m s₃) (fun _ _=>False) s₂) (fun _ _=>False) s₁') (fun _ _=>False) s₁) (fun _ _=>False) s)
  (n:Nat) (h:I n s) :
  codeAny (model prog w) A (.compLoop (.ListComp elt [⟨target,iter,ifs,0⟩] scope pos) 0 it acc env) R s:=by
 refine codeAny_loop rfl I (fun n s hI=>?_) n h
 show wpAny _ A ((compTurn (.ListComp elt [⟨target,iter,ifs,0⟩] scope pos) 0 it acc env).onRaise (fun x=>do noteFrame x env;theTreesLotGoes x)) _ _ s
 refine wpAny_noted ?_
 rw [compTurn_list]
 refine Mn (wpAny_standAt (Mn (MO (turn n s hI) (fun r s₁ h₁=>?_) fun _ _ h'=>h'.elim)))
 cases r with
 | none=>exact Mr h₁
 | some v =>
  refine Mn (MO h₁ (fun _ s₁' h₁'=>?_) fun _ _ h'=>h'.elim)
  refine Mn (MO h₁' (fun _ s₂ h₂=>Mn (MO h₂ (fun ok s₃ h₃=>?_) fun _ _ h'=>h'.elim)) fun _ _ h'=>h'.elim)
  cases ok with
  | false=>exact Mr ⟨rfl,h₃⟩
  | true =>
   exact Mn (Mn (MO h₃ (fun x s₄ h₄=>Mn (MO h₄ (fun _ s₅ h₅=>Mr (Mr ⟨rfl,h₅⟩)) fun _ _ h'=>h'.elim)) fun _ _ h'=>h'.elim))
end
def rj (nt:Nat) (ix:List Nat) (σ:St):St:=List.replicate nt none ++ ix.map fun i=>(σ[i]?).join
theorem lookup_mem {α β:Type} [BEq α] [LawfulBEq α] {l:List (α×β)} {x:α} {y:β} (h:l.lookup x=some y):(x,y)∈l:=by
 induction l with
 | nil=>simp at h
 | cons p r ih =>
  obtain⟨a,b⟩:=p
  rw [List.lookup_cons] at h
  split at h
  ·rename_i e
   have:x=a:=by simpa using e
   subst this;cases h;exact MN
  ·exact ME _ (ih h)
section
variable {X:Cx} {pins:List (Addr×Obj)} {σ:St} {H:Hp} {s:Shared} {N':List Str} {nt:Nat} {ix:List Nat} {scope:Scope}
theorem oR {x:Str} {k:NameKind} (h:(x,k)∈(relabel scope X.env).names):(x,k)∈scope.names∨((x,NameKind.free)∈scope.names∧k=.cell):=by
 unfold relabel at h
 obtain⟨⟨n,k'⟩,hm,e⟩:=M3.mp h
 dsimp only at e
 split at e
 ·rename_i hc
  cases e
  simp only [Bool.and_eq_true,beq_iff_eq] at hc
  exact .inr ⟨by rw [← hc.1.1];exact hm,rfl⟩
 ·cases e;exact .inl hm
theorem p4 (I:Inv X pins σ H s) (O:bM X N' nt ix scope) {fp:List Addr} (hf:∀b∈fp,lZ X pins H b) (hlt:∀b∈fp,b < s.heap.objs.size) {h1:Heap} {tk:Nat}
  (hns:h1.Ns s.heap.objs.size (fun _=>none)) (hsb:∀b o,s.heap.get? b=some o→h1.get? b=some o) :
  Inv (aP X N' scope s.heap.objs.size s H fp pins) [] (rj nt ix σ) H { s with heap:=h1,toks:=tk }:=by
 have cellsAt:∀x c,(gK scope.names X.env.cells []).lookup x=some c→X.env.cells.lookup x=some c:=fun x c q=>iG scope.names [] (fun y d w=>by simp at w) x c q
 have clt:∀x c,X.env.cells.lookup x=some c→c < s.heap.objs.size:=fun x c e=>let ⟨_,q⟩:=I.cell x c e;q.lt
 refine⟨⟨I.ok.mod,O.kind,I.ok.glob,I.ok.blt,Mx _,fun x y c h1 h2=>I.ok.inj x y c (cellsAt _ _ h1) (cellsAt _ _ h2),fun x hx=>?_,fun x c h=>(by cases h),I.ok.hd,I.ok.frames,.inl rfl,fun b hb=>⟨MR (hlt b hb),fun x c e=>(hf b hb).2.2.2.2.1 x c (cellsAt _ _ e)⟩,I.bs,
   M7 I.ok.bsz I.sz,fun b o e hb=>?_,fun b hb z=>?_,I.stack,I.vG⟩,
  rfl,I.bare,Un.kept hsb,⟨_,hns,fun j x v e1 e2 e3=>?_⟩,fun x c e=>?_,I.hok.fresh (Mx _),fun x c e=>I.freeC x c (cellsAt _ _ e),fun p hp=>?_,I.hok.kept hsb,?_⟩
 ·
  have hx':((relabel scope X.env).names.lookup x=some .cell∨(relabel scope X.env).names.lookup x=some .free):=hx
  have key:(x,NameKind.free)∈scope.names:=by
   rcases hx' with h | h
   ·rcases oR (lookup_mem h) with q | q
    ·exact absurd rfl (O.nocell _ q)
    ·exact q.1
   ·rcases oR (lookup_mem h) with q | q
    ·exact q
    ·exact q.1
  obtain⟨c,hc⟩:=I.ok.has x (.inl (O.free _ key rfl))
  exact Option.isSome_iff_exists.mp (mU scope.names [] x key (by rw [hc];rfl))
 ·rcases (hf b hb).2.2.2.1 with z | z
  ·exact I.ok.noex b o e z
  ·exact absurd (MD (MI (I.ok.bs b o e).1) z) (Nat.lt_irrefl _)
 ·rcases ML.mp (I.oi b z) with e | e
  ·exact (hf b hb).2.1 e
  ·exact (hf b hb).2.2.1 e
 ·
  unfold rj at e2
  by_cases hj:j < nt
  ·rw [MJ (by simpa using hj),MW] at e2
   split at e2 <;> cases e2
  ·rw [MH (by simpa using hj),Mu,List.length_replicate] at e2
   cases hi:ix[j - nt]? with
   | none=>rw [hi] at e2;cases e2
   | some i =>
    rw [hi] at e2
    have hs:σ[i]?=some (some v):=by
     simp only [Option.map_some,Option.some.injEq] at e2
     cases q:σ[i]? with
     | none=>rw [q] at e2;cases e2
     | some o=>rw [q] at e2;simp only [Option.join] at e2;rw [show o=some v from e2]
    obtain⟨y,n1,n2,n3,n4⟩:=O.caps (j - nt) i hi
    have hjj:nt + (j - nt)=j:=by omega
    rw [hjj] at n1
    have e1':N'[j]?=some x:=e1
    rw [n1] at e1';cases e1'
    obtain⟨m,hn,hl⟩:=I.loc
    have hk:X.env.scope.names.lookup x=some .cell:=O.free _ n3 rfl
    obtain⟨u,r,l⟩:=hl i x v n2 hs (.inr (.inl hk))
    refine⟨u,r,?_⟩
    rcases l with ⟨k,_⟩ | ⟨_,c,ec,z⟩
    ·have k':X.env.scope.names.lookup x=some .local:=k
     rw [hk] at k';cases k'
    ·have hc2:=Option.isSome_iff_exists.mp (mU (cells:=X.env.cells) scope.names [] x n3 (by rw [ec];rfl))
     obtain⟨c2,hc2⟩:=hc2
     have:=cellsAt x c2 hc2
     rw [ec] at this;cases this
     exact .inr ⟨.inl n4,c,hc2,z.keeps hsb⟩
 ·obtain⟨v,z⟩:=I.cell x c (cellsAt _ _ e)
  exact⟨v,z.keeps hsb⟩
 ·rw [MV] at hp
  obtain⟨e,n,ne,nf,d⟩:=I.pin p hp
  refine⟨hsb _ _ e,n,MR (MI e),fun z=>?_,d⟩
  rcases ML.mp (I.oi p.1 z) with q | q
  ·exact ne q
  ·exact nf q
 ·unfold rj
  show _=N'.length
  rw [O.len,MS,List.length_replicate,MB]
theorem xP (I:Inv X pins σ H s) {fp:List Addr} (hf:∀b∈fp,lZ X pins H b) {σ':St} {H':Hp} {s':Shared} (J:Inv (aP X N' scope s.heap.objs.size s H fp pins) [] σ' H' s') {h':Heap} (hs:Heap.SameBut s.heap.objs.size s'.heap h') :
  Inv X pins σ H' { s' with heap:=h' }:=by
 have ne:∀b o,s.heap.get? b=some o→b≠s.heap.objs.size:=fun b o e=>MR (MI e)
 have jb:=J.base
 refine I.BW (ch:=fp) J.os ⟨fun b o e n h1 h2=>(hs.2 b (ne b o e)).trans (jb.keep b o e n h1 h2),fun b o e n h1 h2=>?_,jb.free,fun b o e h2=>?_,jb.tups,jb.frzs,jb.tbls⟩ (fun b o e=>?_) J.bare fun b hb=>?_
 ·obtain⟨sl,q⟩:=jb.slot b o e n h1 h2
  exact⟨sl,(hs.2 b (ne b o e)).trans q⟩
 ·obtain⟨o',q⟩:=jb.there b o e h2
  exact⟨o',(hs.2 b (ne b o e)).trans q⟩
 ·have jf:H' s.heap.objs.size=none:=J.free
  refine (J.hok b o e).pX (fun c u hc q=>(hs.2 c ?_).trans q) (fun _ q=>q) fun _ _ q=>q
  intro z
  subst z
  rcases hc with z | z
  ·rw [← z,jf] at e;cases e
  ·rw [jf] at z;cases z
 ·obtain⟨f0,f1,f2,f3,f4,f5⟩:=hf b hb
  exact⟨f3,f1,f4,f5⟩
end
end L2.L3
namespace L2.L3
open PySem PySem.Spec PyProof.Rows
def xR (X:Cx) (ifs:List Expr):TT:=fun σ H Q=>∀(pins:List (Addr×Obj)) (s:Shared),Inv X pins σ H s →
 wpAny (model X.prog X.w) X.A (forIn ifs true fun c r=>if r=true then do let ok ← isTrue c X.env (eval c X.env);pure (ForInStep.yield ok) else pure (ForInStep.yield r)) (TP X pins σ Q) (fun _ _=>False) s
def Gs (X:Cx) (N':List Str) (nt:Nat) (ix:List Nat) (scope:Scope) (elt target:Expr) (ifs:List Expr) (wi:TI):TE:=fun σ H Q=>wi σ H fun J H1=>∀(a C:Addr) (s:Shared) (fp:List Addr) (pins:List (Addr×Obj)),H1 a=none →
 ∃W:Nat→Nat→St→Hp→Prop,(∃m,W 0 m (rj nt ix σ) (upd H1 a (.lst [])))∧∀i m σ' H',W i m σ' H'→(J.stop i H'∧Q (.ref a) H')∨(J.go i H'∧∀x H2,J.yld i H' x H2 →
  wG (aP X N' scope C s (upd H1 a (.lst [])) fp pins) target x σ' H2 fun σ2 H3=>xR (aP X N' scope C s (upd H1 a (.lst [])) fp pins) ifs σ2 H3 fun ok H4=>if ok=true then
   wE (aP X N' scope C s (upd H1 a (.lst [])) fp pins) elt σ2 H4 fun y H5=>∃ys,H5 a=some (.lst ys)∧ys.length < sizeLine∧∃m',m' < m∧W (i + 1) m' σ2 (upd H5 a (.lst (ys ++ [y])))
   else ∃m',m' < m∧W (i + 1) m' σ2 H4)
section
variable {X:Cx} {N':List Str} {nt:Nat} {ix:List Nat} {scope:Scope}
theorem bM.G6 {pins:List (Addr×Obj)} {σ:St} {H:Hp} {s:Shared} (O:bM X N' nt ix scope) (I:Inv X pins σ H s):closureFor scope X.env=pure (gK scope.names X.env.cells []) :=
 rO fun y hy hk=>I.ok.has y.1 (.inl (O.free y hy hk))
theorem wm {elt target iter:Expr} {ifs:List Expr} {pos:Pos} {pins:List (Addr×Obj)} {σ:St} {s2:Shared} {Q:VK} {R:It→Hp→Prop} {itv:Value} {RR:Value→Addr→Result→Shared→Prop} (hc:X.calm=true) (O:bM X N' nt ix scope)
  (h2:JP X pins σ target R itv s2)
  (hR:∀J H1,R J H1→∀(a C:Addr) (s:Shared) (fp:List Addr) (pins:List (Addr×Obj)),H1 a=none →
   ∃W:Nat→Nat→St→Hp→Prop,(∃m,W 0 m (rj nt ix σ) (upd H1 a (.lst [])))∧∀i m σ' H',W i m σ' H'→(J.stop i H'∧Q (.ref a) H')∨(J.go i H'∧∀x H2,J.yld i H' x H2 →
    wG (aP X N' scope C s (upd H1 a (.lst [])) fp pins) target x σ' H2 fun σ2 H3=>xR (aP X N' scope C s (upd H1 a (.lst [])) fp pins) ifs σ2 H3 fun ok H4=>if ok=true then
     wE (aP X N' scope C s (upd H1 a (.lst [])) fp pins) elt σ2 H4 fun y H5=>∃ys,H5 a=some (.lst ys)∧ys.length < sizeLine∧∃m',m' < m∧W (i + 1) m' σ2 (upd H5 a (.lst (ys ++ [y])))
     else ∃m',m' < m∧W (i + 1) m' σ2 H4))
  (hRR:∀(a C:Addr) (H':Hp) (s6:Shared) (m:Str→Option Value),Q (.ref a) H'→s6.heap.Ns C m→H' C=none→C≠X.env.locals→X.s₀.heap.objs.size≤C→(∀x c,X.env.cells.lookup x=some c→c≠C)→(∀p∈X.pn ++ pins,p.1≠C) →
   (∀h',Heap.SameBut C s6.heap h'→Inv X pins σ H' { s6 with heap:=h' })→RR (.ref a) C (.ok .next) s6) :
  wpAny (model X.prog X.w) X.A (newList []) (fun acc s3=>wpAny (model X.prog X.w) X.A (newFunctionEnv scope X.env.globals (gK scope.names X.env.cells []) [] X.env.qual none .none (some X.env)) (fun cenv s4 =>
   codeAny (model X.prog X.w) X.A (.compStart (.ListComp elt [⟨target,iter,ifs,0⟩] scope pos) 0 itv acc { cenv with scope:=relabel scope X.env }) (RR acc cenv.locals) s4) X.xe s3) X.xe s2:=by
 obtain⟨it,fp,tn,J,H2,e,I2,T,st2,f2,hq0⟩:=h2
 have hq:=hR J H2 hq0
 subst e
 have hlt2:∀b∈fp,b < s2.heap.objs.size:=fun b hb=>let ⟨o,e,_⟩:=T.obj _ _ st2 b hb;MI e
 refine wpAny_newObj_type ?_
 generalize hs3:({ s2 with heap:=s2.heap.push { cls:=.type "list",dict:=none,data:=.seq ([]:List Value).toArray } }:Shared)=s3
 have k3:∀b o,s2.heap.get? b=some o→s3.heap.get? b=some o:=fun b o e=>by rw [← hs3];exact Mz _ e
 have ha:H2 s2.heap.objs.size=none:=I2.hok.fresh (Mx _)
 have I3:Inv X pins σ (upd H2 s2.heap.objs.size (.lst [])) s3:=by
  rw [← hs3]
  exact I2.laid (t':=s2.toks) (fun b u e=>Mz _ e) (Mx _) ⟨MX _,[],0,.nil,MM _ rfl⟩
 have f3:∀b∈fp,lZ X pins (upd H2 s2.heap.objs.size (.lst [])) b:=fun b hb=>⟨by rw [aC (MR (hlt2 b hb))];exact (f2 b hb).1,(f2 b hb).2⟩
 have st3:tn 0 s3.heap:=T.keep _ _ _ st2 fun b hb o e=>k3 b o e
 have hlt3:∀b∈fp,b < s3.heap.objs.size:=fun b hb=>let ⟨o,e,_⟩:=T.obj _ _ st3 b hb;MI e
 refine wpAny_newFunctionEnv O.nocell (by intro y hy;simp at hy) (fun h1 hns hsb=>?_) O.kind
 have k4:∀b o,s3.heap.get? b=some o→h1.get? b=some o:=fun b o e=>(hsb.2 b (MR (MI e))).trans (Mz _ e)
 have I4:=p4 (tk:=s3.toks + ([]:List (Str×Value)).length) I3 O f3 hlt3 hns k4
 have st4:tn 0 h1:=T.keep _ _ _ st3 fun b hb o e=>k4 b o e
 obtain⟨W,⟨m0,w0⟩,turn⟩:=hq s2.heap.objs.size s3.heap.objs.size s3 fp pins ha
 have fr3:∀b∈fp,(upd H2 s2.heap.objs.size (.lst [])) b=none:=fun b hb=>(f3 b hb).1
 have stat:∀{H':Hp},(∀b∈fp,H' b=none)→∀b∈fp,lZ (aP X N' scope s3.heap.objs.size s3 (upd H2 s2.heap.objs.size (.lst [])) fp pins) [] H' b:=fun {H'} hn b hb=>by
  refine⟨hn b hb,MR (hlt3 b hb),fun z=>?_,.inl hb,fun x c e=>(f3 b hb).2.2.2.2.1 x c (iG scope.names [] (fun y d w=>by simp at w) x c e),fun p hp=>?_⟩
  ·rcases ML.mp (I3.oi b z) with q | q
   ·exact (f3 b hb).2.1 q
   ·exact (f3 b hb).2.2.1 q
  ·rw [MV] at hp
   exact (f3 b hb).2.2.2.2.2 p hp
 generalize hX:aP X N' scope s3.heap.objs.size s3 (upd H2 s2.heap.objs.size (.lst [])) fp pins=X' at I4 turn stat
 have eP:X'.prog=X.prog:=by rw [← hX];rfl
 have eW:X'.w=X.w:=by rw [← hX];rfl
 have eK:X'.K=X.K:=by rw [← hX];rfl
 have eA:X'.A=X.A:=by rw [← hX];rfl
 have eC:X'.calm=true:=by rw [← hX];exact hc
 have eE:X'.env=compEnvC scope (gK scope.names X.env.cells []) s3.heap.objs.size X.env:=by rw [← hX];rfl
 have eX:X'.xe=fun _ _=>False:=by rw [← hX];rfl
 have loop:codeAny (model X.prog X.w) X.A (.compLoop (.ListComp elt [⟨target,iter,ifs,0⟩] scope pos) 0 (.ref it) (.ref s2.heap.objs.size) (compEnvC scope (gK scope.names X.env.cells []) s3.heap.objs.size X.env))
   (RR (.ref s2.heap.objs.size) s3.heap.objs.size) { s3 with heap:=h1,toks:=s3.toks + ([]:List (Str×Value)).length }:=by
  refine uP (fun n s'=>∃i σ' H',Inv X' [] σ' H' s'∧tn i s'.heap∧(∀b∈fp,H' b=none)∧W i n σ' H') ?_ m0 ⟨0,_,_,I4,st4,fr3,w0⟩
  rintro n s5 ⟨i,σ5,H5,I5,st5,fr5,w5⟩
  rcases turn i n σ5 H5 w5 with ⟨stop,q⟩ | ⟨go,step⟩
  ·have:=T.done X' eP eW eK eC i [] s5 σ5 H5 (fun _ _=>False) I5 (stat fr5) st5 stop
   rw [eA] at this
   refine bH this fun r s6 ⟨hr,I6⟩=>?_
   subst hr
   obtain⟨m,hm,_⟩:=id I6.loc
   rw [eE] at hm
   have fre:H5 s3.heap.objs.size=none:=by have z:=I6.free;rw [eE] at z;exact z
   refine hRR _ _ H5 s6 m q hm fre (Nat.ne_of_gt I3.lt) I3.sz (fun x c e z=>?_) (fun p hp z=>?_) fun h' hsb'=>?_
   ·obtain⟨v,w⟩:=I3.cell x c e
    exact absurd w.lt (by rw [z];exact Nat.lt_irrefl _)
   ·exact absurd (MI (I3.pin p hp).1) (by rw [z];exact Nat.lt_irrefl _)
   ·rw [← hX] at I6
    exact xP I3 f3 I6 hsb'
  ·have:=T.item X' eP eW eK eC i [] s5 σ5 H5 (fun _ _=>False) I5 (stat fr5) st5 go
   rw [eA] at this
   refine bH this fun r s6 ⟨u,hr,h6⟩=>?_
   subst hr
   refine bH h6 fun _ s7 hq0=>?_
   obtain⟨x,H7,I7,r7,y7,st7,fr7⟩:=hq0
   have I7':=I7.pinned (stat fr7) (T.obj _ _ st7)
   have g7:=step x H7 y7 _ s7 u I7' r7
   rw [eP,eW,eA,eE,eX] at g7
   refine bH g7 fun _ s8 ⟨σ8,H8,I8,q8⟩=>?_
   have t8:=q8 _ s8 I8
   rw [eP,eW,eA,eE] at t8
   refine bH t8 fun ok s9 ⟨H9,I9,q9⟩=>?_
   have back:∀{σz:St} {Hz:Hp} {sz:Shared} {m':Nat},Inv X' ([] ++ n5 fp s7.heap) σz Hz sz→m' < n→W (i + 1) m' σz Hz→∃m,m < n∧∃i σ' H',Inv X' [] σ' H' sz∧tn i sz.heap∧(∀b∈fp,H' b=none)∧W i m σ' H':=fun {σz Hz sz m'} Iz hm wz=>by
    refine⟨m',hm,i + 1,σz,Hz,Iz.kf,T.keep _ _ _ st7 fun b hb o e=>(Iz.pin (b,o) (List.mem_append_right _ (List.mem_append_right _ (ft hb e)))).1,fun b hb=>?_,wz⟩
    obtain⟨o,e,d⟩:=T.obj _ _ st7 b hb
    exact (Iz.pin (b,o) (List.mem_append_right _ (List.mem_append_right _ (ft hb e)))).2.1
   cases ok with
   | false =>
    obtain⟨m',hm,w9⟩:=q9
    exact back I9 hm w9
   | true =>
    have e9:=q9 _ s9 I9
    rw [eP,eW,eA,eE,eX] at e9
    refine bH e9 fun uy s10 hq0=>?_
    obtain⟨y,H10,I10,r10,ys,hys,hl,m',hm,w10⟩:=hq0
    have ap:=sV (X:=X') _ s10 σ8 H10 (.ref s2.heap.objs.size) [y] (.ref s2.heap.objs.size) [uy] (fun _ H'=>H'=upd H10 s2.heap.objs.size (.lst (ys ++ [y]))) I10 rfl (.cons r10 .nil) ⟨_,ys,y,rfl,rfl,hys,hl,rfl⟩
    rw [eP,eW,eA,eX] at ap
    refine bH ap fun _ s11 hq0=>?_
    obtain⟨_,H11,I11,_,q11⟩:=hq0
    have q11':H11=upd H10 s2.heap.objs.size (.lst (ys ++ [y])):=q11
    subst q11'
    exact back I11 hm w10
 exact codeAny_compStart_list loop (T.self _ _ _ _ _ st4 loop)
theorem Am {elt target iter:Expr} {ifs:List Expr} {pos:Pos} {wi:TI} (hc:X.calm=true) (hi:PI X target iter wi) (O:bM X N' nt ix scope) (hs:∀x,foldedSetIterable iter X.env x=pure x:=by intro _;rfl) :
  PE X (.ListComp elt [⟨target,iter,ifs,0⟩] scope pos) (Gs X N' nt ix scope elt target ifs wi):=by
 intro pins s σ H Q I h
 rw [eval_ListComp]
 refine wpAny_comprehension_free (use:=none) rfl hs (O.G6 I) O.kind O.names ?_
 refine bH (hi pins s σ H _ I h) fun v s1 h1=>bH h1 fun itv s2 h2=>?_
 refine wm (Q:=Q) (RR:=fun acc C=>compPost (model X.prog X.w) X.A X.xe none (EP X pins σ Q) acc C) hc O h2 (fun J H1 z=>z) ?_
 intro a C H' s6 m q hm _ _ _ _ _ hI
 exact⟨m,hm,fun h' hsb=>⟨.ref a,H',hI h' hsb,rfl,q⟩⟩
theorem qt {elt target iter:Expr} {ifs:List Expr} {pos spos py:Pos} {y:Str} {i:Nat} {wi:TI} (hc:X.calm=true) (hi:PI X target iter wi) (O:bM X N' nt ix scope) (hN:X.N.Nodup) (hy:X.N[i]?=some y) (hx:Loc X.env.scope y)
  (hsw:swapsWith (.ListComp elt [⟨target,iter,ifs,0⟩] scope pos) (some (.Name y py)) spos.line X.env=pure true)
  (hf:X.fn y=true∨X.env.scope.names.lookup y=some .local) (hs:∀x,foldedSetIterable iter X.env x=pure x:=by intro _;rfl) :
  PS X (.Assign [.Name y py] (.ListComp elt [⟨target,iter,ifs,0⟩] scope pos) spos) (fun D=>fun σ H=>Gs X N' nt ix scope elt target ifs wi σ H fun v H'=>D.nx (σ.set i (some v)) H'):=by
 intro pins s σ H D I h
 rw [exec_Assign_Name_used _ _ _ _ hsw]
 refine Mn (wpAny_standAt (Mn ?_))
 show wpAny _ X.A (do let _ ← comprehension (.ListComp elt [⟨target,iter,ifs,0⟩] scope pos) scope X.env _ (newList []) false (eval iter X.env) (some (assign (.Name y py) X.env))) _ _ s
 refine Mn (MO (wpAny_comprehension_free (use:=some (assign (.Name y py) X.env)) (Q:=fun _ s'=>SP X pins D .next s') rfl hs (O.G6 I) O.kind O.names ?_) (fun _ s' hq=>Mr (Mr hq)) fun _ _ e=>e)
 refine bH (hi pins s σ H _ I h) fun v s1 h1=>bH h1 fun itv s2 h2=>?_
 refine wm (Q:=fun v H'=>D.nx (σ.set i (some v)) H') (RR:=fun acc C=>compPost (model X.prog X.w) X.A X.xe (some (assign (.Name y py) X.env)) (fun _ s'=>SP X pins D .next s') acc C) hc O h2 (fun J H1 z=>z) ?_
 intro a C H' s6 m q hm hC n1 n2 n3 n4 hI
 have I6:Inv X pins σ H' s6:=hI s6.heap (.refl ..)
 show wpAny _ X.A (assign (.Name y py) X.env (.ref a)) _ _ _
 refine wpAny_assign_Name (sN I6 hN hy hx (v:=.ref a) rfl (fun s7 I7 hsame=>?_) hf)
 obtain⟨b,hb,hbx⟩:=hsame
 have hne:C≠b:=by
  rcases hbx with e | e
  ·rw [e];exact n1
  ·exact Ne.symm (n3 y b e)
 refine⟨m,hm.sameBut hb hne,fun h' hsb=>⟨_,H',?_,q⟩⟩
 exact I7.turned (t':=s7.toks) (fun c o hc' e=>(hsb.2 c hc').trans e) hC n1 (.inr n2) n3 n4
end
end L2.L3
namespace L2.L3
open PySem PySem.Spec PyProof.Rows
def cb (nt:Nat) (ix:List Nat) (env:En):En:=List.replicate nt none ++ ix.map fun i=>match env[i]? with
 | some (some (.d x))=>some (.d x)
 | _=>none
theorem cp {nt:Nat} {ix:List Nat} {env:En} (i:Nat) (ys:List D):(cb nt ix env)[i]?≠some (some (.own ys)):=fun q=>by
 unfold cb at q
 by_cases hj:i < nt
 ·rw [MJ (by simpa using hj),MW] at q
  split at q <;> cases q
 ·rw [MH (by simpa using hj),Mu] at q
  cases e:ix[i - (List.replicate nt (none:Option Lo)).length]? with
  | none=>rw [e] at q;cases q
  | some k =>
   rw [e] at q
   simp only [Option.map_some,Option.some.injEq] at q
   split at q <;> cases q
theorem cu {nt:Nat} {ix:List Nat} {env:En} (i:Nat) (ys:List (D×D)):(cb nt ix env)[i]?≠some (some (.dic ys)):=fun q=>by
 unfold cb at q
 by_cases hj:i < nt
 ·rw [MJ (by simpa using hj),MW] at q
  split at q <;> cases q
 ·rw [MH (by simpa using hj),Mu] at q
  cases e:ix[i - (List.replicate nt (none:Option Lo)).length]? with
  | none=>rw [e] at q;cases q
  | some k =>
   rw [e] at q
   simp only [Option.map_some,Option.some.injEq] at q
   split at q <;> cases q
def Base.here (F H:Hp):Base:=⟨F,H,fun p=>H p≠none∧F p=none,fun _ h=>h.1⟩
theorem zE {K:PySem.W.Frag} {B:Base} {F H:Hp} {σ:St} {env:En} {nt:Nat} {ix:List Nat} {a:Addr} {o:HO} (r:Rep K B F H σ env) (ha:H a=none):Rep K (Base.here F H) F (upd H a o) (rj nt ix σ) (cb nt ix env):=by
 refine⟨ar.refl _,r.fh.trans (cB ha),cB ha,fun p h=>h.2,fun j x q=>?_,fun j ys q=>(cp j ys q).elim,fun i j xs ys p _ q=>(cp i xs q).elim,fun j ys q=>(cu j ys q).elim,fun i j xs ys p _ q=>(cu i xs q).elim⟩
 unfold cb at q
 by_cases hj:j < nt
 ·rw [MJ (by simpa using hj),MW] at q
  split at q <;> cases q
 ·rw [MH (by simpa using hj),Mu,List.length_replicate] at q
  cases e:ix[j - nt]? with
  | none=>rw [e] at q;cases q
  | some k =>
   rw [e] at q
   simp only [Option.map_some,Option.some.injEq] at q
   split at q
   ·rename_i x' h'
    cases q
    obtain⟨v,h1,h2⟩:=r.dv k x h'
    refine⟨v,?_,h2⟩
    unfold rj
    rw [MH (by simpa using hj),Mu,List.length_replicate,e]
    simp only [Option.map_some,h1,Option.join]
    rfl
   ·cases q
theorem Rep.here {K:PySem.W.Frag} {B:Base} {F H:Hp} {σ:St} {env:En} (r:Rep K B F H σ env) (no:∀(i:Nat) ys,env[i]?≠some (some (.own ys))) (no':∀(i:Nat) ys,env[i]?≠some (some (.dic ys))):Rep K (Base.here F H) F H σ env :=
 ⟨ar.refl _,r.fh,ar.refl _,fun p h=>h.2,r.dv,fun i ys q=>(no i ys q).elim,fun i j xs ys p _ q=>(no i xs q).elim,fun i ys q=>(no' i ys q).elim,fun i j xs ys p _ q=>(no' i xs q).elim⟩
theorem Rep.there {K:PySem.W.Frag} {B:Base} {F H F' H':Hp} {σ:St} {env fS:En} (r:Rep K (Base.here F H) F' H' σ env) (f0:ar B.F F) (h0:ar B.H H) (nf:∀p,B.N p→F p=none) (he:∀(i:Nat) l,fS[i]?=some (some l)→env[i]?=some (some l)) (no:∀(i:Nat) ys,fS[i]?≠some (some (.own ys))) (no':∀(i:Nat) ys,fS[i]?≠some (some (.dic ys))):Rep K B F' H' σ fS:=by
 refine⟨f0.trans r.f0,r.fh,h0.trans r.h0,fun p hp=>?_,fun i x q=>r.dv i x (he i _ q),fun i ys q=>(no i ys q).elim,fun i j xs ys p _ q=>(no i xs q).elim,fun i ys q=>(no' i ys q).elim,fun i j xs ys p _ q=>(no' i xs q).elim⟩
 refine r.nf p ⟨fun z=>?_,nf p hp⟩
 have q:=B.nb p hp
 cases w:B.H p with
 | none=>exact q w
 | some o=>rw [h0 _ _ w] at z;cases z
structure tQ (K:PySem.W.Frag) (J:It) (F1:Hp) (xs:List D):Prop where
 go:∀(i:Nat) (G H':Hp),ar F1 G→ar G H'→i < xs.length→J.go i H'
 yld:∀(i:Nat) (G H':Hp) (y:V) (H'':Hp) (x:D),ar F1 G→ar G H'→xs[i]?=some x→J.yld i H' y H''→H''=H'∧Den K G x y
 stop:∀(G H':Hp),ar F1 G→ar G H'→J.stop xs.length H'
theorem y6 {K:PySem.W.Frag} {F1:Hp} {a:Addr} {vs:List V} {xs:List D} (q:fL K F1 a vs) (r:aq K F1 xs vs):tQ K (Kx K a) F1 xs where
 go:=fun i G H' s1 s2 hi=>by
  have:i < vs.length:=by rw [← r.length];exact hi
  exact⟨vs,vs[i],s2.seq (s1.seq q),by simp [this]⟩
 yld:=fun i G H' y H'' x s1 s2 hx hy=>by
  obtain⟨v,h1,h2⟩:=r.get hx
  obtain⟨e1,e2⟩:=hy
  have:=e2 vs (s2.seq (s1.seq q))
  rw [h1] at this;cases this
  exact⟨e1,Den.mono s1 _ _ h2⟩
 stop:=fun G H' s1 s2=>⟨vs,s2.seq (s1.seq q),by rw [r.length];exact Mx _⟩
theorem AW {K:PySem.W.Frag} {F1:Hp} {a:Addr} {vs:List V} {xs:List D} (q:jv K F1 a vs) (r:aq K F1 xs vs):tQ K (Kw K a) F1 xs where
 go:=fun i G H' s1 s2 hi=>by
  have:i < vs.length:=by rw [← r.length];exact hi
  exact⟨vs,vs[i],ar.cm s2 (ar.cm s1 q),by simp [this]⟩
 yld:=fun i G H' y H'' x s1 s2 hx hy=>by
  obtain⟨v,h1,h2⟩:=r.get hx
  obtain⟨e1,e2⟩:=hy
  have:=e2 vs (ar.cm s2 (ar.cm s1 q))
  rw [h1] at this;cases this
  exact⟨e1,Den.mono s1 _ _ h2⟩
 stop:=fun G H' s1 s2=>⟨vs,ar.cm s2 (ar.cm s1 q),by rw [r.length];exact Mx _⟩
theorem AF {K:PySem.W.Frag} {F1:Hp} {z:Str}:tQ K (JT z) F1 (dq z) where
 go:=fun i G H' s1 s2 hi=>by
  show i < z.cps.size
  simpa [dq] using hi
 yld:=fun i G H' y H'' x s1 s2 hx hy=>by
  obtain⟨e1,c,hc,rfl⟩:=hy
  unfold dq at hx
  rw [Mu,Array.getElem?_toList,hc] at hx
  cases hx
  exact⟨e1,hW⟩
 stop:=fun G H' s1 s2=>by
  show z.cps.size≤_
  simp [dq]
theorem jN {K:PySem.W.Frag} {F1:Hp} {lo:Int} {n:Nat}:tQ K (Gz lo n) F1 (a9 lo n) where
 go:=fun i G H' s1 s2 hi=>by
  have:i < n:=by simpa [a9] using hi
  exact this
 yld:=fun i G H' y H'' x s1 s2 hx hy=>by
  obtain⟨e1,e2⟩:=hy
  have hi:i < n:=by
   have:=(Mo.mp hx).1
   simpa [a9] using this
  have:(a9 lo n)[i]?=some (D.int (lo + (i:Int))):=by simp [a9,hi]
  rw [this] at hx;cases hx
  exact⟨e1,by rw [e2];exact bo⟩
 stop:=fun G H' s1 s2=>by
  have:(a9 lo n).length=n:=by simp [a9]
  rw [this];exact Mx n
def comps (tt:TB) (te:TD) (fS:En) (Q:List D→Prop):List D→List D→Prop
 | [],acc=>Q acc
 | x :: xs,acc=>tt (fS.set 0 (some (.d x))) fun ok=>if ok=true then te (fS.set 0 (some (.d x))) fun y=>acc.length < sizeLine∧comps tt te fS Q xs (acc ++ [y]) else comps tt te fS Q xs acc
structure rS (X:Cx) (ifs:List Expr) (t:TB):Prop where
 of ::
 run:∀(B:Base) (σ:St) (F H:Hp) (env:En) (Q:Bool→Prop),Rep X.K B F H σ env→t env Q→xR X ifs σ H (RB X B σ env F Q)
instance {X:Cx} {ifs:List Expr} {t:TB}:CoeFun (rS X ifs t) (fun _=>∀(B:Base) (σ:St) (F H:Hp) (env:En) (Q:Bool→Prop),Rep X.K B F H σ env→t env Q→xR X ifs σ H (RB X B σ env F Q)):=⟨rS.run⟩
def cJ:TB:=fun _ Q=>Q true
section
variable {X:Cx}
theorem cV:rS X [] cJ:=⟨fun B σ F H env Q rp h pins s I=>wpAny_tests_nil ⟨H,I,F,rp,ar.refl _,h⟩⟩
variable {N':List Str} {nt:Nat} {ix:List Nat} {scope:Scope} {elt iter a b:Expr} {ifs:List Expr} {x:Str} {px pos:Pos} {tt:TB} {te ti:TD} {ts:eQ}
theorem kF (hN:N'.Nodup) (h0:N'[0]?=some x) (hx:(relabel scope X.env).names.lookup x=some .local)
  (ht:∀C s H fp pins,rS (aP X N' scope C s H fp pins) ifs tt) (he:∀C s H fp pins,QE (aP X N' scope C s H fp pins) elt te)
  {B:Base} {σ:St} {F F1 H1:Hp} {env:En} {Q:List D→Prop} {J:It} {xs:List D} (sF:ar F F1) (r1:Rep X.K B F1 H1 σ env) (S:tQ X.K J F1 xs) (q1:comps tt te (cb 1 ix env) Q xs []) :
  ∀(a C:Addr) (s:Shared) (fp:List Addr) (pins:List (Addr×Obj)),H1 a=none →
   ∃W:Nat→Nat→St→Hp→Prop,(∃m,W 0 m (rj 1 ix σ) (upd H1 a (.lst [])))∧∀i m σ' H',W i m σ' H'→(J.stop i H'∧RF X B σ env F Q (.ref a) H')∨(J.go i H'∧∀y H2,J.yld i H' y H2 →
    wG (aP X N' scope C s (upd H1 a (.lst [])) fp pins) (.Name x px) y σ' H2 fun σ2 H3=>xR (aP X N' scope C s (upd H1 a (.lst [])) fp pins) ifs σ2 H3 fun ok H4=>if ok=true then
     wE (aP X N' scope C s (upd H1 a (.lst [])) fp pins) elt σ2 H4 fun y H5=>∃ys,H5 a=some (.lst ys)∧ys.length < sizeLine∧∃m',m' < m∧W (i + 1) m' σ2 (upd H5 a (.lst (ys ++ [y])))
     else ∃m',m' < m∧W (i + 1) m' σ2 H4):=by
 intro a C s fp pins ha
 have hF1a:F1 a=none:=r1.oE ha
 refine⟨fun i m σ' H'=>m=xs.length - i∧i≤xs.length∧∃(F':Hp) (acc:List D) (ys:List V),Rep X.K (Base.here F1 H1) F' H' σ' (cb 1 ix env)∧H' a=some (.lst ys)∧F' a=none∧aq X.K F' acc ys∧comps tt te (cb 1 ix env) Q (xs.drop i) acc,
  ⟨xs.length,by simp,MX _,F1,[],[],zE r1 ha,aG,hF1a,aU,by simpa using q1⟩,?_⟩
 rintro i m σ2 H2 ⟨rfl,hi2,F2,acc,ys,r2,hys,hFa,hd,q2⟩
 have sH:ar H1 H2:=r2.h0
 by_cases hlt:i < xs.length
 ·have hxi:xs[i]?=some xs[i]:=by simp [hlt]
  rw [drop_cons hxi] at q2
  refine .inr ⟨S.go i F2 H2 r2.f0 r2.fh hlt,fun y H3 hy=>?_⟩
  obtain⟨eH,dy⟩:=S.yld i F2 H2 y H3 xs[i] r2.f0 r2.fh hxi hy
  subst eH
  have r2':=r2.here cp cu
  have g:=aD (X:=aP X N' scope C s (upd H1 a (.lst [])) fp pins) (pos:=px) 0 hN h0 (.inl hx) (.inr hx)
  refine gT (g (Base.here F2 H3) σ2 F2 H3 (cb 1 ix env) (fun e=>e=(cb 1 ix env).set 0 (some (.d xs[i]))) xs[i] y r2' dy rfl) fun σ3 H4 hq0=>?_
  obtain⟨F4,env4,r4,s4,q4⟩:=hq0
  subst q4
  intro pins' s' I'
  refine MO (ht C s (upd H1 a (.lst [])) fp pins (Base.here F2 H3) σ3 F4 H4 _ _ r4 q2 pins' s' I') (fun ok s5 ⟨H5,I5,F5,r5,s5',q5⟩=>⟨H5,I5,?_⟩) fun _ _ e=>e
  have weak':∀(j:Nat) l,(cb 1 ix env)[j]?=some (some l)→((cb 1 ix env).set 0 (some (.d xs[i])))[j]?=some (some l):=fun j l hj=>by
   have hj0:j≠0:=fun z=>by
    subst z
    simp [cb] at hj
   rw [Mp (Ne.symm hj0)];exact hj
  cases ok with
  | false =>
   have q5':comps tt te (cb 1 ix env) Q (xs.drop (i + 1)) acc:=q5
   refine⟨xs.length - (i + 1),by omega,rfl,by omega,F5,acc,ys,r5.there r2.f0 sH (fun p hp=>r2.nf p hp) weak' cp cu,r5.h0 _ _ hys,r5.nf a ⟨by rw [hys];simp,hFa⟩,aq.mono r5.f0 _ _ hd,q5'⟩
  | true =>
   have q5':te ((cb 1 ix env).set 0 (some (.d xs[i]))) fun y=>acc.length < sizeLine∧comps tt te (cb 1 ix env) Q (xs.drop (i + 1)) (acc ++ [y]):=q5
   refine aA (he C s (upd H1 a (.lst [])) fp pins (Base.here F2 H3) σ3 F5 H5 _ _ r5 q5') fun z H6 hq0=>?_
   obtain⟨F6,d,r6,s6,d6,hl,q6⟩:=hq0
   have ha6:H6 a=some (.lst ys):=r6.h0 _ _ hys
   have hF6:F6 a=none:=r6.nf a ⟨by rw [hys];simp,hFa⟩
   refine⟨ys,ha6,by rw [← hd.length];exact hl,xs.length - (i + 1),by omega,rfl,by omega,F6,acc ++ [d],ys ++ [z],?_,aG,hF6,(aq.mono r6.f0 _ _ hd).append (aO d6 aU),q6⟩
   have r7:Rep X.K (Base.here F1 H1) F6 H6 σ3 (cb 1 ix env):=r6.there r2.f0 sH (fun p hp=>r2.nf p hp) weak' cp cu
   refine⟨r7.f0,fun b o hb=>?_,fun b o hb=>?_,r7.nf,r7.dv,fun j zs q=>(cp j zs q).elim,r7.ne,fun j zs q=>(cu j zs q).elim,r7.nm⟩
   ·have:b≠a:=fun w=>by subst w;rw [hF6] at hb;cases hb
    rw [aC this];exact r7.fh _ _ hb
   ·have:b≠a:=fun w=>by subst w;have hb':H1 b=some o:=hb;rw [ha] at hb';cases hb'
    rw [aC this];exact r7.h0 _ _ hb
 ·have e:i=xs.length:=by omega
  subst e
  rw [M6 (Mx _)] at q2
  refine .inl ⟨S.stop F2 H2 r2.f0 r2.fh,F2,fun b=>if b=a then none else H2 b,a,ys,acc,rfl,Mw rfl,?_,?_,sF.trans r2.f0,hd,q2⟩
  ·funext b
   unfold upd
   by_cases z:b=a
   ·rw [Mw z,z];exact hys
   ·rw [Ms z]
    show H2 b=if b=a then none else H2 b
    rw [Ms z]
  ·refine r1.ext r2.f0 (fun b o hb=>?_) (fun b o hb=>?_) fun p h1 h2=>r2.nf p ⟨h1,h2⟩
   ·have:b≠a:=fun w=>by subst w;rw [hFa] at hb;cases hb
    show (if b=a then none else H2 b)=_
    rw [Ms this];exact r2.fh _ _ hb
   ·have:b≠a:=fun w=>by subst w;rw [ha] at hb;cases hb
    show (if b=a then none else H2 b)=_
    rw [Ms this];exact sH _ _ hb
theorem RF.rv {B:Base} {σ:St} {env:En} {F:Hp} {Q:D→Prop} {v:V} {H:Hp} (h:RF X B σ env F (fun ds=>Q (.lst ds)) v H):RV X B σ env F Q v H:=by
 obtain⟨F',H1,p,vs,ds,rfl,hp,rfl,r,s,hd,q⟩:=h
 exact (RV.Ca r hd q p hp).weaken s
def cY (ts:eQ):TD:=fun env Q=>ts env fun ds=>Q (.lst ds)
theorem QF.e {e:Expr} {ts:eQ} (h:QF X e ts):QE X e (cY ts):=⟨fun B σ F H env Q rp hq=>aA (h B σ F H env _ rp hq) fun v H' z=>z.rv⟩
def hJ (ix:List Nat) (ti:TD) (tt:TB) (te:TD):eQ:=fun env Q=>ti env fun d=>∃xs,cX d=some xs∧comps tt te (cb 1 ix env) Q xs []
theorem BK {B:Base} {σ:St} {F H:Hp} {env:En} {P:List D→Prop} {R:It→Hp→Prop} (hi:QE X iter ti) (rp:Rep X.K B F H σ env) (h:ti env fun d=>∃xs,cX d=some xs∧P xs)
  (hR:∀(J:It) (F1 H1:Hp) (xs:List D),Rep X.K B F1 H1 σ env→ar F F1→tQ X.K J F1 xs→P xs→R J H1):Kq X.K (wE X iter) σ H R:=by
 refine aA (hi B σ F H env _ rp h) fun v H1 hq0=>?_
 obtain⟨F1,d,r1,s1,d1,xs,hx,q1⟩:=hq0
 cases d with
 | lst ys =>
  simp only [cX] at hx;cases hx
  simp only [Den] at d1
  obtain⟨a,vs,rfl,q,r⟩:=d1
  exact .inl ⟨a,rfl,.inl ⟨⟨vs,r1.fh.seq q⟩,hR _ F1 H1 _ r1 s1 (y6 q r) q1⟩⟩
 | tup ys =>
  simp only [cX] at hx;cases hx
  simp only [Den] at d1
  obtain⟨a,vs,rfl,q,r⟩:=d1
  exact .inl ⟨a,rfl,.inr ⟨⟨vs,ar.cm r1.fh q⟩,hR _ F1 H1 _ r1 s1 (AW q r) q1⟩⟩
 | str z =>
  simp only [cX] at hx;cases hx
  simp only [Den] at d1
  subst d1
  exact .inr ⟨z,rfl,hR _ F1 H1 _ r1 s1 AF q1⟩
 | _=>simp only [cX] at hx;cases hx
theorem i8 (hc:X.calm=true) (O:bM X N' 1 ix scope) (hN:N'.Nodup) (h0:N'[0]?=some x) (hx:(relabel scope X.env).names.lookup x=some .local) (hi:QE X iter ti)
  (ht:∀C s H fp pins,rS (aP X N' scope C s H fp pins) ifs tt) (he:∀C s H fp pins,QE (aP X N' scope C s H fp pins) elt te) (hs:∀x,foldedSetIterable iter X.env x=pure x:=by intro _;rfl) :
  QF X (.ListComp elt [⟨.Name x px,iter,ifs,0⟩] scope pos) (hJ ix ti tt te):=by
 refine⟨?_⟩
 intro B σ F H env Q rp h
 refine bN (Am hc (DN bh) O hs) ?_
 exact BK hi rp h fun J F1 H1 xs r1 s1 S q=>kF hN h0 hx ht he s1 r1 S q
def gb (f:List D→(Int→Nat→Prop)→Prop) (ix:List Nat) (ts:eQ) (tt:TB) (te:TD):eQ:=fun env Q=>ts env fun xs=>f xs fun lo n=>comps tt te (cb 1 ix env) Q (a9 lo n) []
theorem AA {p pos2:Pos} (hc:X.calm=true) (O:bM X N' 1 ix scope) (hN:N'.Nodup) (h0:N'[0]?=some x) (hx:(relabel scope X.env).names.lookup x=some .local) (hgl:Gl X "range") (hm:X.mg "range" = none) (ha:QA X [a] ts)
  (ht:∀C s H fp pins,rS (aP X N' scope C s H fp pins) ifs tt) (he:∀C s H fp pins,QE (aP X N' scope C s H fp pins) elt te) (hst:starEach [a] X.env=[(false,eval a X.env)]:=by rfl)
  (hs:∀x,foldedSetIterable (.Call (.Name "range" p) [a] [] pos2) X.env x=pure x:=by intro _;rfl) :
  QF X (.ListComp elt [⟨.Name x px,.Call (.Name "range" p) [a] [] pos2,ifs,0⟩] scope pos) (gb iZ ix ts tt te):=by
 refine⟨?_⟩
 intro B σ F H env Q rp h
 refine bN (Am hc (kE hgl hm jF hst) O hs) ?_
 refine cy (ha B σ F H env _ rp h) fun vs H1 hq0=>?_
 obtain⟨F1,ds,r1,s1,d1,q1⟩:=hq0
 (try dsimp only at q1);unfold iZ at q1
 split at q1
 ·simp only [aq,Den] at d1
  obtain⟨v,r,rfl,rfl,rfl⟩:=d1
  exact⟨_,rfl,q1.1.1,q1.1.2,kF hN h0 hx ht he s1 r1 jN q1.2⟩
 ·exact q1.elim
end
end L2.L3
namespace L2.L3
open PySem PySem.Spec PyProof.Rows
section
variable {X:Cx} {a b c e:Expr} {es:List Expr} {ta tb tc:TD} {tA tB':TB} {ts:eQ} {p p2 pos:Pos} {rest:List Expr}
theorem oN (hm:X.mg "abs" = none) (ha:QA X [e] ts) (hg:Gl X "abs":=by rfl) (he:starEach [e] X.env=(false,eval e X.env) :: starEach [] X.env:=by exact aT rfl):QE X (.Call (.Name "abs" p) [e] [] pos) (aw pE ts) :=
 gY DA GN hg hm Bc ha (he:=he)
theorem jA (hm:X.mg "len" = none) (ha:QA X [e] ts) (hg:Gl X "len":=by rfl) (he:starEach [e] X.env=(false,eval e X.env) :: starEach [] X.env:=by exact aT rfl):QE X (.Call (.Name "len" p) [e] [] pos) (aw gH ts) :=
 gY (mV.or vm) Hm hg hm tW ha (he:=he)
theorem JL (hm:X.mg "max" = none) (ha:QA X [a,b] ts) (hg:Gl X "max":=by rfl) (hc:X.calm=true:=by rfl) (he:starEach [a,b] X.env=(false,eval a X.env) :: starEach [b] X.env:=by exact aT rfl) (hpl:(backTo pos (starEach [b] X.env)).any (·.1)=false:=by rfl):QE X (.Call (.Name "max" p) [a,b] [] pos) (aw Bv ts) :=
 gY (Az hc) IE hg hm sZ ha (he:=he) (hpl:=hpl)
theorem Jr (hm:X.mg "min" = none) (ha:QA X [a,b] ts) (hg:Gl X "min":=by rfl) (hc:X.calm=true:=by rfl) (he:starEach [a,b] X.env=(false,eval a X.env) :: starEach [b] X.env:=by exact aT rfl) (hpl:(backTo pos (starEach [b] X.env)).any (·.1)=false:=by rfl):QE X (.Call (.Name "min" p) [a,b] [] pos) (aw DU ts) :=
 gY (AR hc) IT hg hm AD ha (he:=he) (hpl:=hpl)
theorem Jt (hm:X.mg "all" = none) (ha:QA X [e] ts) (hg:Gl X "all":=by rfl) (hc:X.calm=true:=by rfl) (he:starEach [e] X.env=(false,eval e X.env) :: starEach [] X.env:=by exact aT rfl):QE X (.Call (.Name "all" p) [e] [] pos) (aw FJ ts) :=
 gY (Eb hc) HW hg hm Au ha (he:=he)
theorem pM (hm:X.mg "int" = none) (ha:QA X [e] ts) (hg:Gl X "int":=by rfl) (he:starEach [e] X.env=(false,eval e X.env) :: starEach [] X.env:=by exact aT rfl):QE X (.Call (.Name "int" p) [e] [] pos) (aw qY ts) :=
 xy AQ IJ hg hm sA ha (he:=he)
theorem fu (hm:X.mg "tuple" = none) (ha:QA X [e] ts) (hg:Gl X "tuple":=by rfl) (he:starEach [e] X.env=(false,eval e X.env) :: starEach [] X.env:=by exact aT rfl):QE X (.Call (.Name "tuple" p) [e] [] pos) (aw f7 ts) :=
 xy se DB hg hm jX ha (he:=he)
def EH (n:String) (x:D) (Q:D→Prop):Prop:=∃k,E5 (Jd x) n=some k∧Q (.bl k)
def nP (n:String) (ta:TD):TD:=fun env Q=>ta env fun x=>EH n x Q
theorem zr {n:Str} {m:String} (hm:X.mg "isinstance" = none) (ht:X.mg n=none) (hb:bootBuiltins n=some (.type m)) (ha:QE X a ta) (hg:Gl X "isinstance":=by rfl) (hg2:Gl X n:=by rfl) (hn:n≠"__name__":=by decide) (hd:(n == ("__debug__" : Str))=false:=by decide)
  (he:starEach [a,.Name n p2] X.env=(false,eval a X.env) :: starEach [.Name n p2] X.env:=by exact aT rfl) (hpl:(backTo pos (starEach [.Name n p2] X.env)).any (·.1)=false:=by rfl)
  (he2:starEach [.Name n p2] X.env=(false,eval (.Name n p2) X.env) :: starEach [] X.env:=by exact aT rfl):QE X (.Call (.Name "isinstance" p) [a,.Name n p2] [] pos) (nP m ta):=by
 have h:=gY (p:=p) (pos:=pos) Dr IP hg hm sY (ae ha (ae (LY hg2 ht hb hn hd) aj he2) he) (he:=he) (hpl:=hpl)
 exact⟨fun B σ F H env Q rp hq=>h B σ F H env Q rp hq⟩
variable {N':List Str} {nt:Nat} {ix:List Nat} {scope:Scope} {elt iter:Expr} {ifs:List Expr} {x:Str} {px py spos:Pos} {tt:TB} {te ti:TD}
theorem bM.of (sc:Scope) (hsc:X.env.scope=sc) (kind:scope.kind=.function) (nocell:∀x∈scope.names,x.2≠.cell) (names:∀x∈scope.names,x.2=.local→scope.names.lookup x.1=some .local)
  (free:∀x∈scope.names,x.2=.free→sc.names.lookup x.1=some .cell)
  (caps:∀(j:Nat) (i:Nat),ix[j]?=some i→∃x,N'[nt + j]?=some x∧X.N[i]?=some x∧(x,NameKind.free)∈scope.names∧(relabel scope X.env).names.lookup x=some .cell) (len:N'.length=nt + ix.length):bM X N' nt ix scope :=
 ⟨kind,nocell,names,by rw [hsc];exact free,caps,len⟩
end
end L2.L3
namespace L2.L3
open PySem PySem.Spec PyProof.Rows
def Base.guard (B:Base) (p:Addr) (o:HO):Base:=⟨B.F,upd B.H p o,fun a=>a=p∨B.N a,fun a h=>by
 by_cases e:a=p
 ·subst e;rw [aG];simp
 ·rw [aC e];exact B.nb a (h.resolve_left e)⟩
section
variable {K:PySem.W.Frag} {B:Base} {F H:Hp} {σ:St} {env:En} {p:Addr} {o o':HO}
theorem Rep.guarded (r:Rep K B F H σ env) (hp:H p=none):Rep K (B.guard p o) F (upd H p o) σ env where
 f0:=r.f0
 fh:=r.fh.trans (cB hp)
 h0:=fun b u q=>by
  by_cases e:b=p
  ·subst e;rw [aG];have q':upd B.H b o b=some u:=q;rw [aG] at q';exact q'
  ·rw [aC e];have q':upd B.H p o b=some u:=q;rw [aC e] at q';exact r.h0 _ _ q'
 nf:=fun a h=>by
  rcases h with rfl | h
  ·exact r.oE hp
  ·exact r.nf a h
 dv:=r.dv
 ov:=fun i xs h=>by
  obtain⟨q,vs,h1,h2,h3,h4,h5⟩:=r.ov i xs h
  have ne:q≠p:=fun e=>by subst e;rw [hp] at h2;cases h2
  exact⟨q,vs,h1,by rw [aC ne];exact h2,h3,by show upd B.H p o q=none;rw [aC ne];exact h4,h5⟩
 ne:=r.ne
 mv:=fun i xs h=>by
  obtain⟨q,ep,us,vs,h1,h2,h3,h4,h5⟩:=r.mv i xs h
  have ne:q≠p:=fun e=>by subst e;rw [hp] at h2;cases h2
  exact⟨q,ep,us,vs,h1,by rw [aC ne];exact h2,h3,by show upd B.H p o q=none;rw [aC ne];exact h4,h5⟩
 nm:=r.nm
theorem Rep.pK (r:Rep K (B.guard p o) F H σ env) (hb:B.H p=none):Rep K B F H σ env∧H p=some o∧F p=none:=by
 refine⟨⟨r.f0,r.fh,fun b u q=>r.h0 b u ?_,fun a h=>r.nf a (.inr h),r.dv,fun i xs h=>?_,r.ne,fun i xs h=>?_,r.nm⟩,r.h0 p o aG,r.nf p (.inl rfl)⟩
 ·show upd B.H p o b=some u
  have:b≠p:=fun e=>by subst e;rw [hb] at q;cases q
  rw [aC this];exact q
 ·obtain⟨q,vs,h1,h2,h3,h4,h5⟩:=r.ov i xs h
  have h4':upd B.H p o q=none:=h4
  have ne:q≠p:=fun e=>by subst e;rw [aG] at h4';cases h4'
  rw [aC ne] at h4'
  exact⟨q,vs,h1,h2,h3,h4',h5⟩
 ·obtain⟨q,ep,us,vs,h1,h2,h3,h4,h5⟩:=r.mv i xs h
  have h4':upd B.H p o q=none:=h4
  have ne:q≠p:=fun e=>by subst e;rw [aG] at h4';cases h4'
  rw [aC ne] at h4'
  exact⟨q,ep,us,vs,h1,h2,h3,h4',h5⟩
theorem Rep.settle (r:Rep K B F H σ env) (hp:H p=some o) (hf:F p=none) (hb:B.H p=none) (hk:∀vs,o≠.lst vs) (hx:∀φ,o≠.ext φ:=by intro φ e;cases e):Rep K B (upd F p o') (upd H p o') σ env∧ar F (upd F p o'):=by
 have s1:ar F (upd F p o'):=cB hf
 refine⟨⟨r.f0.trans s1,nA r.fh,fun b u q=>?_,fun a h=>?_,fun i x h=>?_,fun i xs h=>?_,r.ne,fun i xs h=>?_,r.nm⟩,s1⟩
 ·have:b≠p:=fun e=>by subst e;rw [hb] at q;cases q
  rw [aC this];exact r.h0 _ _ q
 ·have:a≠p:=fun e=>by subst e;exact B.nb a h hb
  rw [aC this];exact r.nf a h
 ·obtain⟨v,h1,h2⟩:=r.dv i x h
  exact⟨v,h1,Den.mono s1 _ _ h2⟩
 ·obtain⟨q,vs,h1,h2,h3,h4,h5⟩:=r.ov i xs h
  have ne:q≠p:=fun e=>by subst e;rw [hp] at h2;cases h2;exact hk vs rfl
  exact⟨q,vs,h1,by rw [aC ne];exact h2,by rw [aC ne];exact h3,h4,aq.mono s1 _ _ h5⟩
 ·obtain⟨q,ep,us,vs,h1,h2,h3,h4,h5,h6⟩:=r.mv i xs h
  have ne:q≠p:=fun e=>by subst e;rw [hp] at h2;cases h2;exact hx _ rfl
  exact⟨q,ep,us,vs,h1,by rw [aC ne];exact h2,by rw [aC ne];exact h3,h4,aq.mono s1 _ _ h5,aq.mono s1 _ _ h6⟩
end
def wx (ks:List Key) (xs:List D) (k:Key):Option D:=match ks,xs with
 | k' :: ks,x :: xs=>if k'=k then some x else wx ks xs k
 | _,_=>none
theorem t6 {K:PySem.W.Frag} {F:Hp}:∀{ks:List Key} {xs:List D} {vs:List V} {k:Key} {d:D},aq K F xs vs→wx ks xs k=some d→∃v,mz (ks.zip vs) k=some v∧Den K F d v
 | [],xs,vs,k,d,h,e=>by cases xs <;> cases e
 | k' :: ks,[],vs,k,d,h,e=>by cases e
 | k' :: ks,x :: xs,vs,k,d,h,e=>by
  simp only [aq] at h
  obtain⟨v,r,rfl,a,b⟩:=h
  unfold wx at e
  rw [List.zip_cons_cons]
  split at e
  ·rename_i z
   cases e
   exact⟨v,mf (p:=(k',v)) z,a⟩
  ·rename_i z
   rw [mn (p:=(k',v)) z]
   exact t6 b e
theorem mR:∀(kvs acc:List (Key×V)),(acc ++ kvs).map (·.1) |>.Nodup→jq acc kvs=acc ++ kvs
 | [],acc,_=>by simp [jq]
 | (k,v) :: r,acc,h=>by
  have hn:mz acc k=none:=by
   rw [← Option.not_isSome_iff_eq_none,← p5]
   intro z
   rw [List.any_eq_true] at z
   obtain⟨x,hx,e⟩:=z
   have e':x.1=k:=by simpa using e
   rw [List.map_append,Ng] at h
   exact h.2.2 k (by rw [← e'];exact List.mem_map_of_mem hx) k (by simp) rfl
  show jq (putK acc k v) r=_
  rw [BY v hn,mR r (acc ++ [(k,v)]) (by simpa using h)]
  simp
section
variable {X:Cx} {a b:Expr} {ta tb:TD} {pos:Pos}
structure QD (X:Cx) (pos:Pos) (ks:List Key) (keys:List (Option Expr)) (values:List Expr) (t:eQ):Prop where
 of ::
 run:∃trs,Jl X pos keys values trs∧∀(B:Base) (σ:St) (F H:Hp) (env:En) (Q:List D→Prop) (Z:List (V×V)→Hp→Prop),Rep X.K B F H σ env→t env Q →
  (∀F' H' vs ds,Rep X.K B F' H' σ env→ar F F'→aq X.K F' ds vs→vs.length=ks.length→Q ds→Z ((ks.zip vs).map fun kv=>(kV kv.1,kv.2)) H')→lK trs σ H Z
theorem CM:QD X pos [] [] [] au:=⟨[],zz,fun B σ F H env Q Z r h k=>k F H [] [] r (ar.refl _) aU rfl h⟩
theorem Ft {k:Key} {ke v:Expr} {ks:List Key} {keys:List (Option Expr)} {values:List Expr} {tv:TD} {ts:eQ} (hk:PE X ke (tC (kV k))) (hv:QE X v tv) (hr:QD X pos ks keys values ts):QD X pos (k :: ks) (some ke :: keys) (v :: values) (af tv ts):=by
 obtain⟨trs,hp,hq⟩:=hr.run
 refine⟨(tC (kV k),wE X v) :: trs,qO hk bh hp,fun B σ F H env Q Z r h z=>?_⟩
 show tC (kV k) σ H fun x H1=>wE X v σ H1 fun y H2=>lK trs σ H2 fun ps H3=>Z ((x,y) :: ps) H3
 show wE X v σ H fun y H2=>lK trs σ H2 fun ps H3=>Z ((kV k,y) :: ps) H3
 refine aA (hv B σ F H env _ r h) fun y H1 hq0=>?_
 obtain⟨F1,d,r1,s1,d1,q1⟩:=hq0
 refine hq B σ F1 H1 env _ _ r1 q1 fun F' H' vs ds r' s' dl hl q=>?_
 exact z F' H' (y :: vs) (d :: ds) r' (s1.trans s') (aO (Den.mono s' _ _ d1) dl) (by simp [hl]) q
theorem yA {x:Str} {j:Nat} {p:Pos} {v:Expr} {ks:List Key} {keys:List (Option Expr)} {values:List Expr} {tv:TD} {ts:eQ} (hv:QE X v tv) (hr:QD X pos ks keys values ts):QD X pos (.inr x :: ks) (some (.Constant (.str x) j p) :: keys) (v :: values) (af tv ts):=Ft C1 hv hr
def ny (ks:List Key) (ts:eQ):TD:=fun env Q=>ts env fun xs=>Q (.dct ks xs)
theorem DC {ks:List Key} {keys:List (Option Expr)} {values:List Expr} {ts:eQ} (h:QD X pos ks keys values ts) (hall:keys.all (·.isSome)=true:=by rfl) (hl:keys.length=values.length:=by rfl) (h0:keys≠[]:=by simp) (h15:keys.length≤15:=by decide)
  (hkl:ks.length=keys.length:=by rfl) (nd:ks.Nodup:=by decide +kernel):QE X (.Dict keys values pos) (ny ks ts):=by
 obtain⟨trs,hp,hq⟩:=h.run
 refine⟨fun B σ F H env Q r hh=>bN (EY hp hall hl h0 h15) fun p hpn=>?_⟩
 have hb:B.H p=none:=r.h0.free hpn
 refine hq (B.guard p (.dK [])) σ F _ env _ _ (r.guarded hpn) hh fun F' H' vs ds r' s' dl hlen q=>?_
 obtain⟨r2,e2,f2⟩:=r'.pK hb
 refine⟨e2,ks.zip vs,rfl,by rw [List.length_zip,hlen,Nat.min_self,hkl];exact h15,?_⟩
 have em:jq [] (ks.zip vs)=ks.zip vs:=by
  rw [mR]
  ·simp
  ·rw [List.nil_append,List.map_fst_zip (by omega)];exact nd
 rw [em]
 obtain⟨r3,s3⟩:=r2.settle (o':=.dK (ks.zip vs)) e2 f2 hb (fun vs z=>by cases z)
 refine⟨_,.dct ks ds,r3,s'.trans s3,?_,q⟩
 simp only [Den]
 exact⟨p,vs,rfl,aG,hlen,aq.mono s3 _ _ dl⟩
def Ei:D→Option Key
 | .str x=>some (.inr x)
 | .int i=>some (.inl i)
 | _=>none
theorem Cy {K:PySem.W.Frag} {F:Hp} {d:D} {v:V} {k:Key} (h:Den K F d v) (e:Ei d=some k):v=kV k:=by
 cases d <;> simp only [Ei,Option.some.injEq] at e <;> first | cases e | skip
 all_goals (simp only [Den] at h;subst h;rfl)
def Kt (x y:D) (Q:D→Prop):Prop:=match x with
 | .dct ks xs=>∃k v,Ei y=some k∧wx ks xs k=some v∧Q v
 | _=>False
theorem Gu (hu:X.A.units + 64 < cLine) (ha:QE X a ta) (hb:QE X b tb) (hs:AY b):QE X (.Subscript a b pos) (aB Kt ta tb):=by
 refine⟨fun B σ F H env Q r h=>bN (Fy (by omega) bh bh hs) ?_⟩
 refine aA (ha B σ F H env _ r h) fun x H1 hq0=>?_
 obtain⟨F1,d,r1,s1,d1,q1⟩:=hq0
 refine aA (hb B σ F1 H1 env _ r1 q1) fun y H2 hq0=>?_
 obtain⟨F2,d',r2,s2,d2,q2⟩:=hq0
 have d1':=Den.mono s2 _ _ d1
 unfold Kt at q2
 split at q2
 ·obtain⟨k,v,hk,hv,q⟩:=q2
  simp only [Den] at d1'
  obtain⟨p,vs,rfl,hp,hl,dl⟩:=d1'
  obtain⟨w,hw,dw⟩:=t6 dl hv
  have:=Cy d2 hk
  subst this
  exact⟨p,w,rfl,by rw [← hw];exact .k (r2.fh _ _ hp),F2,v,r2,s1.trans s2,dw,q⟩
 ·exact q2.elim
end
end L2.L3
namespace L2.L3
open PySem PySem.Spec PyProof.Rows
section
variable {X:Cx} {e:Expr} {ts:eQ} {pos:Pos}
end
end L2.L3
namespace L2.L3
open PySem PySem.Spec PyProof.Rows
theorem bO.at {P:Program} {w:World} {H:Hp} {h:Heap} {a:Addr} {o:HO} (x:bO P w H h a o):∃ob,h.get? a=some ob:=by
 cases o with
 | lst xs=>obtain⟨_,_,_,_,e⟩:=x;exact⟨_,e⟩
 | tup xs=>obtain⟨_,_,_,ob,e,_⟩:=x;exact⟨_,e⟩
 | dK kvs=>obtain⟨_,_,_,_,o,_,_,e,_⟩:=x;exact⟨_,e⟩
 | dT kvs=>obtain⟨_,_,_,_,o,_,_,e,_⟩:=x;exact⟨_,e⟩
 | set S n=>obtain⟨o,_,_,_,e,_⟩:=x;exact⟨_,e⟩
 | ins C dx fs=>obtain⟨_,_,_,e,_⟩:=x;exact⟨_,e⟩
 | own y=>exact x
 | xd fs=>obtain⟨_,⟨_,_,_,e,_⟩,_⟩:=x;exact⟨_,e⟩
 | rng lo hi=>obtain⟨_,_,_,e⟩:=x;exact⟨_,e⟩
 | frz ob u=>obtain⟨e,_⟩:=x;exact⟨_,e⟩
 | DS ps=>exact⟨_,(show h.get? a=some _ from x)⟩
 | met f y=>exact⟨_,(show h.get? a=some _ from x)⟩
 | ext φ=>obtain⟨_,⟨_,e⟩,_⟩:=x;exact⟨_,e⟩
def kz (H:Hp) (h0 h:Heap) (a:Addr) (cls:Value) (dd:Option Addr):Prop:=h0.get? a=none∧H a=none∧∃oe vs,h.get? a=some oe∧oe.cls=cls∧oe.dict=dd∧oe.data=.fields vs ∧
 (vs[1]?=some .none∨∃T oT ts,vs[1]?=some (.ref T)∧h0.get? T=none∧H T=none∧T≠a∧h.get? T=some oT∧oT.data=.fields ts∧ts[3]?=some .none)
abbrev Ce (H:Hp) (h0 h:Heap) (a:Addr) (cls:Value):Prop:=kz H h0 h a cls none
theorem kz.GC {H:Hp} {g h0 h:Heap} {a:Addr} {cls:Value} {dd:Option Addr} (x:kz H h0 h a cls dd) (k:∀b o,g.get? b=some o→∃o',h0.get? b=some o'):kz H g h a cls dd:=by
 have none_:∀b,h0.get? b=none→g.get? b=none:=fun b e=>by
  cases q:g.get? b with
  | none=>rfl
  | some o=>obtain⟨o',e'⟩:=k b o q;rw [e] at e';cases e'
 obtain⟨n,f,oe,vs,he,hc,hdc,hd,z⟩:=x
 refine⟨none_ a n,f,oe,vs,he,hc,hdc,hd,?_⟩
 rcases z with z | ⟨T,oT,ts,h1,h2,h3⟩
 ·exact .inl z
 ·exact .inr ⟨T,oT,ts,h1,none_ T h2,h3⟩
def Fg (P:Program) (w:World):Dl:=fun outer H s E e s'=>∃(a:Addr) (C:Value) (dd:Option Addr) (H':Hp),e=.ref a∧s'.os=s.os∧AllBare s'.gens∧Un (pR outer) [] H H' s.heap s'.heap∧lB P w H' s'.heap∧kz H' s.heap s'.heap a C dd∧E C dd H'
theorem pY {M:Model} {A:Around} {E:Value→Shared→Prop} {s:Shared} {base:Heap} {env:Env} {outer:List Env} {L x:Addr} {ox:Obj} {fs:Array Value} {hd0:Value} {nx0:Bool} {Q:Unit→Shared→Prop}
  (hA:A.frames=some (env :: outer)) (ff:s.heap.FunFrames base (env :: outer)) (hL:env.frame=some L) (hx:s.heap.get? x=some ox) (hdx:ox.data=.fields fs) (h2:1 < fs.size)
  (k:∀h' T oT ts,(∀b o,s.heap.get? b=some o→b≠x→b∉pR (env :: outer)→h'.get? b=some o)→(∀b o,s.heap.get? b=some o→b∈pR (env :: outer)→∃sl,h'.get? b=some { o with slots:=sl }) →
   h'.get? x=some (ox.mapFields (·.setIfInBounds 1 (.ref T)))→s.heap.get? T=none→T≠x→h'.get? T=some oT→oT.data=.fields ts→ts[3]?=some .none→Q () { s with heap:=h' }) :
  wpAny M A (do let a ← frameOf env;let pl ← entryPlaceOf L nx0;let b ← EntryCells.newEntry hd0 a .none (rawInt L) .none pl;setField (.ref x) 1 b) (fun _ s'=>wpAny M A (setFlight (.ref x) none) Q E s') E s:=by
 have xnf:x∉pR (env :: outer):=fun z=>by
  obtain⟨_,o,e,nf⟩:=ff.mem z
  rw [hx] at e;cases e;exact nf fs hdx
 refine Mn (wpAny_frameOf_fun hA ff hL fun g so=>?_)
 refine Mn (wpAny_entryPlaceOf fun pl ipl=>?_)
 unfold EntryCells.newEntry newFields
 refine Mn (wpAny_newObj_type ?_ (ipl.sizeOk5 _ _ _ _ _))
 have gx:g.get? x=some ox:=(so.2.1 x xnf).trans hx
 generalize hno:({ cls:=.type "traceback",dict:=none,data:=.fields ([hd0,.ref L,.none,rawInt L,.none] ++ (if pl.isEmpty then List.replicate 6 Value.none else pl)).toArray }:Obj)=no
 have nod:no.data=.fields ([hd0,.ref L,.none,rawInt L,.none] ++ (if pl.isEmpty then List.replicate 6 Value.none else pl)).toArray:=by rw [← hno]
 have nofree:no.isFreed=false:=Obj.isFreed_of_fields nod
 have gx1:(g.push no).get? x=some ox:=Mz no gx
 have gT1:(g.push no).get? g.objs.size=some no:=MM g nofree
 have Tx:g.objs.size≠x:=fun z=>absurd (MI gx) (by rw [z];exact Nat.lt_irrefl _)
 refine wpAny_setField gx1 hdx h2 ?_
 have dx2:=Obj.data_mapFields hdx (·.setIfInBounds 1 (Value.ref g.objs.size))
 have gx2:=Heap.get?_update_self (Obj.mapFields (·.setIfInBounds 1 (Value.ref g.objs.size))) gx1 (Obj.isFreed_of_fields dx2)
 have gT2:((g.push no).update x (Obj.mapFields (·.setIfInBounds 1 (Value.ref g.objs.size)))).get? g.objs.size=some no:=(Heap.get?_update_other _ _ (Ne.symm Tx)).trans gT1
 unfold setFlight
 refine Mn (wpAny_field gx2 dx2 (x:=.ref g.objs.size) (by simp [h2]) ?_)
 rw [Mw (show (Value.ref g.objs.size != Value.none)=true from by simp)]
 have sz3:3 < ([hd0,.ref L,.none,rawInt L,.none] ++ (if pl.isEmpty then List.replicate 6 Value.none else pl)).toArray.size:=by
  simp only [MG,MS,List.length_cons,List.length_nil];omega
 refine wpAny_setField gT2 nod sz3 ?_
 have oth:∀b,b≠x→b≠g.objs.size→(((g.push no).update x (Obj.mapFields (·.setIfInBounds 1 (Value.ref g.objs.size)))).update g.objs.size (Obj.mapFields (·.setIfInBounds 3 ((none:Option Addr).elim Value.none fun f=>rawInt f)))).get? b=(g.push no).get? b:=fun b b1 b2=>by
  rw [Heap.get?_update_other _ _ (Ne.symm b2),Heap.get?_update_other _ _ (Ne.symm b1)]
 have ne_g:∀b o,g.get? b=some o→b≠g.objs.size:=fun b o e z=>absurd (MI e) (by rw [z];exact Nat.lt_irrefl _)
 have Tn:s.heap.get? g.objs.size=none:=Heap.get?_none_of_le (by rw [so.1];exact Mx _)
 refine k _ g.objs.size _ _ (fun b o e b1 b2=>?_) (fun b o e b2=>?_) ?_ Tn Tx (Heap.get?_update_self _ gT2 (Obj.isFreed_of_fields (Obj.data_mapFields nod _))) (Obj.data_mapFields nod _) ?_
 ·have e1:g.get? b=some o:=(so.2.1 b b2).trans e
  rw [oth b b1 (ne_g b o e1)];exact Mz no e1
 ·obtain⟨sl,e1⟩:=so.2.2 b o e
  have b1:b≠x:=fun z=>xnf (z▸b2)
  exact⟨sl,by rw [oth b b1 (ne_g b _ e1)];exact Mz no e1⟩
 ·rw [Heap.get?_update_other _ _ Tx];exact gx2
 ·simp [Array.getElem?_setIfInBounds]
theorem qo (o:Obj) (f:Array Value→Array Value):(o.mapFields f).dict=o.dict:=by
 obtain⟨c,d,dt,sl⟩:=o
 cases dt <;> rfl
theorem By {M:Model} {P:Program} {w:World} {A:Around} {env:Env} {outer:List Env} {base:Heap} {H0 H1:Hp} {h0:Heap} {s1:Shared} {a:Addr} {C:Value} {dd:Option Addr} {L:Addr} {Q:Unit→Shared→Prop} {E:Value→Shared→Prop}
  (hfr:A.frames=some (env :: outer)) (hf:env.frame=some L) (FF:s1.heap.FunFrames base (env :: outer)) (ff:∀b∈pR (env :: outer),H1 b=none) (hok:lB P w H1 s1.heap)
  (un:Un (pR (env :: outer)) [] H0 H1 h0 s1.heap) (Fl:kz H1 h0 s1.heap a C dd)
  (h:∀h',Un (pR (env :: outer)) [] H0 H1 h0 h'→lB P w H1 h'→kz H1 h0 h' a C dd→Q () { s1 with heap:=h' }) :
  wpAny M A (noteFrame (.ref a) env) (fun _ s'=>wpAny M A (setFlight (.ref a) none) Q E s') E s1:=by
 obtain⟨n0,na,oe,vs,he,hc,hdc,hd,z⟩:=Fl
 have hsz:1 < vs.size:=by
  rcases z with z | ⟨T,oT,ts,h1,_⟩
  ·exact (M8.mp z).1
  ·exact (M8.mp h1).1
 have core:∀(hid:List Addr) (h1:Heap),a∈hid→(∀b∈hid,h0.get? b=none∧H1 b=none)→(∀b o,s1.heap.get? b=some o→b∉hid→h1.get? b=some o)→(∀b,h1.get? b=none→s1.heap.get? b=none) →
   ∀h' T oT ts,(∀b o,h1.get? b=some o→b≠a→b∉pR (env :: outer)→h'.get? b=some o)→(∀b o,h1.get? b=some o→b∈pR (env :: outer)→∃sl,h'.get? b=some { o with slots:=sl }) →
   h'.get? a=some (oe.mapFields (·.setIfInBounds 1 (.ref T)))→h1.get? T=none→T≠a→h'.get? T=some oT→oT.data=.fields ts→ts[3]?=some .none→Q () { s1 with heap:=h' }:=by
  intro hid h1 ha hids hkeep hnone h' T oT ts k1 k2 k3 hTn hTa hT hdT h3
  have keepN:∀b o,s1.heap.get? b=some o→b∉hid→b∉pR (env :: outer)→h'.get? b=some o:=fun b o e nb nf=>k1 b o (hkeep b o e nb) (fun z=>nb (z▸ha)) nf
  have frn:∀b∈pR (env :: outer),∀o,h0.get? b=some o→b∉hid:=fun b _ o e z=>by rw [(hids b z).1] at e;cases e
  have hs:=hnone T hTn
  refine h h' ⟨fun b o e n hb hx=>?_,fun b o e n hb hx=>?_,un.free,fun b o e hx=>?_,un.tups,un.frzs,un.tbls⟩ (fun b u e=>?_) ?_
  ·exact keepN b o (un.keep b o e n hb hx) (fun z=>by rw [(hids b z).1] at e;cases e) hb
  ·obtain⟨s2,e2⟩:=un.slot b o e n hb hx
   obtain⟨s3,e3⟩:=k2 b _ (hkeep b _ e2 (frn b hb o e)) hb
   exact⟨s3,e3⟩
  ·obtain⟨o',e'⟩:=un.there b o e hx
   have nb:b∉hid:=fun z=>by rw [(hids b z).1] at e;cases e
   by_cases hb:b∈pR (env :: outer)
   ·obtain⟨s3,e3⟩:=k2 b o' (hkeep b o' e' nb) hb
    exact⟨_,e3⟩
   ·exact⟨o',keepN b o' e' nb hb⟩
  ·refine (hok b u e).pX (fun c v hc q=>?_) (fun _ q=>q) fun _ _ q=>q
   have hcn:H1 c≠none:=by
    rcases hc with z | z
    ·rw [z,e];simp
    ·rw [z];simp
   exact keepN c v q (fun z=>hcn (hids c z).2) (fun z=>hcn (ff c z))
  ·refine⟨n0,na,_,_,k3,(Obj.cls_mapFields _ _).trans hc,(qo _ _).trans hdc,Obj.data_mapFields hd _,.inr ⟨T,oT,ts,by simp [hsz],?_,?_,hTa,hT,hdT,h3⟩⟩
   ·cases q:h0.get? T with
    | none=>rfl
    | some o=>obtain⟨o',e'⟩:=un.there T o q (by simp);rw [hs] at e';cases e'
   ·cases q:H1 T with
    | none=>rfl
    | some u=>obtain⟨ob,e'⟩:=bO.at (hok T u q);rw [hs] at e';cases e'
 rcases z with z | ⟨T,oT,ts,h1,hT0,hTn,hTa,hT,hdT,h3⟩
 ·
  unfold noteFrame
  simp only [hf]
  refine Mn (wpAny_field he hd z ?_)
  rw [Ms (by decide)]
  exact pY hfr FF hf he hd hsz (core [a] s1.heap (by simp) (fun b hb=>by rw [MK.mp hb];exact⟨n0,na⟩) (fun b o e _=>e) (fun b e=>e))
 ·
  unfold noteFrame
  simp only [hf]
  refine Mn (wpAny_field he hd h1 ?_)
  rw [Mw (show (Value.ref T != Value.none)=true from by simp)]
  refine Mn (wpAny_field hT hdT h3 ?_)
  rw [Ms (show ¬ ((Value.none == rawInt L)=true) from by simp [rawInt])]
  refine Mn (wpAny_setField hT hdT (M8.mp h3).1 ?_)
  have other:∀b,b≠T→(s1.heap.update T (Obj.mapFields (·.setIfInBounds 3 Value.none))).get? b=s1.heap.get? b:=fun b hb=>Heap.get?_update_other _ _ (Ne.symm hb)
  have noRec:∀b o,s1.heap.get? b=some o→(∀vs,o.data≠.fields vs)→b≠T:=fun b o hb hnf q=>by
   subst q;rw [hT] at hb;cases hb;exact hnf ts hdT
  refine pY (s:={ s1 with heap:=s1.heap.update T (Obj.mapFields (·.setIfInBounds 3 Value.none)) }) hfr (FF.of_keeps fun b o hb hnf=>⟨o,(other b (noRec b o hb hnf)).trans hb,rfl⟩) hf ((other a (Ne.symm hTa)).trans he) hd hsz ?_
  refine core [a,T] _ (by simp) (fun b hb=>?_) (fun b o e nb=>?_) (fun b e=>?_)
  ·rcases ML.mp hb with z | hb
   ·subst z;exact⟨n0,na⟩
   ·rw [MK.mp hb];exact⟨hT0,hTn⟩
  ·rwa [other b (fun z=>nb (by simp [z]))]
  ·by_cases z:b=T
   ·subst z
    have:=Heap.get?_update_self (Obj.mapFields (·.setIfInBounds 3 Value.none)) hT (Obj.isFreed_of_fields (Obj.data_mapFields hdT _))
    rw [this] at e;cases e
   ·rwa [other b z] at e
end L2.L3
namespace L2.L3
open PySem PySem.Spec PyProof.Rows
def dI (X:Cx) (pins:List (Addr×Obj)) (σ:St) (H':Hp) (a:Addr) (C:Value) (dd:Option Addr) (s':Shared):Prop:=∃(Hc:Hp) (sc:Shared),Inv X pins σ Hc sc∧s'.os=sc.os∧AllBare s'.gens∧Un (pR X.stack) [] Hc H' sc.heap s'.heap∧lB X.prog X.w H' s'.heap∧kz H' sc.heap s'.heap a C dd
abbrev km (X:Cx) (pins:List (Addr×Obj)) (σ:St) (H':Hp) (a:Addr) (C:Value) (s':Shared):Prop:=dI X pins σ H' a C none s'
section
variable {X:Cx} {pins:List (Addr×Obj)} {σ:St} {H H':Hp} {a:Addr} {C:Value} {dd:Option Addr} {s s':Shared}
theorem dI.inv (t:dI X pins σ H' a C dd s'):Inv X pins σ H' s':=by
 obtain⟨Hc,sc,I,os,bare,un,hok,fl⟩:=t
 exact I.BW os un hok bare fun b z=>absurd z (by simp)
theorem km.made {vs:List Value} {h':Heap} {e:Addr} (I:Inv X pins σ H s) (m:Heap.MadeExcOf s.heap h' e C vs):km X pins σ H e C { s with heap:=h' }:=by
 obtain⟨t,ht,_⟩:=m.there
 have hn:H e=none:=by
  cases q:H e with
  | none=>rfl
  | some u=>obtain⟨ob,z⟩:=bO.at (I.hok e u q);rw [m.new] at z;cases z
 exact⟨H,s,I,rfl,I.bare,Un.kept m.keeps,I.hok.kept m.keeps,m.new,hn,_,_,ht,rfl,rfl,rfl,.inl rfl⟩
theorem dI.note {Q:Unit→Shared→Prop} {E:Value→Shared→Prop} (t:dI X pins σ H' a C dd s') (hst:X.stack=X.env :: X.outer) (hf:X.env.frame=some X.env.locals)
  (h:∀s'',dI X pins σ H' a C dd s''→Q () s''):wpAny (model X.prog X.w) X.A (noteFrame (.ref a) X.env) (fun _ s=>wpAny (model X.prog X.w) X.A (setFlight (.ref a) none) Q E s) E s':=by
 have I':=t.inv
 obtain⟨Hc,sc,I,os,bare,un,hok,fl⟩:=t
 have hfr:=I'.ok.frames
 have FF:=I'.stack
 have ff:=I'.vG
 rw [hst] at hfr FF ff un
 refine By hfr hf FF ff hok un fl fun h' un' hok' fl'=>h _ ⟨Hc,sc,I,os,bare,by rw [hst];exact un',hok',fl'⟩
theorem dI.leave {P:Program} {w:World} {K:PySem.W.Frag} {mg:Str→Option Value} {base:Heap} {N:List Str} {qual:Str} {scope:Scope} {f:Addr} {cd:Value} {A:Around} {outer:List Env} {s0:Shared} {H0:Hp} {E:XK}
  (t:dI (gO (Fg P w) P w K mg base N qual scope f cd A outer s0 H0 E) pins σ H' a C dd s') (q:E C dd H'):(gO (Fg P w) P w K mg base N qual scope f cd A outer s0 H0 E).xe (.ref a) s':=by
 show wpAny (model P w) _ (leaving _ (.ref a)) _ _ s'
 unfold leaving
 refine Mn (t.note rfl rfl fun s'' t''=>?_)
 have I:=t''.inv
 obtain⟨Hc,sc,Ic,os,bare,un,hok,fl⟩:=t''
 refine⟨a,C,dd,H',rfl,I.os,I.bare,I.base,I.hok,fl.GC fun b o e=>?_,q⟩
 exact Ic.base.there b o e (by show b∉([]:List Addr);simp)
end
structure vX extends Ends3 where
 xc:Str→Prop
abbrev sv:=vX→En→Prop
def XZ (X:Cx) (B:Base) (xc:Str→Prop):Value→Shared→Prop:=fun ex s'=>∃(pins:List (Addr×Obj)) (a:Addr) (c:Str) (C:Value) (σ':St) (H' F':Hp) (env':En),ex=.ref a∧km X pins σ' H' a C s'∧Rep X.K B F' H' σ' env'∧X.mg c=some C∧xc c
structure QZ (X:Cx) (st:Stmt) (t:sv):Prop where
 of ::
 run:∀(B:Base) (σ:St) (F H:Hp) (env:En) (D:vX),Rep X.K B F H σ env→t D env→wS (X.cw (XZ X B D.xc)) st (RS X B D.toEnds3) σ H
structure Ji (X:Cx) (st:List Stmt) (t:sv):Prop where
 of ::
 run:∀(B:Base) (σ:St) (F H:Hp) (env:En) (D:vX),Rep X.K B F H σ env→t D env→wSs (X.cw (XZ X B D.xc)) st (RS X B D.toEnds3) σ H
section
variable {X:Cx} {c e:Expr} {es:List Expr} {st:Stmt} {sts xs ys:List Stmt} {t u:bB} {p q:sv} {tc:TB} {te:TD} {ts:eQ} {pos:Pos}
theorem SP.y8 {E E':Value→Shared→Prop} {pins:List (Addr×Obj)} {D:Ends} {f:Flow} {s':Shared} (h:SP (X.cw E) pins D f s'):SP (X.cw E') pins D f s':=by
 cases f with
 | next=>obtain⟨σ',H',I,q⟩:=h;exact⟨σ',H',I.bG.cw _,q⟩
 | brk=>obtain⟨σ',H',I,q⟩:=h;exact⟨σ',H',I.bG.cw _,q⟩
 | cont=>obtain⟨σ',H',I,q⟩:=h;exact⟨σ',H',I.bG.cw _,q⟩
 | ret u=>obtain⟨v,σ',H',I,r,q⟩:=h;exact⟨v,σ',H',I.bG.cw _,r,q⟩
theorem HQ {E:Value→Shared→Prop} {D:Ends} {σ:St} {H:Hp} (h:wS X.oZ st D σ H):wS (X.cw E) st D σ H:=fun pins s I =>
 MO (h pins s (I.bG.cw _)) (fun _ _ q=>SP.y8 q) fun _ _ z=>False.elim z
theorem Ff {E:Value→Shared→Prop} {D:Ends} {σ:St} {H:Hp} (h:wSs X.oZ sts D σ H):wSs (X.cw E) sts D σ H:=fun pins s I =>
 MO (h pins s (I.bG.cw _)) (fun _ _ q=>SP.y8 q) fun _ _ z=>False.elim z
theorem Dc {E:Value→Shared→Prop} {Q:Bool→Hp→Prop} {σ:St} {H:Hp} (h:wT X.oZ c σ H Q):wT (X.cw E) c σ H Q:=fun pins s I =>
 MO (h pins s (I.bG.cw _)) (fun _ _ ⟨H',I',q⟩=>⟨H',I'.bG.cw _,q⟩) fun _ _ z=>False.elim z
theorem ym {E:Value→Shared→Prop} {Q:VK} {σ:St} {H:Hp} (h:wE X.oZ e σ H Q):wE (X.cw E) e σ H Q:=fun pins s I =>
 MO (h pins s (I.bG.cw _)) (fun _ _ ⟨v,H',I',r,q⟩=>⟨v,H',I'.bG.cw _,r,q⟩) fun _ _ z=>False.elim z
theorem C7 {E:Value→Shared→Prop} {Q:List V→Hp→Prop} {σ:St} {H:Hp} (h:wA X.oZ es σ H Q):wA (X.cw E) es σ H Q:=fun pos pins s I =>
 MO (h pos pins s (I.bG.cw _)) (fun _ _ ⟨v,H',I',r,q⟩=>⟨v,H',I'.bG.cw _,r,q⟩) fun _ _ z=>False.elim z
def Bn (t:bB):sv:=fun D env=>t D.toEnds3 env
theorem vQ (h:QS X.oZ st t):QZ X st (Bn t):=⟨fun B σ F H env D r hq=>HQ (h B σ F H env D.toEnds3 r hq)⟩
theorem Hj (h:oF X.oZ sts t):Ji X sts (Bn t):=⟨fun B σ F H env D r hq=>Ff (h B σ F H env D.toEnds3 r hq)⟩
def rM (t u:sv):sv:=fun D env=>t { D with nx:=u D } env
theorem pP (h:QZ X st p):Ji X [st] p:=⟨fun B σ F H env D rp hq=>n6 (uq B4) (h.run B σ F H env D rp hq)⟩
def Jm (c:TB) (t u:sv):sv:=fun D env=>c env fun k=>if k=true then t D env else u D env
theorem Ka (hc:QT X.oZ c tc) (ha:Ji X xs p) (hb:Ji X ys q):QZ X (.If c xs ys pos) (Jm tc p q):=by
 refine⟨fun B σ F H env D rp h=>dG (GJ sg eT eT) ?_⟩
 refine gV (Dc (hc B σ F H env _ rp h)) fun k H1 ⟨F1,r1,s1,q1⟩=>?_
 cases k with
 | true=>exact ha.run B σ F1 H1 env D r1 q1
 | false=>exact hb.run B σ F1 H1 env D r1 q1
theorem Fh {K:PySem.W.Frag} {h:Heap} {C:Addr} {bmB:List Value} {newId:String} (X:K.In h) (q:PySem.W.excIn K C bmB newId=true) :
  ∃bm N nm qn bs hdct sn sub ab col dd k0 k1 k2 k3 k5 mN,h.get? C=some (excClassObj nm qn C N bs bm hdct sn sub ab col dd k0 k1 k2 k3 k5 newId)∧h.Ns N mN∧mN "__init__" = none∧OwnTail h bmB bm:=by
 unfold PySem.W.excIn at q
 split at q
 ·rename_i dd cd sl ho
  split at q
  ·rename_i C' bm k0 k1 k2 k3 n k5 hm hs
   simp only [Bool.and_eq_true,beq_iff_eq,Bool.not_eq_true'] at q
   obtain⟨⟨⟨⟨⟨rfl,rfl⟩,hdel⟩,ht⟩,hok⟩,hni⟩:=q
   obtain⟨nm,bs,mro,ns,qn,hd,sn,sub,ab,col,del⟩:=cd
   dsimp only at hm hdel hok hni
   subst hm hdel
   have hsl:sl=#[k0,k1,k2,k3,some (.builtin n),k5]:=by
    obtain⟨l⟩:=sl
    simp only at hs
    rw [hs]
   subst hsl
   exact⟨bm,ns,nm,qn,bs,hd,sn,sub,ab,col,dd,k0,k1,k2,k3,k5,_,X _ _ ho,.of_isNs (PySem.W.isNs_of_in X hok),PySem.W.nsMap_none_of_in X hok hni,PySem.W.tail_of_in X ht⟩
  ·cases q
 ·cases q
abbrev FW (K:PySem.W.Frag) (C:Addr):Bool:=PySem.W.excIn K C [.type "ValueError",.type "Exception",.type "BaseException",.type "object"] "ValueError.__new__"
def lI (cx:Str) (ts:eQ):sv:=fun D env=>ts env fun xs=>xs.length≤sizeLine∧D.xc cx
theorem BP {cx:Str} {C:Addr} {np cpos:Pos} (hC:X.mg cx=some (.ref C)) (hq:FW X.K C=true) (hc:X.calm=true) (ha:QA X.oZ [e] ts) (hg:Gl X cx:=by rfl) (hdb:(cx == ("__debug__" : Str))=false:=by decide)
  (he:starEach [e] X.env=(false,eval e X.env) :: starEach [] X.env:=by exact aT rfl) (hplain:(backTo cpos (starEach ([]:List Expr) X.env)).any (·.1)=false:=by rfl) :
  QZ X (.Raise (some (.Call (.Name cx np) [e] [] cpos)) none pos) (lI cx ts):=by
 refine⟨fun B σ F H env D rp h pins s I=>?_⟩
 have I0:=I.bG
 obtain⟨bm,N,nm,qn,bs,hdct,sn,sub,ab,col,dd,k0,k1,k2,k3,k5,mN,hCo,hN,hni,T⟩:=Fh I0.ok.mod.kin hq
 refine wpAny_Raise_call_subT (C:=C) (nm:=nm) (q:=qn) (N:=N) (bs:=bs) (bm:=bm) (hdct:=hdct) (sn:=sn) (sub:=sub) (ab:=ab) (col:=col) (dd:=dd) (k0:=k0) (k1:=k1) (k2:=k2) (k3:=k3) (k5:=k5)
  PySem.F.excBase_ValueError (mN:=mN) (T.hasType (by decide +kernel)) (I0.ok.hd hc) (by rw [he];show (false || (backTo cpos (starEach [] X.env)).any (·.1))=false;rw [hplain];rfl) hni (iV I hg hC ⟨rfl,?_⟩ hdb)
 have hw:=C7 (E:=XZ X B D.xc) (ha B σ F H env _ rp h) cpos pins s I
 rw [he] at hw ⊢
 refine Calls.evalArgs_plain (MO hw (fun us s2 ⟨vs,H2,I2,rv,F2,ds,r2,s2',d2,hl,q2⟩=>⟨rfl,?_,?_,?_,?_,fun h' e' m=>?_⟩) fun _ _ y=>y)
 ·show us.length≤sizeLine
  rw [← rv.length,← d2.length];exact hl
 ·exact I2.bk _ _ hCo
 ·exact hN.keeps I2.bk
 ·exact T.keeps I2.bk
 ·exact⟨pins,e',cx,.ref C,σ,H2,F2,env,rfl,km.made I2.bG m,r2,hC,q2⟩
end
end L2.L3
namespace L2.L3
open PySem PySem.Spec PyProof.Rows
abbrev A4:=List D→(D→Prop)→(Str→Prop)→Prop
def LS (K:PySem.W.Frag) (mg:Str→Option Value) (f:A4):Sp:=fun vs H Q E=>∃(F:Hp) (ds:List D) (P:D→Prop) (R:Str→Prop),ar F H∧aq K F ds vs∧f ds P R ∧
 (∀(d:D) (v:V) (F' H':Hp),ar F F'→ar H H'→ar F' H'→(∀p,H p≠none→F p=none→F' p=none)→Den K F' d v→P d→Q v H') ∧
 ∀(c:Str) (C:Value) (F' H':Hp),ar F F'→ar H H'→ar F' H'→(∀p,H p≠none→F p=none→F' p=none)→mg c=some C→R c→E C none H'
structure fv (P:Program) (w:World) (K:PySem.W.Frag) (mg:Str→Option Value) (base:Heap) (k:Nat) (x:Str) (f:A4):Prop where
 ex:∃(fa:Addr) (fd:FuncData) (ps:List Str),nV P w K mg base (Fg P w) k fa fd ps (LS K mg f)∧mg x=some (.ref fa)∧PySem.W.keepIn K (.ref fa)=true∧Binds K fd ps []
section
variable {P:Program} {w:World} {K:PySem.W.Frag} {mg:Str→Option Value} {base:Heap}
theorem pz.rF {x qual:Str} {st:Stmt} {fa:Addr} {fd:FuncData} {N ps:List Str} {k:Nat} {f:A4} (F:pz K x qual st fa fd) (S:aH N ps (ak st)) (hmg:mg x=some (.ref fa)) (hb:Binds K fd ps [])
  (hl:∀ds Q R,f ds Q R→ds.length=ps.length)
  (hbody:∀(cdv:Value) (A:Around) (outer:List Env) (s:Shared) (H:Hp) (E:XK),di k (A.deeper (envOfC qual (ak st) s.heap.objs.size fa cdv)) →
   ∃t,Ji (gO (Fg P w) P w K mg base N qual (ak st) fa cdv A outer s H E) (bp st) t∧∀ds (Q:D→Prop) (R:Str→Prop),f ds Q R→t { nx:=fun _=>Q .non,rt:=Q,xc:=R } (aF N ds)) :
  fv P w K mg base (k + 1) x f:=by
 refine⟨fa,fd,ps,?_,hmg,F.kp,hb⟩
 obtain⟨oc,od,kV,doc,pm,an,cdv,ct,osl,rfl,lk,hcd⟩:=F.ex
 refine An lk hcd S (fun vs H Q E h=>?_) fun A outer s H vs Q E hr h=>?_
 ·obtain⟨F0,ds,P,R,_,hd,hf,_⟩:=h
  rw [← hd.length];exact hl ds _ _ hf
 ·obtain⟨F0,ds,P',R,fh,hd,hf,kk,kx⟩:=h
  obtain⟨t,ht,hq⟩:=hbody cdv A outer s H E hr
  refine⟨_,eT,?_⟩
  have core:=ht.run _ (start N vs) F0 H (aF N ds) _ (gE fh hd) (hq ds P' R hf)
  intro pins s1 I
  refine MO (core pins s1 (I.cw _)) (fun fl s2 z=>?_) fun ex s2 z=>?_
  ·refine pT (SP.bG z) (fun σ' H' ⟨F',env',r,q⟩=>?_) (fun v H' ⟨F',d',r,dd,q⟩=>?_) (fun _ _ ⟨_,_,_,q⟩=>q) (fun _ _ ⟨_,_,_,q⟩=>q)
   ·exact kk .non .non F' H' r.f0 r.h0 r.fh (fun p h1 h2=>r.nf p ⟨h1,h2⟩) jd q
   ·exact kk d' v F' H' r.f0 r.h0 r.fh (fun p h1 h2=>r.nf p ⟨h1,h2⟩) dd q
  ·obtain⟨pins',a,c,C,σ',H',F',env',rfl,th,r,hm,hx⟩:=z
   exact th.leave (kx c C F' H' r.f0 r.h0 r.fh (fun p h1 h2=>r.nf p ⟨h1,h2⟩) hm hx)
end
abbrev TX:=En→(D→Prop)→(Str→Prop)→Prop
def XX (X:Cx) (pins:List (Addr×Obj)) (σ:St) (B:Base) (env:En) (R:Str→Prop):Value→Shared→Prop:=fun ex s'=>∃(a:Addr) (c:Str) (C:Value) (H' F':Hp),ex=.ref a∧km X pins σ H' a C s'∧Rep X.K B F' H' σ env∧X.mg c=some C∧R c
structure QX (X:Cx) (e:Expr) (t:TX):Prop where
 of ::
 run:∀(B:Base) (σ:St) (F H:Hp) (env:En) (Q:D→Prop) (R:Str→Prop),Rep X.K B F H σ env→t env Q R→∀(pins:List (Addr×Obj)) (s:Shared),Inv X pins σ H s →
  wpAny (model X.prog X.w) X.A (eval e X.env) (EP X pins σ (RV X B σ env F Q)) (XX X pins σ B env R) s
def jr (f:A4) (ts:eQ):TX:=fun env Q R=>ts env fun xs=>f xs Q R
section
variable {X:Cx} {e:Expr} {es:List Expr} {ts:eQ} {tx:TX} {p pos:Pos} {x:Str} {k:Nat} {f:A4}
theorem pO (h:fv X.prog X.w X.K X.mg X.base k x f) (hr:di k X.A) (ha:QA X.oZ (e :: es) ts) (hg:Gl X x:=by rfl) (hdb:(x == ("__debug__" : Str))=false:=by decide)
  (he:starEach (e :: es) X.env=(false,eval e X.env) :: starEach es X.env:=by exact aT rfl) (hpl:(backTo pos (starEach es X.env)).any (·.1)=false:=by rfl):QX X (.Call (.Name x p) (e :: es) [] pos) (jr f ts):=by
 refine⟨fun B σ F H env Q R rp hq pins s I=>?_⟩
 obtain⟨fa,fd,ps,G,hm,hk,hb⟩:=h.ex
 refine wpAny_Call_Name_kw (iV I hg hm ?_ hdb)
 have hw:=C7 (E:=XX X pins σ B env R) (ha B σ F H env _ rp hq) pos pins s (I.cw _)
 refine PySem.W.callWith_K (h₀:=X.base) I.ok.mod.kin hk (bH hw fun us s1 ⟨vs,H1,I1,r,F1,ds,r1,s1',d1,hf⟩=>⟨I1.tD,?_⟩) he hpl
 have I1':=I1.bG
 have hsp:LS X.K X.mg f (vs ++ []) H1 (RV X B σ env F Q) (fun C dd H'=>dd=none∧∃(c:Str) (F':Hp),Rep X.K B F' H' σ env∧X.mg c=some C∧R c):=by
  rw [MV]
  exact⟨F1,ds,Q,R,r1.fh,d1,hf,fun d v F' H' a b c n hd q=>⟨F',d,r1.ext a c b n,s1'.trans a,hd,q⟩,fun c C F' H' a b c' n hm hx=>⟨rfl,c,F',r1.ext a c' b n,hm,hx⟩⟩
 have hl:(us ++ []).length=ps.length:=by
  have:=G.len _ _ _ _ hsp
  rw [MV] at this ⊢
  rw [← r.length];exact this
 refine wpAny_call (codeAny_mono (G.run X.A X.stack s1 H1 ⟨us,[]⟩ (us ++ []) (vs ++ []) _ _ hr I1'.fS (hb s1 us I1'.tD hl) (by simpa using r) hsp) fun rs s' hq'=>?_)
 cases rs with
 | error ex =>
  obtain⟨a,C,dd,H',rfl,os,bare,un,hok,fl,rfl,c,F',r',hm',hx⟩:=hq'
  exact⟨a,c,C,H',F',rfl,⟨H1,s1,I1',os,bare,un,hok,fl⟩,r',hm',hx⟩
 | ok fl =>
  cases fl with
  | ret u=>exact I1'.after hq'
  | next=>exact False.elim hq'
  | brk=>exact False.elim hq'
  | cont=>exact False.elim hq'
theorem QX.w (h:QX X e tx) {B:Base} {σ:St} {F H:Hp} {env:En} {Q:D→Prop} {R:Str→Prop} (rp:Rep X.K B F H σ env) (hq:tx env Q R):wE (X.cw (XZ X B R)) e σ H (RV X B σ env F Q):=fun pins s I =>
 MO (h.run B σ F H env Q R rp hq pins s I.bG) (fun _ _ ⟨v,H',I',r,q⟩=>⟨v,H',I'.cw _,r,q⟩) fun ex s' ⟨a,c,C,H',F',e,t,r,m,x⟩=>⟨pins,a,c,C,σ,H',F',env,e,t,r,m,x⟩
def AB (tx:TX):sv:=fun D env=>tx env D.rt D.xc
theorem IM (h:QX X e tx):QZ X (.Return (some e) pos) (AB tx):=by
 refine⟨fun B σ F H env D rp hq=>dG (u9 bh) ?_⟩
 exact aA (h.w rp hq) fun v H' ⟨F',d,r',s',hd,q⟩=>⟨F',d,r'.bare,hd,q⟩
end
section
variable {X:Cx} {pins:List (Addr×Obj)} {σ:St} {H H':Hp} {a:Addr} {s s':Shared}
theorem Ce.ext {a C:Addr} {h:Heap} {H:Hp} {h0:Heap} (f:Ce H h0 h a (.ref C)):excAt a C h:=by
 obtain⟨_,_,oe,vs,he,hc,hdc,hdt,_⟩:=f
 exact⟨oe,vs,he,hc,hdc,hdt⟩
end
end L2.L3
namespace L2.L3
open PySem PySem.Spec PyProof.Rows
section
variable {X:Cx} {pins:List (Addr×Obj)} {σ:St} {H H':Hp} {a C:Addr} {s s':Shared}
theorem km.Ir (t:km X pins σ H' a (.ref C) s'):H' a=none∧Inv X pins σ (upd H' a (.ext (excAt a C))) s':=by
 obtain⟨Hc,sc,I,os,bare,un,hok,fl⟩:=t
 have x:=Ce.ext fl
 obtain⟨n0,na,_⟩:=fl
 refine⟨na,I.BW os ⟨un.keep,un.slot,fun b o e n hx=>?_,un.there,fun b xs e=>?_,fun b o u e=>?_,fun b ps e=>?_⟩ (fun b u e=>?_) bare fun b z=>absurd z (by simp)⟩
 ·have:b≠a:=fun z=>by subst z;rw [n0] at e;cases e
  rw [aC this];exact un.free b o e n hx
 ·have q:=un.tups b xs e
  rw [aC (bY q na)];exact q
 ·have q:=un.frzs b o u e
  rw [aC (bY q na)];exact q
 ·obtain⟨more,q⟩:=un.tbls b ps e
  exact⟨more,by rw [aC (bY q na)];exact q⟩
 ·by_cases z:b=a
  ·subst z
   rw [aG] at e;cases e
   obtain⟨o,vs,h1,h2⟩:=x
   exact⟨⟨o,vs,h1,h2⟩,⟨o,h1⟩,fun h h' ⟨o,vs,h1,h2⟩ k=>⟨o,vs,k o h1,h2⟩⟩
  ·rw [aC z] at e
   exact (hok b u e).pX (fun _ _ _ q=>q) (fun c q=>by rw [aC (bY q na)];exact q) fun c xs q=>by rw [aC (bY q na)];exact q
theorem dI.land {M:Model} {A:Around} {C:Value} {dd:Option Addr} {Q:Unit→Shared→Prop} {E:Value→Shared→Prop} (t:dI X pins σ H' a C dd s') (h:∀s'',dI X pins σ H' a C dd s''→Q () s''):wpAny M A (setFlight (.ref a) none) Q E s':=by
 obtain⟨Hc,sc,I,os,bare,un,hok,n0,na,oe,vs,he,hc,hdc,hd,z⟩:=t
 rcases z with z | ⟨T,oT,ts,h1,hT0,hTn,hTa,hT,hdT,h3⟩
 ·unfold setFlight
  refine Mn (wpAny_field he hd z ?_)
  rw [Ms (by decide)]
  exact Mr (h _ ⟨Hc,sc,I,os,bare,un,hok,n0,na,oe,vs,he,hc,hdc,hd,.inl z⟩)
 ·refine wpAny_setFlight_none he hd h1 hT hdT (M8.mp h3).1 (h _ ?_)
  have other:∀b,b≠T→(s'.heap.update T (Obj.mapFields (·.setIfInBounds 3 Value.none))).get? b=s'.heap.get? b:=fun b hb=>Heap.get?_update_other _ _ (Ne.symm hb)
  have old:∀b o,sc.heap.get? b=some o→b≠T:=fun b o e z=>by subst z;rw [hT0] at e;cases e
  have Hy:∀b u,H' b=some u→b≠T:=fun b u e z=>by subst z;rw [hTn] at e;cases e
  refine⟨Hc,sc,I,os,bare,⟨fun b o e n hb hx=>(other b (old b o e)).trans (un.keep b o e n hb hx),fun b o e n hb hx=>?_,un.free,fun b o e hx=>?_,un.tups,un.frzs,un.tbls⟩,fun b u e=>?_,n0,na,oe,vs,(other a (Ne.symm hTa)).trans he,hc,hdc,hd,.inr ⟨T,_,_,h1,hT0,hTn,hTa,Heap.get?_update_self _ hT (Obj.isFreed_of_fields (Obj.data_mapFields hdT _)),Obj.data_mapFields hdT _,?_⟩⟩
  ·obtain⟨sl,q⟩:=un.slot b o e n hb hx
   exact⟨sl,(other b (old b o e)).trans q⟩
  ·obtain⟨o',q⟩:=un.there b o e hx
   exact⟨o',(other b (old b o e)).trans q⟩
  ·refine (hok b u e).pX (fun c v hc q=>?_) (fun _ q=>q) fun _ _ q=>q
   refine (other c ?_).trans q
   rcases hc with z | z
   ·subst z;exact Hy c u e
   ·exact Hy c _ z
  ·have:=(M8.mp h3).1
   simp [Array.getElem?_setIfInBounds,this]
theorem Inv.LG {h':Heap} {m':Str→Option Value} {t':Nat} (I:Inv X pins σ H s) (hn:h'.Ns X.env.locals m') (hs:Heap.SameBut X.env.locals s.heap h'):Inv X pins (σ.map fun _=>none) H { s with heap:=h',toks:=t' }:=by
 have lo:∀b o,X.s₀.heap.get? b=some o→b≠X.env.locals:=fun b o e=>MR (MD (MI e) I.ok.above)
 refine⟨I.ok,I.os,I.bare,⟨fun b o e n hb hx=>(hs.2 b (lo b o e)).trans (I.base.keep b o e n hb hx),fun b o e n hb hx=>?_,I.base.free,fun b o e hx=>?_,I.base.tups,I.base.frzs,I.base.tbls⟩,⟨m',hn,fun i x v e1 e2=>?_⟩,fun y c e=>?_,I.free,I.freeC,fun p hp=>?_,fun b ob e=>?_,by simpa using I.len⟩
 ·obtain⟨sl,e1⟩:=I.base.slot b o e n hb hx
  exact⟨sl,(hs.2 b (lo b o e)).trans e1⟩
 ·obtain⟨o',e1⟩:=I.base.there b o e hx
  exact⟨o',(hs.2 b (lo b o e)).trans e1⟩
 ·rw [Mu] at e2
  cases q:σ[i]? with
  | none=>rw [q] at e2;cases e2
  | some u=>rw [q] at e2;cases e2
 ·obtain⟨w',z⟩:=I.cell y c e
  exact⟨w',z.sameBut hs (I.Gn y c e)⟩
 ·obtain⟨e,n,ne,nf,d⟩:=I.pin p hp
  exact⟨(hs.2 p.1 ne).trans e,n,ne,nf,d⟩
 ·refine (I.hok b ob e).pX (fun c w' hc q=>(hs.2 c ?_).trans q) (fun _ q=>q) fun _ _ q=>q
  have hfree:=I.free
  rintro rfl
  rcases hc with z | hc
  ·rw [← z,hfree] at e;cases e
  ·rw [hfree] at hc;cases hc
end
abbrev Cx.hand (X:Cx) (a:Addr):Cx:={ X with A:=X.A.mark (some (.ref a)),calm:=false,xe:=fun _ _=>False }
theorem Inv.hand {X:Cx} {pins:List (Addr×Obj)} {σ:St} {H:Hp} {s:Shared} (I:Inv X pins σ H s) (a:Addr):Inv (Cx.hand X a) pins σ H s :=
 ⟨⟨I.ok.mod,I.ok.kind,I.ok.glob,I.ok.blt,I.ok.above,I.ok.inj,I.ok.has,I.ok.cab,(fun z=>by cases z),I.ok.frames,I.ok.stk,I.ok.exf,I.ok.bs,I.ok.bsz,I.ok.noex,I.ok.exfs,I.ok.nc,I.ok.frf⟩,I.os,I.bare,I.base,I.loc,I.cell,I.free,I.freeC,I.pin,I.hok,I.len⟩
theorem Inv.Iu {X:Cx} {a:Addr} {pins:List (Addr×Obj)} {σ:St} {H:Hp} {s:Shared} (ok:X.Ok) (I:Inv (Cx.hand X a) pins σ H s):Inv X pins σ H s :=
 ⟨ok,I.os,I.bare,I.base,I.loc,I.cell,I.free,I.freeC,I.pin,I.hok,I.len⟩
structure xb (K:PySem.W.Frag) (C:Addr):Prop where
 ga:PySem.W.findIn K (.ref C) "__getattribute__" = some (some (.builtin "BaseException.__getattribute__"))
 hk:PySem.W.findIn K (.ref C) "__getattr__" = some none
 dct:PySem.W.hasDictIn K C=true
 fnd:PySem.W.findIn K (.ref C) "__class__" = some (some (.builtin "object.__class__"))
 gt:PySem.W.specialIn K (.builtin "object.__class__") "__get__" = some (some (.builtin "getset_descriptor.__get__"))
 tk:PySem.W.takesIn K (.builtin "object.__class__")=some true
 mro:PySem.W.mroIn K C (.type "object")=some true
 sub:PySem.W.subIn K (.ref C) (.type "BaseException")=some true
theorem find_none {K:PySem.W.Frag} {C:Addr} {name:Str} {a g:Value} (hc:(PySem.W.clsIn K C).isSome=true) (ha:PySem.W.findIn K (.ref C) name=some (some a)) (hg:PySem.W.specialIn K a "__get__" = some (some g)) (ht:PySem.W.takesIn K a=some true) :
  PySem.W.findObj K C none name=some (.bind g a):=by
 obtain⟨cd,hc⟩:=Option.isSome_iff_exists.mp hc
 unfold PySem.W.findObj
 rw [hc,Option.bind_some,ha,Option.bind_some]
 simp [hg,ht]
section
variable {prog:Program} {w:World} {A:Around} {E:Value→Shared→Prop} {K:PySem.W.Frag} {x C:Addr} {ox:Obj} {h:Heap} {g:Array GenState} {d:Drawn} {t:Nat} {os:OsState}
theorem BR (O:xb K C):PySem.W.findObj K C none "__class__" = some (.bind (.builtin "getset_descriptor.__get__") (.builtin "object.__class__")) :=
 find_none (by obtain⟨cd,hc,_⟩:=PySem.W.any_some O.dct;rw [hc];rfl) O.fnd O.gt O.tk
theorem CV {tk:Tok} {Q:Fin→Shared→Prop} (O:xb K C) (X:K.In h) (I:PySem.W.InstAt h x ox C none) (hq:Q (.done (.ret (.ref C))) ⟨h,g,d,t,os⟩) :
  wpAny (model prog w) A (Builtin.«object.__getattribute__» ⟨[.ref x,.str "__class__" tk],[]⟩) Q E ⟨h,g,d,t,os⟩:=by
 have L0:=I.type (M:=model prog w)
 have L1:=PySem.W.looks_find (M:=model prog w) X I (BR O)
 unfold Builtin.«object.__getattribute__»
 refine Mn (Mr (Mn (Mr (Mn (L0.at (Mn (L1.at ?_)))))))
 show wpAny _ _ (Builtin.ObjectAttr.bindTo _ _ _ _) _ _ _
 unfold Builtin.ObjectAttr.bindTo
 refine Mn (wpAny_holding (wpAny_call (PySem.W.class_get (s:=⟨h,g,d,t,os⟩) (ox:=ox) (od:=none) X I O.mro ?_)))
 exact Mr hq
theorem A8 {nameV:Value} {Q:Unit→Shared→Prop} (O:xb K C) (X:K.In h) (I:PySem.W.InstAt h x ox C none) (hq:Q () ⟨h,g,d,t,os⟩) :
  wpAny (model prog w) A (checkBuiltinCall "BaseException.__getattribute__" ⟨[.ref x,nameV],[]⟩) Q E ⟨h,g,d,t,os⟩:=by
 have hk:builtinKind "BaseException.__getattribute__" = some .slot:=by decide +kernel
 have hsplit:splitId "BaseException.__getattribute__" = some ("BaseException","__getattribute__"):=by decide +kernel
 have ha:=F.args_bexc_ga (.ref x) nameV
 have L0:=I.type (M:=model prog w)
 have L2:PySem.W.Looks (model prog w) h (isInstance (.ref x) (.type "BaseException")) true:=L0.andThen (PySem.W.looks_subIn X O.sub)
 simp only [checkBuiltinCall,hk,hsplit]
 refine Mn (L2.at ?_)
 repeat (first | assumption | wp_step)
theorem AV {Q:Option Value→Shared→Prop} (O:xb K C) (X:K.In h) (I:PySem.W.InstAt h x ox C none) (hq:Q (some (.ref C)) ⟨h,g,d,t + 1,os⟩):wpAny (model prog w) A (getAttr? (.ref x) "__class__") Q E ⟨h,g,d,t,os⟩:=by
 have L0:=I.type (M:=model prog w)
 have L1:=PySem.W.looks_findIn (M:=model prog w) X O.ga
 have L2:=PySem.W.looks_findIn (M:=model prog w) X O.hk
 have FB:=PySem.F.attrBase_ValueError
 unfold getAttr? getAttrBy? getAttrBy
 refine Mn (wpAny_mkText (Mn (wpAny_attempt (wpAny_holding (Mn (L0.at (Mn (L1.at ?_))))))))
 have hx1:(onTheHeap (Value.ref C) && Value.builtin "BaseException.__getattribute__" == Value.builtin "object.__getattribute__")=false:=by
  rw [show (Value.builtin "BaseException.__getattribute__" == Value.builtin "object.__getattribute__")=false by decide +kernel];rfl
 show wpAny _ _ (if (onTheHeap (Value.ref C) && Value.builtin "BaseException.__getattribute__" == Value.builtin "object.__getattribute__")=true then _ else _) _ _ _
 rw [hx1,Ms (by decide)]
 unfold getAttrByItsOwn
 refine Mn (L2.at (Mn (wpAny_attempt (wpAny_holding ?_))))
 unfold callGetattribute boundAndCalled
 rw [Ms (by decide),FB.ga.bind]
 refine Mn (Mr ?_)
 refine wpAny_call (codeAny_call_builtin FB.ga.plain F.entry_bexc_ga (A8 O X I (CV O X I ?_)))
 exact PySem.W.handed_on rfl (Mr hq)
end
theorem u5 {K:PySem.W.Frag} {C:Addr} (h:PySem.W.hasDictIn K C=true):∃c d cd sl,K.lookup C=some ⟨c,d,.cls cd,sl⟩:=by
 obtain⟨_,q,_⟩:=PySem.W.any_some h
 unfold PySem.W.clsIn at q
 split at q
 ·exact⟨_,_,_,_,‹_›⟩
 ·cases q
theorem qZ {K:PySem.W.Frag} {x C:Addr} (O:xb K C):PySem.W.KitX K (.ref x) (.ref C) (fun h=>∃ox,PySem.W.InstAt h x ox C none) where
 ty:=fun _ _ _ ⟨_,I⟩=>I.type
 it:=fun _ _ kin _ A Q E s keep q=>let ⟨_,_,_,_,e⟩:=u5 O.dct;Mn (wpAny_loadPart (keep _ _ (kin _ _ e)) (Mr q))
 ne:=fun h tp dd its n sl kin e=>by
  obtain⟨_,_,_,_,e1⟩:=u5 O.dct
  cases z:(Value.ref C == Value.ref tp) with
  | false=>rfl
  | true =>
   cases eq_of_beq z
   cases (kin _ _ e1).symm.trans e
 ca:=fun {prog w A E Q s} X p h=>by
  obtain⟨ox,I⟩:=p
  obtain⟨hh,g,d,t,os⟩:=s
  exact AV O X I h
theorem vy {X:Cx} {c:Str} {p:Pos} {C:Addr} (ac:PySem.W.nsIn X.K mainGlobals c=some (some (.ref C))) (hg:Gl X c:=by rfl) (hdb:(c == ("__debug__" : Str))=false:=by decide):QE X (.Name c p) (cC (.cls c)):=by
 refine⟨fun B σ F H env Q rp hq pins s I=>?_⟩
 refine iV I hg (Ni I.ok.mod.kin I.ok.mod.glob ac) ?_ hdb
 exact⟨.ref C,H,I,rfl,F,.cls c,rp,ar.refl _,by simp only [Den];exact⟨C,rfl,ac⟩,hq⟩
inductive v9 (K:PySem.W.Frag):List D→List Value→Prop where
 | nil:v9 K [] []
 | cons {c:Str} {C:Addr} {ds:List D} {vs:List Value} (h:PySem.W.nsIn K mainGlobals c=some (some (.ref C))) (r:v9 K ds vs):v9 K (.cls c :: ds) (.ref C :: vs)
inductive Bw (K:PySem.W.Frag) (C:Addr):D→Bool→Prop where
 | ty {n:String} {b:Bool} (e:PySem.W.kitOne K (.ref C) (.type n)=some b):Bw K C (.ty n) b
 | cls {d:Str} {C':Addr} {b:Bool} (h:PySem.W.nsIn K mainGlobals d=some (some (.ref C'))) (e:PySem.W.kitOne K (.ref C) (.ref C')=some b):Bw K C (.cls d) b
 | tup {ds:List D} {vs:List Value} {b:Bool} (h:v9 K ds vs) (e:PySem.W.kitAny K (.ref C) vs=some b):Bw K C (.tup ds) b
theorem v9.vals {K:PySem.W.Frag} {F:Hp}:∀{ds:List D} {vs:List Value} {xs:List V} {us:List Value},v9 K ds vs→aq K F ds xs→Vals xs us→us=vs
 | _,_,xs,us,.nil,h,r=>by
  simp only [aq] at h;subst h
  cases r;rfl
 | _,_,xs,us,.cons hc rr,h,r=>by
  simp only [aq] at h
  obtain⟨v,rs,rfl,hd,hr⟩:=h
  simp only [Den] at hd
  obtain⟨C',rfl,e⟩:=hd
  rw [hc] at e
  cases e
  cases r with
  | cons q1 q2 =>
   have e1:=(show _=Value.ref _ from q1)
   rw [e1,v9.vals rr hr q2]
def uT (c:Str) (y:D) (b:Bool) (ds:List D) (Q:D→Prop):Prop:=ds=[.exc c,y]∧Q (.bl b)
def Kg (K:PySem.W.Frag) (C:Addr) (b:Bool):List V→Hp→VK→Prop:=fun xs H Q=>∃a y,xs=[.ref a,y]∧H a=some (.ext (excAt a C)) ∧
 ((∃n,y=.ty n∧PySem.W.kitOne K (.ref C) (.type n)=some b)∨(∃C',y=.ref C'∧PySem.W.kitOne K (.ref C) (.ref C')=some b)∨∃t zs,y=.ref t∧jv K H t zs∧∀us,Vals zs us→PySem.W.kitAny K (.ref C) us=some b)∧Q (.bl b) H
section
variable {X:Cx} {C:Addr} {b:Bool} {c:Str} {y:D} {a e2:Expr} {ts:eQ} {p pos:Pos}
theorem B1 (O:xb X.K C):dB X (.builtin "isinstance") (Kg X.K C b):=by
 intro pins s σ H xs us Q I r h
 obtain⟨x,y,rfl,hx,hy,q⟩:=h
 obtain⟨u,w,rfl,rx,ry⟩:=vals2 r
 cases (show u=Value.ref x from rx)
 have fin:∀tk,EP X pins σ Q (.bool b) { s with toks:=tk }:=fun tk=>⟨.bl b,H,I.tok tk,rfl,q⟩
 have at_:∃ox,PySem.W.InstAt s.heap x ox C none:=by
  obtain⟨⟨o,vs,h1,h2,h3,h4⟩,_⟩:=(show bO X.prog X.w H s.heap x (.ext (excAt x C)) from I.hok x _ hx)
  refine⟨o,h1,h2,?_,?_⟩
  ·unfold PySem.W.notCls;rw [h4]
  ·rw [h3];exact True.intro
 rcases hy with ⟨n,rfl,e⟩ | ⟨C',rfl,e⟩ | ⟨t,zs,rfl,hq,e⟩
 ·cases (show w=Value.type n from ry)
  exact PySem.W.kia_one (qZ O) I.tD at_ e (fun z=>nomatch z) fin
 ·cases (show w=Value.ref C' from ry)
  exact PySem.W.kia_one (qZ O) I.tD at_ e (fun z=>nomatch z) fin
 ·cases (show w=Value.ref t from ry)
  obtain⟨its,vz,⟨o,h1,h2,n,h3⟩,_⟩:=I.tuple hq
  obtain⟨oc,od,odt,osl⟩:=o
  cases h2
  cases h3
  exact PySem.W.kia_tup (qZ O) I.tD at_ h1 (e _ vz) (fun z=>nomatch z) fin
theorem GX (ac:PySem.W.nsIn X.K mainGlobals c=some (some (.ref C))) (hk:Bw X.K C y b):Call3 X (Kg X.K C b) (uT c y b):=by
 intro B σ F H env Q ds vs Z rp h hz hf
 obtain⟨rfl,q⟩:=hf
 simp only [aq] at h
 obtain⟨v,r,rfl,hd,v',r',rfl,hd',rfl⟩:=h
 simp only [Den] at hd
 obtain⟨a,C',rfl,e,hF⟩:=hd
 rw [ac] at e
 cases e
 refine⟨a,v',rfl,rp.fh _ _ hF,?_,hz (.bl b) H F (.bl b) rp (ar.refl _) dj q⟩
 cases hk with
 | ty e=>simp only [Den] at hd';subst hd';exact .inl ⟨_,rfl,e⟩
 | cls h e =>
  simp only [Den] at hd'
  obtain⟨C'',rfl,e'⟩:=hd'
  rw [h] at e'
  cases e'
  exact .inr (.inl ⟨_,rfl,e⟩)
 | tup h e =>
  simp only [Den] at hd'
  obtain⟨t,zs,rfl,hq,hl⟩:=hd'
  exact .inr (.inr ⟨t,zs,rfl,ar.cm rp.fh hq,fun us hu=>by rw [v9.vals h hl hu];exact e⟩)
theorem vL (c:Str) (y:D) (b:Bool) (hm:X.mg "isinstance" = none) (ac:PySem.W.nsIn X.K mainGlobals c=some (some (.ref C))) (O:xb X.K C) (hk:Bw X.K C y b) (ha:QA X [a,e2] ts) (hg:Gl X "isinstance":=by rfl)
  (he:starEach [a,e2] X.env=(false,eval a X.env) :: starEach [e2] X.env:=by exact aT rfl) (hpl:(backTo pos (starEach [e2] X.env)).any (·.1)=false:=by rfl):QE X (.Call (.Name "isinstance" p) [a,e2] [] pos) (aw (uT c y b) ts) :=
 gY (B1 O) (GX ac hk) hg hm sY ha (he:=he) (hpl:=hpl)
end
end L2.L3
namespace L2.L3
open PySem PySem.Spec PyProof.Rows
section
variable {X:Cx} {a b e:Expr} {ta tb:TD} {ts:eQ} {pos:Pos}
theorem AK {cx:Str} {C:Addr} {np cpos:Pos} (ac:PySem.W.nsIn X.K mainGlobals cx=some (some (.ref C))) (hq:FW X.K C=true) (ha:QA X.oZ [e] ts) (hc:X.calm=true:=by rfl) (hg:Gl X cx:=by rfl) (hdb:(cx == ("__debug__" : Str))=false:=by decide)
  (he:starEach [e] X.env=(false,eval e X.env) :: starEach [] X.env:=by exact aT rfl) (hplain:(backTo cpos (starEach ([]:List Expr) X.env)).any (·.1)=false:=by rfl) :
  QZ X (.Raise (some (.Call (.Name cx np) [e] [] cpos)) none pos) (lI cx ts) :=
 ⟨fun B σ F H env D rp h pins s I=>(BP (X:=X) (pos:=pos) (np:=np) (cpos:=cpos) (Ni I.ok.mod.kin I.ok.mod.glob ac) hq hc ha hg hdb he hplain).run B σ F H env D rp h pins s I⟩
end
theorem EW:bootBuiltins "ValueError" = some (.type "ValueError"):=by decide +kernel
end L2.L3
namespace L2.L3
open PySem PySem.Spec PyProof.Rows
section
variable {X:Cx} {e:Expr} {ts:eQ} {p pos:Pos}
def m9 (ds:List D) (Q:List D→Prop):Prop:=match ds with
 | [.lst xs]=>Q xs
 | [.tup xs]=>Q xs
 | _=>False
theorem sI {xs:List D} {Q:List D→Prop}:m9 [.lst xs] Q=Q xs:=rfl
theorem sQ {xs:List D} {Q:List D→Prop}:m9 [.tup xs] Q=Q xs:=rfl
def kO (ts:eQ):eQ:=fun env Q=>ts env fun ds=>m9 ds Q
theorem AU (hm:X.mg "list" = none) (ha:QA X [e] ts) (hg:Gl X "list":=by rfl) (he:starEach [e] X.env=(false,eval e X.env) :: starEach [] X.env:=by exact aT rfl) (hpl:(backTo pos (starEach ([]:List Expr) X.env)).any (·.1)=false:=by rfl) :
  QF X (.Call (.Name "list" p) [e] [] pos) (kO ts):=by
 refine⟨fun B σ F H env Q rp h=>bN (nJ uE hg hm qr jF (by decide) (by decide) he hpl) ?_⟩
 refine cy (ha B σ F H env _ rp h) fun vs H1 hq0=>?_
 obtain⟨F1,ds,r1,s1,d1,q1⟩:=hq0
 replace q1:m9 ds Q:=q1
 unfold m9 at q1
 split at q1
 ·simp only [aq,Den] at d1
  obtain⟨v,r,rfl,⟨p,ys,rfl,q,r⟩,rfl⟩:=d1
  exact⟨p,ys,rfl,.inl (r1.fh.seq q),fun w hw=>⟨F1,H1,w,ys,_,rfl,hw,rfl,r1,s1,r,q1⟩⟩
 ·simp only [aq,Den] at d1
  obtain⟨v,r,rfl,⟨p,ys,rfl,q,r⟩,rfl⟩:=d1
  exact⟨p,ys,rfl,.inr (ar.cm r1.fh q),fun w hw=>⟨F1,H1,w,ys,_,rfl,hw,rfl,r1,s1,r,q1⟩⟩
 ·exact q1.elim
end
section
variable {X:Cx} {es:List Expr} {pos:Pos}
end
end L2.L3
namespace L2.L3
open PySem PySem.Spec PyProof.Rows
section
variable {X:Cx} {a b c e:Expr} {ta tb tc:TD} {ts:eQ} {pos:Pos}
def i9 (f f':D→D→(D→Prop)→Prop) (ta tb tc:TD):TD:=fun env Q=>ta env fun x=>tb env fun y=>f x y fun z=>∃k,z=.bl k∧(if k=true then tc env fun w=>f' y w Q else Q (.bl false))
theorem IF {r r':R2} {f f':D→D→(D→Prop)→Prop} (hf:sj X r f) (hf':sj X r' f') (ha:QE X a ta) (hb:QE X b tb) (hc:QE X c tc) {B:Base} {σ:St} {F H:Hp} {env:En} {Q:D→Prop} {Z:VK} (rp:Rep X.K B F H σ env) (hz:Kont X B σ env F Q Z) (h:i9 f f' ta tb tc env Q) :
  C2 r r' (wE X a) (wE X b) (wE X c) σ H Z:=by
 refine aA (ha B σ F H env _ rp h) fun x H1 hq0=>?_
 obtain⟨F1,d,r1,s1,d1,q1⟩:=hq0
 refine aA (hb B σ F1 H1 env _ r1 q1) fun y H2 hq0=>?_
 obtain⟨F2,d',r2,s2,d2,q2⟩:=hq0
 refine hf B σ F2 H2 env _ d d' x y _ r2 (Den.mono s2 _ _ d1) d2 (fun v H3 F3 d3 r3 s3 hd3 q3=>?_) q2
 obtain⟨k,rfl,q3⟩:=q3
 refine⟨k,fq hd3,?_⟩
 cases k with
 | true =>
  rw [Mw rfl] at q3 ⊢
  refine aA (hc B σ F3 H3 env _ r3 q3) fun w H4 hq0=>?_
  obtain⟨F4,d4,r4,s4,d4',q4⟩:=hq0
  exact hf' B σ F4 H4 env Q d' d4 y w Z r4 (Den.mono (s3.trans s4) _ _ d2) d4' (fun v H5 F5 d5 r5 s5 hd q=>hz v H5 F5 d5 r5 ((((s1.trans s2).trans s3).trans s4).trans s5) hd q) q4
 | false =>
  rw [Ms (by decide)] at q3 ⊢
  exact hz _ H3 F3 _ r3 ((s1.trans s2).trans s3) dj q3
theorem FC {op op':CmpOp} {r r':R2} {f f':D→D→(D→Prop)→Prop} (ho:iQ X (compareOp op) r) (hf:sj X r f) (ho':iQ X (compareOp op') r') (hf':sj X r' f') (ha:QE X a ta) (hb:QE X b tb) (hc:QE X c tc)
  (hm:lastMarks [op,op'] [b,c]=false:=by with_unfolding_all rfl):QE X (.Compare a [op,op'] [b,c] pos) (i9 f f' ta tb tc) :=
 ⟨fun B σ F H env Q rp h=>bN (DK ho ho' bh bh bh hm) (IF hf hf' ha hb hc rp Kh h)⟩
theorem CC (ha:QE X a ta) (hb:QE X b tb) (hc:QE X c tc) (hm:lastMarks [.Lt,.Lt] [b,c]=false:=by with_unfolding_all rfl):QE X (.Compare a [.Lt,.Lt] [b,c] pos) (i9 yb yb ta tb tc):=FC CW lJ CW lJ ha hb hc hm
def uH (n:Int) (x:Str):Str:=if n < 1 then Str.empty else if (n == 1 || x.length == 0)=true then x else ⟨(List.replicate n.toNat x.cps).foldl (· ++ ·) #[]⟩
def Jq:R2:=fun x y H Q=>∃z n,x=.str z∧y=.int n∧(-(2 ^ 62)≤n∧n < 2 ^ 62)∧z.length * n.toNat≤1000000∧(uH n z).length≤sizeLine∧Q (.str (uH n z)) H
theorem IW:iQ X (binaryOp .Mult) Jq:=by
 intro pins s σ H x y v u Q I rx ry h
 obtain⟨z,n,rfl,rfl,⟨hn1,hn2⟩,hz,hl,q⟩:=h
 obtain⟨t,rfl⟩:=rx
 obtain⟨t',rfl⟩:=ry
 refine P.mul_str ?_ (fun h1 _=>?_) (fun _ _=>?_) ?_
 ·have h1:¬ n < -(2 ^ 63:Int):=by omega
  have h2:¬ n≥(2 ^ 63:Int):=by omega
  rw [decide_eq_false h1,decide_eq_false h2];rfl
 ·have hp:0 < n:=by omega
  have:(z.length:Int) * n≤2 ^ 63 - 1:=by
   have e:((z.length * n.toNat:Nat):Int)=(z.length:Int) * n:=by push_cast;rw [Nj (by omega)]
   omega
  exact Int.not_lt.mpr (Int.le_ediv_of_mul_le hp this)
 ·simp only [Builtin.Str.tooLong,sizeLine_eq,decide_eq_false_iff_not];omega
 ·unfold uH at hl q
  by_cases c1:n < 1
  ·rw [Mw c1] at hl q ⊢
   exact⟨by decide,⟨.str _,H,I.tok _,⟨_,rfl⟩,q⟩⟩
  ·rw [Ms c1] at hl q ⊢
   by_cases c2:(n == 1 || z.length == 0)=true
   ·rw [Mw c2] at hl q ⊢
    exact⟨.str _,H,I,⟨_,rfl⟩,q⟩
   ·rw [Ms c2] at hl q ⊢
    exact⟨hl,⟨.str _,H,I.tok _,⟨_,rfl⟩,q⟩⟩
def o9 (x y:D) (Q:D→Prop):Prop:=match x,y with
 | .str z,.int n=>(-(2 ^ 62)≤n∧n < 2 ^ 62)∧z.length * n.toNat≤1000000∧(uH n z).length≤sizeLine∧Q (.str (uH n z))
 | _,_=>False
theorem Hv:sj X Jq o9:=by
 intro B σ F H env Q d d' x y Z rp h1 h2 hz hf
 unfold o9 at hf
 split at hf
 ·rename_i z n
  simp only [Den] at h1 h2
  subst h1 h2
  obtain⟨g1,g2,g3,q⟩:=hf
  exact⟨z,n,rfl,rfl,g1,g2,g3,hz _ H F _ rp (ar.refl _) hW q⟩
 ·exact hf.elim
theorem x6 (ha:QE X a ta) (hb:QE X b tb):QE X (.BinOp a .Mult b pos) (aB o9 ta tb):=y9 IW Hv ha hb
theorem Mh {x:Str} {n:Int} {t:Tok} {p:Pos} (ac:PySem.W.nsIn X.K mainGlobals x=some (some (.int n t))) (hg:Gl X x:=by rfl) (hdb:(x == ("__debug__" : Str))=false:=by decide):QE X (.Name x p) (cC (.int n)):=by
 refine⟨fun B σ F H env Q rp hq pins s I=>?_⟩
 refine iV I hg (Ni I.ok.mod.kin I.ok.mod.glob ac) ?_ hdb
 exact⟨.int n,H,I,⟨t,rfl⟩,F,.int n,rp,ar.refl _,bo,hq⟩
def KU:V→Option Int→Option Int→Hp→VK→Prop:=fun x lo hi H Q=>∃z,x=.str z∧z.length≤sizeLine∧Q (.str (Txt.slice z lo hi)) H
theorem Hs:Fv X KU:=by
 intro pins s σ H x v vl vu lo hi sl Q I rx hs pl pu h
 obtain⟨z,rfl,hz,q⟩:=h
 obtain⟨t,rfl⟩:=rx
 refine⟨"str",_,F.slot_str_getitem.lookup,typeIs_str _ _ _,?_⟩
 have fin:∀t' k,EP X pins σ Q (.str (Txt.slice z lo hi) t') { s with toks:=k }:=fun t' k=>⟨.str _,H,I.tok k,⟨t',rfl⟩,q⟩
 have le:(Txt.slice z lo hi).length≤sizeLine:=M7 (Txt.slice_le z _ _) hz
 obtain⟨o,h1,h2,h3⟩:=hs
 cases pl with
 | none =>
  cases pu with
  | none=>exact wpAny_getItem_str_slice (l:=none) (u:=none) (st:=none) ⟨o,h1,h2,h3⟩ rfl (post_val_or_str ⟨le,fin⟩)
  | int j uj=>exact wpAny_getItem_str_slice (l:=none) (u:=some (j,uj)) (st:=none) ⟨o,h1,h2,h3⟩ rfl (post_val_or_str ⟨le,fin⟩)
 | int i ui =>
  cases pu with
  | none=>exact wpAny_getItem_str_slice (l:=some (i,ui)) (u:=none) (st:=none) ⟨o,h1,h2,h3⟩ rfl (post_val_or_str ⟨le,fin⟩)
  | int j uj=>exact wpAny_getItem_str_slice (l:=some (i,ui)) (u:=some (j,uj)) (st:=none) ⟨o,h1,h2,h3⟩ rfl (post_val_or_str ⟨le,fin⟩)
def Lj (x:D) (lo hi:Option Int) (Q:D→Prop):Prop:=match x with
 | .str z=>z.length≤sizeLine∧Q (.str (Txt.slice z lo hi))
 | _=>False
def Cj (ta:TD) (tl th:Ho):TD:=fun env Q=>ta env fun x=>tl env fun lo=>th env fun hi=>Lj x lo hi Q
theorem Co {lo hi:Option Expr} {tl th:Ho} {p2:Pos} (ha:QE X a ta) (hl:QO X lo tl) (hh:QO X hi th):QE X (.Subscript a (.Slice lo hi none p2) pos) (Cj ta tl th):=by
 refine⟨fun B σ F H env Q rp h=>?_⟩
 obtain⟨tl',pl,ql⟩:=hl
 obtain⟨th',ph,qh⟩:=hh
 refine bN (xp Hs bh pl ph) ?_
 refine aA (ha B σ F H env _ rp h) fun x H1 hq0=>?_
 obtain⟨F1,d,r1,s1,d1,q1⟩:=hq0
 refine ql B σ F1 H1 env _ _ r1 (fun lo' H2 F2 r2 s2 q2=>?_) q1
 refine qh B σ F2 H2 env _ _ r2 (fun hi' H3 F3 r3 s3 q3=>?_) q2
 have d3:=Den.mono (s2.trans s3) _ _ d1
 unfold Lj at q3
 split at q3
 ·simp only [Den] at d3
  subst d3
  exact⟨_,rfl,q3.1,F3,_,r3,(s1.trans s2).trans s3,hW,q3.2⟩
 ·exact q3.elim
def rJoin (K:PySem.W.Frag):V→List V→Hp→VK→Prop:=fun x xs H Q=>∃z p ys,x=.str z∧xs=[.ref p]∧fL K H p (ys.map V.str)∧z.length≤16∧(ys.map (·.length)).sum + ys.length≤1048576∧Q (.str (Txt.join z ys)) H
theorem xk:∀{ys:List Str} {us:List Value},Vals (ys.map V.str) us→StrsAre us ys
 | [],us,h=>by cases h;exact .nil
 | y :: ys,us,h=>by
  cases h with
  | cons h1 h2 =>
   obtain⟨t,rfl⟩:=h1
   exact .cons y t (xk h2)
theorem Er:L4 X "str.join" (rJoin X.K):=by
 intro pins s σ H x xs v us Q I rx rs h
 obtain⟨z,p,ys,rfl,rfl,hq,hz,hw,q⟩:=h
 obtain⟨t,rfl⟩:=rx
 obtain⟨u,rfl,ru⟩:=vals1 rs
 cases ru
 obtain⟨its,vz,pl,_⟩:=I.list hq
 exact join_listW pl.isList (xk vz) hz hw fun t' k=>⟨.str _,H,I.tok k,⟨t',rfl⟩,q⟩
def joinR (z:Str) (ds:List D) (Q:D→Prop):Prop:=∃ys:List Str,ds=[.lst (ys.map D.str)]∧z.length≤16∧(ys.map (·.length)).sum + ys.length≤1048576∧Q (.str (Txt.join z ys))
def wY (ta:TD) (ts:eQ):TD:=fun env Q=>ta env fun x=>∃z,x=.str z∧ts env fun ds=>joinR z ds Q
theorem sR {K:PySem.W.Frag} {F:Hp}:∀{ys:List Str} {vs:List V},aq K F (ys.map D.str) vs→vs=ys.map V.str
 | [],vs,h=>by simpa only [List.map_nil,aq] using h
 | y :: ys,vs,h=>by
  simp only [MQ,aq,Den] at h
  obtain⟨v,r,rfl,rfl,h⟩:=h
  rw [sR h];rfl
theorem BF {apos cpos:Pos} (ha:QE X a ta) (hb:QA X [b] ts) (hbase:attributeBase a "join" X.env (eval a X.env)=eval a X.env:=by rfl)
  (hfew:((backTo cpos (starEach [b] X.env)).all (fun x=>!x.1) && (backToKw cpos (keywordEach [] X.env)).all (fun x=>x.1.isSome)
   && decide ([b].length + ([]:List Keyword).length + (if ([]:List Keyword).isEmpty then 0 else 1) < 30))=true:=by rfl)
  (hline:(apos.endLine == cpos.line)=true:=by rfl) (hs:starEach [b] X.env=(false,eval b X.env) :: starEach [] X.env:=by exact aT rfl) (hplain:(backTo cpos (starEach ([]:List Expr) X.env)).any (·.1)=false:=by rfl) :
  QE X (.Call (.Attribute a "join" apos) [b] [] cpos) (wY ta ts):=by
 refine⟨fun B σ F H env Q rp h=>bN (wO PySem.F.plainAttrs_str PySem.F.slot_str_join PySem.F.type_str_join Er bh jF hbase hfew hline hs hplain) ?_⟩
 refine aA (ha B σ F H env _ rp h) fun x H1 hq0=>?_
 obtain⟨F1,d,r1,s1,d1,z,e,q1⟩:=hq0
 subst e
 simp only [Den] at d1
 subst d1
 refine⟨rfl,?_⟩
 refine cy (hb B σ F1 H1 env _ r1 q1) fun vs H2 hq0=>?_
 obtain⟨F2,ds,r2,s2,d2,ys,e2,h1,h2,q2⟩:=hq0
 ·subst e2
  simp only [aq,Den] at d2
  obtain⟨v,r,rfl,⟨p,ws,rfl,hq,hl⟩,rfl⟩:=d2
  have:=sR hl
  subst this
  exact⟨z,p,ys,rfl,rfl,r2.fh.seq hq,h1,h2,F2,_,r2,s1.trans s2,hW,q2⟩
end
end L2.L3
namespace L2.L3
open PySem PySem.Spec PyProof.Rows
section
variable {X:Cx} {p pos:Pos}
def c7 (i:Nat):TD:=fun env Q=>∃xs,env[i]?=some (some (.own xs))∧Q (.int xs.length)
theorem fP {x:Str} {px:Pos} (i:Nat) (hm:X.mg "len" = none) (hg:Gl X "len":=by rfl) (hN:X.N[i]?=some x:=by rfl) (hv:xA X.env.scope x:=by first | exact Or.inl rfl | exact Or.inr (Or.inl rfl) | exact Or.inr (Or.inr rfl)) (hd:(x == ("__debug__" : Str))=false:=by decide)
  (hcd:(x == ("__classdict__" : Str))=false:=by decide) (he:starEach [.Name x px] X.env=(false,eval (.Name x px) X.env) :: starEach [] X.env:=by exact aT rfl) (hpl:(backTo pos (starEach ([]:List Expr) X.env)).any (·.1)=false:=by rfl) :
  QE X (.Call (.Name "len" p) [.Name x px] [] pos) (c7 i):=by
 refine⟨fun B σ F H env Q rp h=>bN (xh mV hg hm tW (cT (eB hN hv hd hcd) gz he) (by decide) (by decide) he hpl) ?_⟩
 obtain⟨xs,hx,q⟩:=h
 obtain⟨p,vs,h1,h2,h3,h4,h5⟩:=rp.ov i xs hx
 refine⟨.ref p,h1,p,vs,rfl,.inl (fL.of h2),F,.int xs.length,rp,ar.refl _,?_,q⟩
 rw [h5.length];exact bo
end
end L2.L3
namespace L2.L3
open PySem PySem.Spec PyProof.Rows
section
variable {X:Cx} {N':List Str} {ix:List Nat} {scope:Scope} {elt a:Expr} {ifs:List Expr} {x:Str} {px py pos spos p pos2:Pos} {tt:TB} {te ta:TD} {ts:eQ}
theorem vB {y:Str} (i:Nat) (hNd:X.N.Nodup) (hc:X.calm=true) (O:bM X N' 1 ix scope) (hN:N'.Nodup) (h0:N'[0]?=some x) (hx:(relabel scope X.env).names.lookup x=some .local) (hgl:Gl X "range") (hm:X.mg "range" = none) (ha:QA X [a] ts)
  (ht:∀C s H fp pins,rS (aP X N' scope C s H fp pins) ifs tt) (he:∀C s H fp pins,QE (aP X N' scope C s H fp pins) elt te) (hy:X.N[i]?=some y:=by rfl) (hl:Loc X.env.scope y:=by first | exact Or.inl rfl | exact Or.inr rfl)
  (hsw:swapsWith (.ListComp elt [⟨.Name x px,.Call (.Name "range" p) [a] [] pos2,ifs,0⟩] scope pos) (some (.Name y py)) spos.line X.env=pure true:=by rfl) (hf:X.fn y=true∨X.env.scope.names.lookup y=some .local:=by first | exact .inl rfl | exact .inr rfl)
  (hst:starEach [a] X.env=[(false,eval a X.env)]:=by rfl) (hs:∀x,foldedSetIterable (.Call (.Name "range" p) [a] [] pos2) X.env x=pure x:=by intro _;rfl) :
  QS X (.Assign [.Name y py] (.ListComp elt [⟨.Name x px,.Call (.Name "range" p) [a] [] pos2,ifs,0⟩] scope pos) spos) (aV i (cY (gb iZ ix ts tt te))):=by
 refine⟨fun B σ F H env D rp h pins s I=>?_⟩
 refine qt hc (kE hgl hm jF hst) O hNd hy hl hsw hf hs pins s σ H _ I ?_
 refine cy (ha B σ F H env _ rp h) fun vs H1 hq0=>?_
 obtain⟨F1,ds,r1,s1,d1,q1⟩:=hq0
 (try dsimp only at q1);unfold iZ at q1
 split at q1
 ·simp only [aq,Den] at d1
  obtain⟨v,r,rfl,rfl,rfl⟩:=d1
  refine⟨_,rfl,q1.1.1,q1.1.2,?_⟩
  intro a' C s fp pins ha'
  obtain⟨W,w0,step⟩:=kF (X:=X) (px:=px) hN h0 hx ht he s1 r1 jN q1.2 a' C s fp pins ha'
  refine⟨W,w0,fun i' m σ' H' w=>?_⟩
  rcases step i' m σ' H' w with ⟨st,z⟩ | z
  ·refine .inl ⟨st,?_⟩
   obtain⟨F',d,r',s',hd,q'⟩:=RF.rv (Q:=fun x=>D.nx (env.set i (some (.d x)))) z
   refine⟨F',_,r'.set hd ?_,q'⟩
   rw [I.len];exact (Mo.mp hy).1
  ·exact .inr z
 ·exact q1.elim
end
end L2.L3
namespace L2.L3
open PySem PySem.Spec PyProof.Rows
section
variable {X:Cx} {b:Expr} {tb:TD} {x:Str} {tab:List (Str×Str)} {a:Addr} {es:Array DictEntry} {n:Nat} {p pos:Pos}
end
end L2.L3
namespace L2.L3
open PySem PySem.Spec PyProof.Rows
section
variable {X:Cx} {e:Expr} {ts:eQ} {p pos:Pos}
end
end L2.L3
namespace L2.L3
open PySem
section
variable {Q:D→Prop} {i j:Int} {xs ys:List D} {z z':Str} {C:Int→Int→Prop} {g:Int→Int→D} {k:Bool}
theorem rC:yc C g (.int i) (.int j) Q=(C i j∧Q (g i j)):=rfl
theorem jm:bK (.int i) (.int j) Q=Q (.int (i + j)):=rfl
theorem kL:bK (.lst xs) (.lst ys) Q=(xs.length + ys.length≤sizeLine∧Q (.lst (xs ++ ys))):=rfl
theorem kJ:bK (.tup xs) (.tup ys) Q=(xs.length + ys.length≤sizeLine∧Q (.tup (xs ++ ys))):=rfl
theorem eD:bK (.str z) (.str z') Q=(z.length + z'.length≤sizeLine∧Q (.str (z ++ z'))):=rfl
theorem nH:jD (.int i) Q=Q (.int (-i)):=rfl
theorem y0:gN (.int i) (.int j) Q=Q (.bl (decide (i=j))):=by
 unfold gN gA;simp only [dep,a6,MX,and_self,true_and];rw [Bool.beq_eq_decide_eq]
theorem qV:lr (.int i) (.int j) Q=Q (.bl (!decide (i=j))):=by
 unfold lr gA;simp only [dep,a6,MX,and_self,true_and];rw [Bool.beq_eq_decide_eq]
theorem yq:gN (.str z) (.str z') Q=Q (.bl (z == z')):=by
 unfold gN gA;simp only [dep,a6,MX,and_self,true_and]
theorem yG {k':Bool}:gN (.bl k) (.bl k') Q=Q (.bl (k == k')):=by
 unfold gN gA;simp only [dep,a6,MX,and_self,true_and]
theorem y3:pE [.int i] Q=Q (.int i.natAbs):=by
 show Q _=Q _
 congr 2
 split <;> omega
theorem lL:gH [.lst xs] Q=Q (.int xs.length):=rfl
theorem lG:gH [.tup xs] Q=Q (.int xs.length):=rfl
theorem lT:gH [.str z] Q=(z.length≤sizeLine∧Q (.int z.length)):=rfl
theorem uB:Bv [.int i,.int j] Q=Q (.int (max i j)):=by
 show Q _=Q _
 congr 2
 split <;> omega
theorem u6:DU [.int i,.int j] Q=Q (.int (min i j)):=by
 show Q _=Q _
 congr 2
 split <;> omega
theorem nY:qY [.int i] Q=Q (.int i):=rfl
theorem n9:qY [.bl k] Q=Q (.int (if k then 1 else 0)):=rfl
theorem iI:f7 [.lst xs] Q=Q (.tup xs):=rfl
theorem iK:f7 [.tup xs] Q=Q (.tup xs):=rfl
theorem rB:cX (.lst xs)=some xs:=rfl
theorem rA:cX (.tup xs)=some xs:=rfl
theorem BV {lo hi:Option Int}:Ll (.lst xs) lo hi Q=Q (.lst (cutD xs lo hi)):=rfl
theorem yh {R:Int→Nat→Prop}:iZ [.int j] R=((-(2 ^ 62)≤j∧j < 2 ^ 62)∧R 0 j.toNat):=rfl
theorem yB {R:Int→Nat→Prop}:Fo [.int i,.int j] R=((-(2 ^ 62)≤i∧i < 2 ^ 62∧-(2 ^ 62)≤j∧j < 2 ^ 62)∧R i (j - i).toNat):=rfl
theorem Bi (bs:List Bool):boolsOf (bs.map D.bl)=some bs:=wB bs
def Pl (x:D):Prop:=Jd x≠.oth
def isInt:D→Bool | .int _=>true | .bl _=>true | _=>false
def K9:D→Bool | .bl _=>true | _=>false
def isTup:D→Bool | .tup _=>true | _=>false
theorem EU {x:D} (h:Pl x) (q:Q (.bl (isInt x))):EH "int" x Q:=by cases x <;> first | exact⟨_,rfl,q⟩ | exact absurd rfl h
theorem Hk {x:D} (h:Pl x) (q:Q (.bl (K9 x))):EH "bool" x Q:=by cases x <;> first | exact⟨_,rfl,q⟩ | exact absurd rfl h
theorem zT {x:D} (h:Pl x) (q:Q (.bl (isTup x))):EH "tuple" x Q:=by cases x <;> first | exact⟨_,rfl,q⟩ | exact absurd rfl h
end
def Cs (xs:List D) (R:D→List D→Prop):Prop:=match xs with | x :: r=>R x r | _=>False
theorem qG {x:D} {r:List D} {R:D→List D→Prop}:Cs (x :: r) R=R x r:=rfl
theorem qK (g:rJ) (gs:vi) (xs:List D) (env:En) (Q:En→Prop):ba g gs xs env Q=Cs xs fun x r=>g x env fun env'=>gs r env' Q:=by
 unfold ba Cs
 apply propext
 constructor
 ·rintro⟨x,y,rfl,h⟩;exact h
 ·intro h;split at h
  ·exact⟨_,_,rfl,h⟩
  ·exact h.elim
theorem bD {g:rJ} {tb:bB} {Z:Ends3} {xs:List D} (I:Nat→En→Prop)
  (step:∀(i:Nat) (x:D) (env:En) (N:En→Prop),xs[i]?=some x→I i env→(∀e,I (i + 1) e→N e)→g x env fun e=>tb { Z with nx:=N,ct:=N,bk:=Z.nx } e)
  (done:∀env,I xs.length env→Z.nx env) {env:En} (h0:I 0 env):turns g tb Z xs env:=by
 have go:∀(n k:Nat) (env:En),k + n=xs.length→I k env→turns g tb Z (xs.drop k) env:=by
  intro n
  induction n with
  | zero =>
   intro k env hk h
   rw [M6 (by omega)]
   exact done env (by rw [← hk];exact h)
  | succ n ih =>
   intro k env hk h
   have hx:xs[k]?=some (xs[k]'(by omega)):=by simp
   rw [drop_cons hx]
   exact step k _ env _ hx h fun e he=>ih (k + 1) e (by omega) he
 simpa using go xs.length 0 env (by omega) h0
theorem iF {te:TD} {fS:En} {Q:List D→Prop} (f:D→D):∀(xs acc:List D),(∀x∈xs,∀N:D→Prop,N (f x)→te (fS.set 0 (some (.d x))) N)→acc.length + xs.length≤sizeLine→Q (acc ++ xs.map f)→comps cJ te fS Q xs acc
 | [],acc,_,_,q=>by simpa [comps] using q
 | x :: xs,acc,h,hl,q=>by
  simp only [comps,cJ,if_true]
  refine h x MN _ ⟨by simp at hl;omega,iF f xs _ (fun y hy=>h y (ME _ hy)) (by simp at hl ⊢;omega) (by simpa using q)⟩
theorem kD {te:TD} {fS:En} {Q:List D→Prop} (R:D→D→Prop):∀(xs acc:List D),(∀x∈xs,∀N:D→Prop,(∀y,R x y→N y)→te (fS.set 0 (some (.d x))) N)→acc.length + xs.length≤sizeLine→(∀ys,ys.length=xs.length→(∀(i:Nat) (x y:D),xs[i]?=some x→ys[i]?=some y→R x y)→Q (acc ++ ys))→comps cJ te fS Q xs acc
 | [],acc,_,_,q=>by simpa [comps] using q [] rfl (by simp)
 | x :: xs,acc,h,hl,q=>by
  simp only [comps,cJ,if_true]
  refine h x MN _ fun y hy=>⟨by simp at hl;omega,kD R xs _ (fun y hy=>h y (ME _ hy)) (by simp at hl ⊢;omega) fun ys hl2 hr=>?_⟩
  rw [List.append_assoc]
  refine q (y :: ys) (by simpa using hl2) fun i a b ha hb=>?_
  cases i with
  | zero=>simp at ha hb;subst ha hb;exact hy
  | succ i=>exact hr i a b (by simpa using ha) (by simpa using hb)
theorem vh {α:Type} {xs:List α} {i:Int} (h0:0≤i) (h1:i < xs.length):kU xs i=xs[i.toNat]?:=by
 unfold L2.kU uQ
 rw [Mw h0,Mw h1];rfl
theorem ze {Q:D→Prop} {xs:List D} {i:Int} (h0:0≤i) (h1:i < xs.length) (q:∀v,v∈xs→Q v):bP (.lst xs) (.int i) Q:=by
 have hl:i.toNat < xs.length:=by omega
 exact⟨xs[i.toNat],by rw [vh h0 h1];simp,q _ (Nc hl)⟩
theorem ja {a b:Int} (h:0 < b):0≤a.fmod b∧a.fmod b < b:=⟨Int.fmod_nonneg_of_pos a h,Int.fmod_lt_of_pos a h⟩
def dg (n:Nat) (a:Int):Prop:=a.natAbs < 2 ^ n
theorem bits_le {n m:Nat} {a:Int} (h:dg n a) (hm:n≤m):dg m a:=MD h (Nat.pow_le_pow_right (by decide) hm)
theorem qM {n:Nat} {a:Int} (h:dg n a):Builtin.Int.intBits a≤n:=by
 unfold Builtin.Int.intBits
 by_cases e:a=0
 ·subst e;simp
 ·rw [Ms (by simpa using e)]
  have:a.natAbs≠0:=by omega
  exact (Nat.log2_lt this).mpr h
theorem ib {n m:Nat} {a b:Int} (ha:dg n a) (hb:dg m b) (h:n + m≤1000000):IntMulOk a b:=by
 have h1:=qM ha
 have h2:=qM hb
 unfold IntMulOk Builtin.Int.intTooBig
 have:¬ ((Builtin.Int.intBits a:Int) + (Builtin.Int.intBits b:Int) > (bitsLine:Int)):=by
  have:(1000000:Int)≤(bitsLine:Int):=by decide
  omega
 simp only [Bool.and_eq_true,decide_eq_true_eq]
 rintro⟨_,h3⟩
 exact this h3
theorem bits_mul {n m:Nat} {a b:Int} (ha:dg n a) (hb:dg m b):dg (n + m) (a * b):=by
 unfold dg at *
 rw [Int.natAbs_mul,Nat.pow_add]
 exact Nat.mul_lt_mul'' ha hb
theorem bits_add {n m:Nat} {a b:Int} (ha:dg n a) (hb:dg m b):dg (max n m + 1) (a + b):=by
 unfold dg at *
 have h1:(2:Nat) ^ n≤2 ^ max n m:=Nat.pow_le_pow_right (by decide) (Nat.le_max_left _ _)
 have h2:(2:Nat) ^ m≤2 ^ max n m:=Nat.pow_le_pow_right (by decide) (Nat.le_max_right _ _)
 rw [Nat.pow_succ]
 omega
theorem bits_neg {n:Nat} {a:Int} (ha:dg n a):dg n (-a):=by unfold dg at *;rwa [Int.natAbs_neg]
theorem Dy {n:Nat} {a b:Int} (hb:dg n b) (h0:b≠0) (hn:n≤9000):zM a b:=by
 refine⟨h0,?_⟩
 have:b.natAbs≠0:=by omega
 exact MD ((Nat.log2_lt this).mpr hb) hn
theorem ef {a b:Int} (h1:-(2 ^ 64) < a) (h2:a < 2 ^ 64):IntMulOk a b:=.of_left (intBits_le_64 h1 h2)
theorem fO {a b:Int} (h1:-(2 ^ 64) < b) (h2:b < 2 ^ 64):IntMulOk a b:=.of_right (intBits_le_64 h1 h2)
theorem y1 {c:Int} (j:Int) (h:j≠0∧j.natAbs < 2 ^ 256):zM c j:=Dy (n:=256) h.2 h.1 (by decide)
theorem x4 (i j:Int) (h:0≤j∧j≤1000000∧i.natAbs < 2 ^ 64):Ia i j:=h
theorem nz {c:Int} (j:Int) (h:j≠0):Bq c j:=h
theorem dZ (n:Nat) (a:Int) (h:a.natAbs < 2 ^ n):dg n a:=h
def HH (i:Nat) (e:En):Nat:=match e[i]? with | some (some (.own xs))=>xs.length | _=>0
def Fj (i:Nat) (e:En):Nat:=match e[i]? with | some (some (.d (.int j)))=>j.toNat | _=>0
end L2.L3
local macro_rules | `(tactic| simp_all_arith only [$ls,*]) => `(tactic| ((try dsimp only [$(⟨ls.elemsAndSeps⟩),*, L2.L3.aE, L2.L3.eR, L2.L3.bb, L2.L3.a8, L2.L3.j6, L2.L3.iU, L2.L3.aV, L2.L3.kT, L2.L3.jV, L2.L3.gd, L2.L3.cA, L2.L3.er, L2.L3.c9, L2.L3.rY, L2.L3.ag, L2.L3.cC, L2.L3.aB, L2.L3.qS, L2.L3.aJ, L2.L3.mi, L2.L3.n8, L2.L3.ya, L2.L3.m8, L2.L3.w4, L2.L3.mO, L2.L3.Gm, L2.L3.aw, L2.L3.af, L2.L3.au, L2.L3.bQ, L2.L3.gB, L2.L3.nP, L2.L3.cY, L2.L3.pA, L2.L3.GH, L2.L3.ju, L2.L3.fF, L2.L3.cM, L2.L3.aR, L2.L3.iw, L2.L3.ny, L2.L3.h7, L2.L3.cJ, L2.L3.aF, MQ, List.map_nil, List.length_cons, List.length_nil, List.cons_append, List.nil_append, List.getElem?_cons_zero, List.getElem?_cons_succ, List.set_cons_zero, List.set_cons_succ, L2.L3.hJ, L2.L3.gb, L2.L3.rC, L2.L3.jm, L2.L3.kL, L2.L3.kJ, L2.L3.eD, L2.L3.nH, L2.L3.lL, L2.L3.lG, L2.L3.lT, L2.L3.nY, L2.L3.n9, L2.L3.iI, L2.L3.iK]); (try simp only [$ls,*, L2.L3.aE, L2.L3.eR, L2.L3.bb, L2.L3.a8, L2.L3.j6, L2.L3.iU, L2.L3.aV, L2.L3.kT, L2.L3.jV, L2.L3.gd, L2.L3.cA, L2.L3.er, L2.L3.c9, L2.L3.rY, L2.L3.ag, L2.L3.cC, L2.L3.aB, L2.L3.qS, L2.L3.aJ, L2.L3.mi, L2.L3.n8, L2.L3.ya, L2.L3.m8, L2.L3.w4, L2.L3.mO, L2.L3.Gm, L2.L3.aw, L2.L3.af, L2.L3.au, L2.L3.bQ, L2.L3.gB, L2.L3.nP, L2.L3.cY, L2.L3.pA, L2.L3.GH, L2.L3.ju, L2.L3.fF, L2.L3.cM, L2.L3.aR, L2.L3.iw, L2.L3.qK, L2.L3.qG, L2.L3.ny, L2.L3.h7, L2.L3.cJ, L2.L3.aF, MQ, List.map_nil, List.length_cons, List.length_nil, List.cons_append, List.nil_append, MV, List.getElem?_cons_zero, List.getElem?_cons_succ, List.getElem?_nil, List.set_cons_zero, List.set_cons_succ, Option.some.injEq, L2.L3.Lo.d.injEq, L2.L3.Lo.own.injEq, L2.L3.D.bl.injEq, L2.L3.D.int.injEq, exists_eq_left', exists_eq_left, Nat.reduceAdd, Nat.reduceSub, Nat.sub_self, Nat.add_one_sub_one, List.replicate_succ, List.replicate_zero, L2.L3.D.tup.injEq, List.cons.injEq, and_assoc, L2.L3.hJ, L2.L3.gb, L2.L3.rC, L2.L3.jm, L2.L3.kL, L2.L3.kJ, L2.L3.eD, L2.L3.nH, L2.L3.y0, L2.L3.qV, L2.L3.yq, L2.L3.yG, L2.L3.y3, L2.L3.lL, L2.L3.lG, L2.L3.lT, L2.L3.uB, L2.L3.u6, L2.L3.nY, L2.L3.n9, L2.L3.iI, L2.L3.iK, L2.L3.rB, L2.L3.rA, L2.L3.BV, L2.L3.yh, L2.L3.yB, decide_eq_true_eq, true_and, and_true, if_true, if_false, Mt, Bool.not_eq_true', decide_eq_false_iff_not, PySem.sizeLine_eq, Int.reduceToNat, Int.reducePow, Int.reduceMul, Int.reduceAdd, Int.reduceNeg, Int.reduceSub, Int.reduceLT, Int.reduceLE, Int.reduceEq, Nat.reduceEqDiff, decide_true, decide_false, Nat.reduceLeDiff, Nat.reduceLT, Bool.true_eq_false, Bool.not_true, Bool.not_false, Bool.not_not])))
local macro_rules | `(tactic| simp_arith! only [$ls,*] $[$loc]?) => `(tactic| ((try dsimp only [$(⟨ls.elemsAndSeps⟩),*, L2.L3.aE, L2.L3.eR, L2.L3.bb, L2.L3.a8, L2.L3.j6, L2.L3.iU, L2.L3.aV, L2.L3.kT, L2.L3.jV, L2.L3.gd, L2.L3.cA, L2.L3.er, L2.L3.c9, L2.L3.rY, L2.L3.ag, L2.L3.cC, L2.L3.aB, L2.L3.qS, L2.L3.aJ, L2.L3.mi, L2.L3.n8, L2.L3.ya, L2.L3.m8, L2.L3.w4, L2.L3.mO, L2.L3.Gm, L2.L3.aw, L2.L3.af, L2.L3.au, L2.L3.bQ, L2.L3.gB, L2.L3.nP, L2.L3.cY, L2.L3.pA, L2.L3.GH, L2.L3.ju, L2.L3.fF, L2.L3.cM, L2.L3.aR, L2.L3.iw, L2.L3.ny, L2.L3.h7, L2.L3.cJ, L2.L3.aF, MQ, List.map_nil, List.length_cons, List.length_nil, List.cons_append, List.nil_append, List.getElem?_cons_zero, List.getElem?_cons_succ, List.set_cons_zero, List.set_cons_succ, L2.L3.hJ, L2.L3.gb, L2.L3.rC, L2.L3.jm, L2.L3.kL, L2.L3.kJ, L2.L3.eD, L2.L3.nH, L2.L3.lL, L2.L3.lG, L2.L3.lT, L2.L3.nY, L2.L3.n9, L2.L3.iI, L2.L3.iK, L2.L3.jr, L2.L3.lI, L2.L3.Jm, L2.L3.Bn, L2.L3.rM, L2.L3.AB, L2.L3.kO, L2.L3.i9, L2.L3.c7] $[$loc]?); (try simp only [$ls,*, L2.L3.aE, L2.L3.eR, L2.L3.bb, L2.L3.a8, L2.L3.j6, L2.L3.iU, L2.L3.aV, L2.L3.kT, L2.L3.jV, L2.L3.gd, L2.L3.cA, L2.L3.er, L2.L3.c9, L2.L3.rY, L2.L3.ag, L2.L3.cC, L2.L3.aB, L2.L3.qS, L2.L3.aJ, L2.L3.mi, L2.L3.n8, L2.L3.ya, L2.L3.m8, L2.L3.w4, L2.L3.mO, L2.L3.Gm, L2.L3.aw, L2.L3.af, L2.L3.au, L2.L3.bQ, L2.L3.gB, L2.L3.nP, L2.L3.cY, L2.L3.pA, L2.L3.GH, L2.L3.ju, L2.L3.fF, L2.L3.cM, L2.L3.aR, L2.L3.iw, L2.L3.qK, L2.L3.qG, L2.L3.ny, L2.L3.h7, L2.L3.cJ, L2.L3.aF, MQ, List.map_nil, List.length_cons, List.length_nil, List.cons_append, List.nil_append, MV, List.getElem?_cons_zero, List.getElem?_cons_succ, List.getElem?_nil, List.set_cons_zero, List.set_cons_succ, Option.some.injEq, L2.L3.Lo.d.injEq, L2.L3.Lo.own.injEq, L2.L3.D.bl.injEq, L2.L3.D.int.injEq, exists_eq_left', exists_eq_left, Nat.reduceAdd, Nat.reduceSub, Nat.sub_self, Nat.add_one_sub_one, List.replicate_succ, List.replicate_zero, L2.L3.D.tup.injEq, List.cons.injEq, and_assoc, L2.L3.hJ, L2.L3.gb, L2.L3.rC, L2.L3.jm, L2.L3.kL, L2.L3.kJ, L2.L3.eD, L2.L3.nH, L2.L3.y0, L2.L3.qV, L2.L3.yq, L2.L3.yG, L2.L3.y3, L2.L3.lL, L2.L3.lG, L2.L3.lT, L2.L3.uB, L2.L3.u6, L2.L3.nY, L2.L3.n9, L2.L3.iI, L2.L3.iK, L2.L3.rB, L2.L3.rA, L2.L3.BV, L2.L3.yh, L2.L3.yB, decide_eq_true_eq, true_and, and_true, if_true, if_false, Mt, Bool.not_eq_true', decide_eq_false_iff_not, PySem.sizeLine_eq, Int.reduceToNat, Int.reducePow, Int.reduceMul, Int.reduceAdd, Int.reduceNeg, Int.reduceSub, Int.reduceLT, Int.reduceLE, Int.reduceEq, Nat.reduceEqDiff, decide_true, decide_false, Nat.reduceLeDiff, Nat.reduceLT, Bool.true_eq_false, Bool.not_true, Bool.not_false, Bool.not_not, L2.L3.jr, L2.L3.lI, L2.L3.Jm, L2.L3.Bn, L2.L3.rM, L2.L3.AB, L2.L3.uT, L2.L3.kO, L2.L3.sI, L2.L3.sQ, L2.L3.D.lst.injEq, L2.L3.i9, L2.L3.c7] $[$loc]?)))
namespace L2.L3
open PySem
def F1 (P:D→(D→Prop)→Prop):Fw:=fun ds Q=>∃x,ds=[x]∧P x Q
def F2 (P:D→D→(D→Prop)→Prop):Fw:=fun ds Q=>∃x y,ds=[x,y]∧P x y Q
def F3 (P:D→D→D→(D→Prop)→Prop):Fw:=fun ds Q=>∃x y z,ds=[x,y,z]∧P x y z Q
theorem jZ {P}:∀ds Q,F1 P ds Q→ds.length=1:=by rintro ds Q ⟨x,rfl,_⟩;rfl
theorem iE {P}:∀ds Q,F2 P ds Q→ds.length=2:=by rintro ds Q ⟨x,y,rfl,_⟩;rfl
theorem qX {P}:∀ds Q,F3 P ds Q→ds.length=3:=by rintro ds Q ⟨x,y,z,rfl,_⟩;rfl
theorem iJ {P} {x:D} {Q}:F1 P [x] Q=P x Q:=by
 unfold F1;apply propext;constructor
 ·rintro⟨x',e,h⟩;cases e;exact h
 ·intro h;exact⟨_,rfl,h⟩
theorem cU {P} {x y:D} {Q}:F2 P [x,y] Q=P x y Q:=by
 unfold F2;apply propext;constructor
 ·rintro⟨x',y',e,h⟩;cases e;exact h
 ·intro h;exact⟨_,_,rfl,h⟩
theorem lh {P} {x y z:D} {Q}:F3 P [x,y,z] Q=P x y z Q:=by
 unfold F3;apply propext;constructor
 ·rintro⟨x',y',z',e,h⟩;cases e;exact h
 ·intro h;exact⟨_,_,_,rfl,h⟩
def IC:D→Bool | .int _=>true | _=>false
def yK (x:D) (Q:D→Prop):Prop:=Pl x∧Q (.bl (IC x))
def yW:Fw:=F1 yK
def pV:bB:=(bb (m8 (nP "int" (ag 0)) (mO (nP "bool" (ag 0)))))
theorem x8:∀ds (Q:D→Prop),yW ds Q→pV { nx:=fun _=>Q .non,rt:=Q } (aF ["thing"] ds):=by
 rintro ds Q ⟨x,rfl,hx,h⟩
 simp_all_arith only [pV]
 refine EU hx ⟨_,rfl,?_⟩
 cases x <;> simp only [isInt,if_true,Mt,if_false] <;> first | exact h | exact Hk hx ⟨_,rfl,h⟩
end L2.L3
namespace L2.L3
open PySem
def Ao (ns:List Int) (k:Int):Int:=if k < ns.length then ns.getD k.toNat 0 else 0
def zN (x y:D) (Q:D→Prop):Prop:=∃(ns:List Int) (k:Int),x=.lst (ns.map D.int)∧y=.int k∧0≤k∧Q (.int (Ao ns k))
def yZ:Fw:=F2 zN
def rg:bB:=(aE (eR (aJ (aB yb (ag 1) (aw gH (af (ag 0) au)))) (bb (aB bP (ag 0) (ag 1))) a8) (bb (cC (.int 0))))
theorem wy:∀ds (Q:D→Prop),yZ ds Q→rg { nx:=fun _=>Q .non,rt:=Q } (aF ["_law_script","_law_k"] ds):=by
 rintro ds Q ⟨x,y,rfl,ns,k,rfl,rfl,hk,h⟩
 simp_all_arith only [rg,MB]
 unfold Ao at h
 by_cases hl:k < ns.length
 ·rw [Mw hl] at h ⊢
  have hn:k.toNat < ns.length:=by omega
  refine⟨.int (ns.getD k.toNat 0),?_,h⟩
  rw [vh hk (by simpa using hl)]
  simp [hn]
 ·rw [Ms hl] at h ⊢;exact h
def dX:Fw:=F1 yK
def oV:bB:=(bb (m8 (nP "int" (ag 0)) (mO (nP "bool" (ag 0)))))
theorem sd:∀ds Q,dX ds Q→ds.length=1:=jZ
theorem vE:∀ds (Q:D→Prop),dX ds Q→oV { nx:=fun _=>Q .non,rt:=Q } (aF ["_law_thing_here"] ds):=by
 exact x8
end L2.L3
namespace L2.L3
open PySem PySem.Spec PyProof.Rows
end L2.L3
namespace L2
open PySem PySem.Spec PyProof.Rows
theorem Inv.EO {X:Cx} {pins:List (Addr×Obj)} {σ:St} {H:Hp} {s:Shared} {h':Heap} {t':Nat} {ch:List Addr} (I:Inv X pins σ H s) (k:∀b o,b∉ch→s.heap.get? b=some o→h'.get? b=some o) (hf:∀b∈ch,lZ X pins H b) :
  Inv X pins σ H { s with heap:=h',toks:=t' }:=by
 have far:∀b u,H b=some u→b∉ch:=fun b u e z=>by rw [(hf b z).1] at e;cases e
 refine I.step (g':=s.gens) (d':=s.drawn) (ch:=ch) (fun b hb=>⟨(hf b hb).2.2.2.1,(hf b hb).2.1,(hf b hb).2.2.2.2.1,(hf b hb).2.2.2.2.2⟩) (fun b o _ _ hc e _=>k b o hc e) (fun b o _ _ hc e _=>⟨o.slots,k b o hc e⟩)
  (fun _ _ _ _ n=>n) (fun b o hc e=>⟨o,k b o hc e⟩) (fun _ _ e=>e) (fun _ _ _ e=>e) (fun b ps e=>⟨#[],by rw [e];simp⟩) (fun m hm=>?_) (fun b u e=>?_) I.bare
 ·obtain⟨o,es,ep,ho,r⟩:=hm
  exact⟨o,es,ep,k _ o (fun z=>(hf _ z).2.1 rfl) ho,r⟩
 ·refine (I.hok b u e).pX (fun c v hc q=>k c v ?_ q) (fun _ q=>q) fun _ _ q=>q
  rcases hc with z | z
  ·rw [z];exact far b u e
  ·exact far c _ z
section
variable {prog:Program} {w:World} {A:Around} {E:Value→Shared→Prop} {s:Shared}
theorem IK {j l:Addr} {k:Nat} {its:Array Value} {y:Value} {Q:Value→Shared→Prop} (hj:s.heap.IsTupleIter j l k) (hl:s.heap.IsTuple l its) (hy:its[k]?=some y)
  (q:∀h1,h1.IsTupleIter j l (k + 1)→Heap.SameBut j s.heap h1→Q y { s with heap:=h1 }):wpAny (model prog w) A (Builtin.SmallTypes.nextOf (.ref j)) Q E s:=by
 obtain⟨oj,e1,c1,d1⟩:=id hj
 obtain⟨ot,e2,_,_,d2⟩:=hl
 unfold Builtin.SmallTypes.nextOf
 refine Mn (wpAny_callSpecial?_slot (name:=Str.ofString "__next__") hj.typeIs F.slot_tuple_iterator_next (wpAny_call_entry F.slot_tuple_iterator_next hj.typeIs F.entry_tuple_iterator_next ?_ (F.args_tuple_iterator_next_1 _)))
 show wpAny _ _ (field (.ref j) 0 >>= _) _ _ s
 refine Mn (wpAny_field e1 d1 (x:=.ref l) rfl ?_)
 show wpAny _ _ (if (Value.ref l == Value.none)=true then _ else _) _ _ s
 rw [Ms (show ¬ ((Value.ref l == Value.none)=true) from Bool.false_ne_true)]
 show wpAny _ _ (field (.ref j) 1 >>= _) _ _ s
 refine Mn (wpAny_field e1 d1 (x:=.int k 0) rfl ?_)
 show wpAny _ _ (seqItems? (.ref l) >>= _) _ _ s
 refine Mn (wpAny_seqItems e2 d2 ?_)
 simp only [Int.toNat_natCast,hy]
 refine Mn (wpAny_setField e1 d1 (by simp) (Mr ⟨y,rfl,Mr (q _ ?_ (Heap.SameBut.update ..))⟩))
 exact⟨_,Heap.get?_update_self _ e1 (Obj.isFreed_of_fields (Obj.data_mapFields d1 _)),(Obj.cls_mapFields ..).trans c1,by rw [Obj.data_mapFields d1];simp [rawInt]⟩
theorem yk {j l:Addr} {k:Nat} {its:Array Value} {Q:Value→Shared→Prop} (hh:A.handled=none) (hj:s.heap.IsTupleIter j l k) (hl:s.heap.IsTuple l its) (hy:its[k]?=none)
  (q:∀h1 e,Heap.ExtBut j s.heap h1→(∃o,h1.get? e=some o∧o.cls=.type "StopIteration")→E (.ref e) { s with heap:=h1 }):wpAny (model prog w) A (Builtin.SmallTypes.nextOf (.ref j)) Q E s:=by
 obtain⟨oj,e1,c1,d1⟩:=id hj
 obtain⟨ot,e2,_,_,d2⟩:=hl
 unfold Builtin.SmallTypes.nextOf
 refine Mn (wpAny_callSpecial?_slot (name:=Str.ofString "__next__") hj.typeIs F.slot_tuple_iterator_next (wpAny_call_entry F.slot_tuple_iterator_next hj.typeIs F.entry_tuple_iterator_next ?_ (F.args_tuple_iterator_next_1 _)))
 show wpAny _ _ (field (.ref j) 0 >>= _) _ _ s
 refine Mn (wpAny_field e1 d1 (x:=.ref l) rfl ?_)
 show wpAny _ _ (if (Value.ref l == Value.none)=true then _ else _) _ _ s
 rw [Ms (show ¬ ((Value.ref l == Value.none)=true) from Bool.false_ne_true)]
 show wpAny _ _ (field (.ref j) 1 >>= _) _ _ s
 refine Mn (wpAny_field e1 d1 (x:=.int k 0) rfl ?_)
 show wpAny _ _ (seqItems? (.ref l) >>= _) _ _ s
 refine Mn (wpAny_seqItems e2 d2 ?_)
 simp only [Int.toNat_natCast,hy]
 refine Mn (wpAny_rule (Mn (wpAny_setField e1 d1 (by simp) (show wpAny _ _ (newExc (.type "StopIteration") [] >>= _) _ _ _ from Mn ?_))))
 simp only [newExc,newTuple]
 refine Mn (wpAny_newObj_type (Mn (m:=firstArgMember _ _) (wpAny_of_eq (a:=Value.none) (by first | rfl | (simp only [firstArgMember];rfl)) (wpAny_newObj_type ?_ (by size_fits)))) (by size_fits))
 simp only [raiseNew]
 refine Mn (wpAny_handled ?_)
 first | rw [show A.in1.handled=none from hh] | rw [hh]
 exact Mn (Mr (wpAny_throw (q _ _ (((Heap.SameBut.update ..).extBut.push _).push _) ⟨_,MM _ rfl,rfl⟩)))
theorem EZ {e j:Addr} {k:Nat} {y z:Value} {T:Heap→Prop} {Q:Value→Shared→Prop} (he:IsEnum s.heap e j k z) (ne:e≠j)
  (nx:∀R:Value→Shared→Prop,(∀h1,T h1→Heap.SameBut j s.heap h1→R y { s with heap:=h1 })→wpAny (model prog w) A (Builtin.SmallTypes.nextOf (.ref j)) R E s)
  (mv:∀h1 h2:Heap,T h1→(∀o,h1.get? j=some o→h2.get? j=some o)→T h2) (hj:∀h1,T h1→∃o,h1.get? j=some o)
  (q:∀h1,IsEnumOut h1 e j ((k:Int) + 1) y s.heap.objs.size→T h1→h1.get? s.heap.objs.size=some { cls:=.type "tuple",data:=.seq #[.int k s.toks,y] }→(∀b o,b≠e→b≠j→s.heap.get? b=some o→h1.get? b=some o) →
   Q (.ref s.heap.objs.size) { s with heap:=h1,toks:=s.toks + 1 }) :
  wpAny (model prog w) A (Builtin.«enumerate.__next__» ⟨[.ref e],[]⟩) (fun fin s'=>∃v,fin=.done (.ret v)∧Q v s') E s:=by
 obtain⟨hp,g,d,tk,os⟩:=s
 show wpAny _ _ (field (.ref e) 2 >>= _) _ _ _
 refine Mn (wpAny_field he rfl (x:=.ref j) rfl (Mn (nx _ fun g1 t1 b1=>?_)))
 replace b1:Heap.SameBut j hp g1:=b1
 have i1:IsEnum g1 e j k z:=(b1.2 e ne).trans he
 show wpAny _ _ (field (.ref e) 3 >>= _) _ _ ⟨g1,g,d,tk,os⟩
 refine Mn (wpAny_field i1 rfl (x:=rawInt k) rfl ?_)
 show wpAny _ _ (field (.ref e) 4 >>= _) _ _ ⟨g1,g,d,tk,os⟩
 refine Mn (wpAny_field i1 rfl (x:=.none) rfl ?_)
 show wpAny _ _ (mkInt k >>= _) _ _ ⟨g1,g,d,tk,os⟩
 refine Mn (wpAny_mkInt ?_)
 show wpAny _ _ (setField (.ref e) 3 (rawInt ((k:Int) + 1)) >>= _) _ _ ⟨g1,g,d,tk + 1,os⟩
 refine Mn (wpAny_setField_rec i1 (by simp) fun g2 i2 b2=>?_)
 replace b2:Heap.SameBut e g1 g2:=b2
 replace i2:IsEnum g2 e j ((k:Int) + 1) z:=i2
 show wpAny _ _ (setField (.ref e) 4 .none >>= _) _ _ ⟨g2,g,d,tk + 1,os⟩
 refine Mn (wpAny_setField_rec i2 (by simp) fun g3 i3 b3=>?_)
 replace b3:Heap.SameBut e g2 g3:=b3
 replace i3:IsEnum g3 e j ((k:Int) + 1) z:=i3
 show wpAny _ _ (newTuple [.int k tk,y] >>= _) _ _ ⟨g3,g,d,tk + 1,os⟩
 refine Mn (wpAny_newTuple ?_)
 have i4:IsEnum (g3.push { cls:=.type "tuple",data:=.seq #[.int k tk,y] }) e j ((k:Int) + 1) z:=Mz _ i3
 generalize eg:g3.push { cls:=.type "tuple",data:=.seq #[.int k tk,y] }=g4 at i4
 have sz:g3.objs.size=hp.objs.size:=by rw [b3.1,b2.1,b1.1]
 have lt:e < hp.objs.size:=MI he
 have t4:g4.get? hp.objs.size=some { cls:=.type "tuple",data:=.seq #[.int k tk,y] }:=by rw [← eg,← sz];exact MM _ rfl
 have k4:∀b o,b≠e→b≠j→hp.get? b=some o→g4.get? b=some o:=fun b o n1 n2 hb=>by
  rw [← eg];exact Mz _ (b3.extBut b o n1 (b2.extBut b o n1 (b1.extBut b o n2 hb)))
 have T4:T g4:=mv g1 g4 t1 fun o ho=>by rw [← eg];exact Mz _ (b3.extBut j o (Ne.symm ne) (b2.extBut j o (Ne.symm ne) ho))
 show wpAny _ _ (Builtin.SmallTypes.ownedTupleIsFree (.ref e) >>= _) _ _ ⟨g4,g,d,tk + 1,os⟩
 rw [sz]
 clear eg i3 b3 i2 b2 i1 b1 t1 sz g3 g2 g1
 refine Mn ?_
 unfold Builtin.SmallTypes.ownedTupleIsFree
 refine Mn (wpAny_field i4 rfl (x:=.none) rfl (Mr ?_))
 simp only [if_true]
 refine Mn (wpAny_rule (Mn (wpAny_field i4 rfl (x:=z) rfl (Mn (wpAny_setField_rec i4 (by simp) fun g5 i5 b5=>?_)))))
 replace b5:Heap.SameBut e g4 g5:=b5
 replace i5:IsEnum g5 e j ((k:Int) + 1) y:=i5
 show wpAny _ _ (Builtin.SmallTypes.ownedTupleHandOut (.ref e) (.ref hp.objs.size) >>= _) _ _ ⟨g5,g,d,tk + 1,os⟩
 refine Mn ?_
 unfold Builtin.SmallTypes.ownedTupleHandOut
 refine Mn (wpAny_setField_rec i5 (by simp) fun g6 i6 b6=>?_)
 replace b6:Heap.SameBut e g5 g6:=b6
 replace i6:IsEnumOut g6 e j ((k:Int) + 1) y hp.objs.size:=i6
 refine wpAny_setField_rec i6 (by simp) fun g7 i7 b7=>?_
 replace b7:Heap.SameBut e g6 g7:=b7
 replace i7:IsEnumOut g7 e j ((k:Int) + 1) y hp.objs.size:=i7
 have far:∀b o,b≠e→g4.get? b=some o→g7.get? b=some o:=fun b o n hb=>b7.extBut _ _ n (b6.extBut _ _ n (b5.extBut _ _ n hb))
 refine Mn (wpAny_letGo (Mr ⟨_,rfl,q g7 i7 (mv g4 g7 T4 fun o ho=>far j o (Ne.symm ne) ho) (far _ _ (Nat.ne_of_gt lt) t4) fun b o n1 n2 hb=>far b o n1 (k4 b o n1 n2 hb)⟩))
theorem zF {e j:Addr} {k:Nat} {y z:Value} {T:Heap→Prop} {Q:Option Value→Shared→Prop} (he:IsEnum s.heap e j k z) (ne:e≠j)
  (nx:∀(A':Around) (E':Value→Shared→Prop) (R:Value→Shared→Prop),(∀h1,T h1→Heap.SameBut j s.heap h1→R y { s with heap:=h1 })→wpAny (model prog w) A' (Builtin.SmallTypes.nextOf (.ref j)) R E' s)
  (mv:∀h1 h2:Heap,T h1→(∀o,h1.get? j=some o→h2.get? j=some o)→T h2) (hj:∀h1,T h1→∃o,h1.get? j=some o)
  (q:∀h1,IsEnumOut h1 e j ((k:Int) + 1) y s.heap.objs.size→T h1→h1.get? s.heap.objs.size=some { cls:=.type "tuple",data:=.seq #[.int k s.toks,y] }→(∀b o,b≠e→b≠j→s.heap.get? b=some o→h1.get? b=some o) →
   Q (some (.ref s.heap.objs.size)) { s with heap:=h1,toks:=s.toks + 1 }):wpAny (model prog w) A (pyNext (.ref e)) Q E s:=by
 have ty:s.TypeIs (.ref e) "enumerate":=⟨_,he,rfl⟩
 unfold pyNext
 exact Mn (wpAny_attempt (wpAny_callSpecial?_slot (name:=Str.ofString "__next__") ty F.slot_enumerate_next (wpAny_call_entry F.slot_enumerate_next ty F.entry_enumerate_next
  (EZ he ne (fun R hR=>nx _ _ R hR) mv hj fun h1 a b c d=>Mr (q h1 a b c d)) (F.args_enumerate_next_1 _))))
theorem Bt {e j:Addr} {k:Nat} {z:Value} {Q:Option Value→Shared→Prop} (he:IsEnum s.heap e j k z)
  (nx:∀(A':Around) (E':Value→Shared→Prop),A'.handled=A.handled→(∀h1 x,Heap.ExtBut j s.heap h1→(∃o,h1.get? x=some o∧o.cls=.type "StopIteration")→E' (.ref x) { s with heap:=h1 })→wpAny (model prog w) A' (Builtin.SmallTypes.nextOf (.ref j)) (fun _ _=>False) E' s)
  (q:∀h1,Heap.ExtBut j s.heap h1→Q none { s with heap:=h1 }):wpAny (model prog w) A (pyNext (.ref e)) Q E s:=by
 have ty:s.TypeIs (.ref e) "enumerate":=⟨_,he,rfl⟩
 unfold pyNext
 refine Mn (wpAny_attempt (wpAny_callSpecial?_slot (name:=Str.ofString "__next__") ty F.slot_enumerate_next (wpAny_call_entry F.slot_enumerate_next ty F.entry_enumerate_next ?_ (F.args_enumerate_next_1 _))))
 show wpAny _ _ (field (.ref e) 2 >>= _) _ _ _
 refine Mn (wpAny_field he rfl (x:=.ref j) rfl (Mn (MO (nx _ _ rfl fun h1 x b1 c1=>?_) (fun _ _ f=>f.elim) fun _ _ u=>u)))
 obtain⟨o,ho,hc⟩:=c1
 exact Mn (wpAny_isInstance (T:="StopIteration") (b:=true) ⟨o,ho,hc⟩ isSubtype_stop (Mr (q _ b1)))
end
end L2
namespace L2.L3
open PySem PySem.Spec PyProof.Rows
def Jz (S:Hp→List V→Prop):It :=
 ⟨fun i H=>∃xs x,S H xs∧xs[i]?=some x,fun i H y H'=>∃p x,(∀xs,S H xs→xs[i]?=some x)∧H p=none∧y=.ref p∧H'=upd H p (.tup [.int i,x]),fun i H=>∃xs,S H xs∧xs.length≤i⟩
theorem Bs {X:Cx} {pins:List (Addr×Obj)} {σ:St} {H:Hp} {s:Shared} {e j:Addr} {i:Nat} {x:V} {u:Value} {h2:Heap} (I:Inv X pins σ H s) (hf:∀b∈[e,j],lZ X pins H b) (ru:RelV x u)
  (lt:e < s.heap.objs.size) (lj:j < s.heap.objs.size) (t1:h2.get? s.heap.objs.size=some { cls:=.type "tuple",data:=.seq #[.int i s.toks,u] }) (fr:∀b o,b≠e→b≠j→s.heap.get? b=some o→h2.get? b=some o) :
  Inv X pins σ (upd H s.heap.objs.size (.tup [.int i,x])) { s with heap:=h2,toks:=s.toks + 1 }∧H s.heap.objs.size=none:=by
 have hn:H s.heap.objs.size=none:=I.hok.fresh (Mx _)
 refine⟨?_,hn⟩
 have I1:Inv X pins σ (upd H s.heap.objs.size (.tup [.int i,x])) { s with heap:=s.heap.push { cls:=.type "tuple",data:=.seq #[.int i s.toks,u] },toks:=s.toks } :=
  I.laid (t':=s.toks) (fun b o e=>Mz _ e) (Mx _) (show bO X.prog X.w _ _ _ (.tup [.int i,x]) from ⟨by simp [PySem.sizeLine_eq],[.int i s.toks,u],.cons ⟨_,rfl⟩ (.cons ru .nil),uo.new _ _⟩)
 refine Inv.EO (s:={ s with heap:=s.heap.push { cls:=.type "tuple",data:=.seq #[.int i s.toks,u] },toks:=s.toks }) (h':=h2) (t':=s.toks + 1) (ch:=[e,j]) I1 (fun b o hb hg=>?_) fun b hb=>?_
 ·have nb1:b≠e:=fun z=>hb (by simp [z])
  have nb2:b≠j:=fun z=>hb (by simp [z])
  rcases Heap.get?_push_cases hg with ⟨rfl,rfl⟩ | hg
  ·exact t1
  ·exact fr b o nb1 nb2 hg
 ·obtain⟨f0,f⟩:=hf b hb
  refine⟨?_,f⟩
  rw [aC];exact f0
  rcases ML.mp hb with rfl | hb
  ·exact MR lt
  ·rw [MK.mp hb];exact MR lj
theorem BJ {P:Program} {w:World} {K:PySem.W.Frag} {elts:List Expr} {x1:Nat} {tp:Pos} (a e j:Addr) (ne:e≠j):Turn P w K (.Tuple elts x1 tp) (Jz fun H xs=>fL K H a xs) [e,j] e (fun i h=>(∃z,IsEnum h e j i z)∧h.IsListIter j a i) where
 mem:=by simp
 obj:=fun i h st b hb=>by
  obtain⟨⟨z,e1⟩,o,e2,c,d⟩:=st
  rcases ML.mp hb with rfl | hb
  ·exact⟨_,e1,fun v q=>by
    have q':Data.fields _=Data.cell v:=q
    cases q'⟩
  ·rw [MK.mp hb];exact⟨o,e2,fun v q=>by rw [d] at q;cases q⟩
 keep:=fun i h h' st k=>⟨⟨st.1.choose,k e (by simp) _ st.1.choose_spec⟩,st.2.at fun o q=>k j (by simp) o q⟩
 item:=by
  intro X hP hw hK hc i pins s σ H E I hf st hg
  subst hP hw hK
  obtain⟨⟨z,he⟩,hj⟩:=st
  obtain⟨xs,x,hq,hx⟩:=hg
  obtain⟨its,rv,p,hz⟩:=I.list hq
  obtain⟨u,hu,ru⟩:=rv.get hx
  have lt:e < s.heap.objs.size:=MI he
  have lj:j < s.heap.objs.size:=by obtain⟨_,q,_⟩:=hj;exact MI q
  refine zF (T:=fun h=>h.IsListIter j a (i + 1)) he ne (fun A' E' R hR=>wpAny_nextOf_list_item hj p.isList (x:=u) (by simpa using hu) hR) (fun h1 h2 t k=>t.at fun o q=>k o q) (fun h1 t=>let ⟨o,q,_⟩:=t;⟨o,q⟩) fun h1 o1 t1 n1 fr=>?_
  refine⟨_,rfl,wpAny_letOwnedTupleGo_enum o1 fun h2 e2 b2=>?_⟩
  have n2:h2.get? s.heap.objs.size=some { cls:=.type "tuple",data:=.seq #[.int i s.toks,u] }:=(b2.2 _ (Nat.ne_of_gt lt)).trans n1
  obtain⟨I2,hn⟩:=Bs (h2:=h2) I hf ru lt lj n2 fun b o q1 q2 q3=>(b2.2 b q1).trans (fr b o q1 q2 q3)
  refine⟨.ref s.heap.objs.size,_,I2,rfl,⟨_,x,fun ys hy=>by rw [I.rq hy hq];exact hx,hn,rfl,rfl⟩,⟨⟨u,by simpa using e2⟩,t1.at fun o q=>(b2.2 j (Ne.symm ne)).trans q⟩,fun b hb=>?_⟩
  rw [aC];exact (hf b hb).1
  rcases ML.mp hb with rfl | hb
  ·exact MR lt
  ·rw [MK.mp hb];exact MR lj
 done:=by
  intro X hP hw hK hc i pins s σ H E I hf st hg
  subst hP hw hK
  obtain⟨⟨z,he⟩,hj⟩:=st
  obtain⟨xs,hq,hx⟩:=hg
  obtain⟨its,rv,p,hz⟩:=I.list hq
  have hl:=rv.length
  refine Bt he (fun A' E' hA hE=>wpAny_nextOf_list_end (hA.trans (I.ok.hd hc)) hj p.isList (by simp;omega) hE) fun h1 b1=>⟨rfl,?_⟩
  obtain⟨f0,f1,f2,f3,f4,f5⟩:=hf j (by simp)
  exact I.turned (t':=s.toks) (fun b o hb e=>b1 b o hb e) f0 f1 f3 f4 f5
 self:=fun _ _ _ _ _ st h=>wpAny_pyIter_enum st.1.choose_spec h
theorem BL {P:Program} {w:World} {K:PySem.W.Frag} {elts:List Expr} {x1:Nat} {tp:Pos} (a e j:Addr) (ne:e≠j):Turn P w K (.Tuple elts x1 tp) (Jz fun H xs=>jv K H a xs) [e,j] e (fun i h=>(∃z,IsEnum h e j i z)∧h.IsTupleIter j a i) where
 mem:=by simp
 obj:=fun i h st b hb=>by
  obtain⟨⟨z,e1⟩,o,e2,c,d⟩:=st
  rcases ML.mp hb with rfl | hb
  ·exact⟨_,e1,fun v q=>by
    have q':Data.fields _=Data.cell v:=q
    cases q'⟩
  ·rw [MK.mp hb];exact⟨o,e2,fun v q=>by rw [d] at q;cases q⟩
 keep:=fun i h h' st k=>⟨⟨st.1.choose,k e (by simp) _ st.1.choose_spec⟩,st.2.at fun o q=>k j (by simp) o q⟩
 item:=by
  intro X hP hw hK hc i pins s σ H E I hf st hg
  subst hP hw hK
  obtain⟨⟨z,he⟩,hj⟩:=st
  obtain⟨xs,x,hq,hx⟩:=hg
  obtain⟨its,rv,p,hz⟩:=I.tuple hq
  obtain⟨u,hu,ru⟩:=rv.get hx
  have lt:e < s.heap.objs.size:=MI he
  have lj:j < s.heap.objs.size:=by obtain⟨_,q,_⟩:=hj;exact MI q
  refine zF (T:=fun h=>h.IsTupleIter j a (i + 1)) he ne (fun A' E' R hR=>IK hj (show s.heap.IsTuple a its.toArray from p) (y:=u) (by simpa using hu) hR) (fun h1 h2 t k=>t.at fun o q=>k o q) (fun h1 t=>let ⟨o,q,_⟩:=t;⟨o,q⟩) fun h1 o1 t1 n1 fr=>?_
  refine⟨_,rfl,wpAny_letOwnedTupleGo_enum o1 fun h2 e2 b2=>?_⟩
  have n2:h2.get? s.heap.objs.size=some { cls:=.type "tuple",data:=.seq #[.int i s.toks,u] }:=(b2.2 _ (Nat.ne_of_gt lt)).trans n1
  obtain⟨I2,hn⟩:=Bs (h2:=h2) I hf ru lt lj n2 fun b o q1 q2 q3=>(b2.2 b q1).trans (fr b o q1 q2 q3)
  refine⟨.ref s.heap.objs.size,_,I2,rfl,⟨_,x,fun ys hy=>by rw [I.nC hy hq];exact hx,hn,rfl,rfl⟩,⟨⟨u,by simpa using e2⟩,t1.at fun o q=>(b2.2 j (Ne.symm ne)).trans q⟩,fun b hb=>?_⟩
  rw [aC];exact (hf b hb).1
  rcases ML.mp hb with rfl | hb
  ·exact MR lt
  ·rw [MK.mp hb];exact MR lj
 done:=by
  intro X hP hw hK hc i pins s σ H E I hf st hg
  subst hP hw hK
  obtain⟨⟨z,he⟩,hj⟩:=st
  obtain⟨xs,hq,hx⟩:=hg
  obtain⟨its,rv,p,hz⟩:=I.tuple hq
  have hl:=rv.length
  refine Bt he (fun A' E' hA hE=>yk (hA.trans (I.ok.hd hc)) hj (show s.heap.IsTuple a its.toArray from p) (by simp;omega) hE) fun h1 b1=>⟨rfl,?_⟩
  obtain⟨f0,f1,f2,f3,f4,f5⟩:=hf j (by simp)
  exact I.turned (t':=s.toks) (fun b o hb e=>b1 b o hb e) f0 f1 f3 f4 f5
 self:=fun _ _ _ _ _ st h=>wpAny_pyIter_enum st.1.choose_spec h
section
variable {prog:Program} {w:World} {A:Around} {E:Value→Shared→Prop} {s:Shared}
open AutoSeq1 (wpAny_loadPart') in
theorem GZ (l:Addr) (its:Array Value) (o:Obj) (c:o.cls=.type "tuple") (n:Nat) (dd:o.data=.seq its n) :
  Meets (Builtin.«enumerate.__new__» ⟨[.type "enumerate",.ref l],[]⟩) (fun _ R s=>s.heap.get? l=some o ∧
   R (.ok (.ret (.ref (s.heap.push { cls:=.type "tuple_iterator",data:=.fields #[.ref l,.int 0 0] }).objs.size)))
    { s with heap:=(s.heap.push { cls:=.type "tuple_iterator",data:=.fields #[.ref l,.int 0 0] }).push { cls:=.type "enumerate",data:=.fields #[.none,.bool false,.ref s.heap.objs.size,rawInt 0,.none,.none] } }) :=
 .of_wp fun prog w A R s hh=>by
  obtain⟨oc,od,odt,osl⟩:=o
  replace c:oc=.type "tuple":=c
  replace dd:odt=.seq its n:=dd
  subst c dd
  obtain⟨hp,gg,dr,tk,os⟩:=s;obtain⟨hl,q⟩:=hh
  have hsub:=sub_enumerate
  have hT:Heap.IsTuple (Shared.heap ⟨hp,gg,dr,tk,os⟩) l its:=⟨_,hl,rfl,n,rfl⟩
  wp_walk using wpAny_loadPart' hl
  refine wpAny_stack_any fun st=>Mr ?_
  split
  ·rename_i cc _ _ _ _ _
   cases (cc == Value.type "enumerate") <;> (wp_walk using wpAny_loadPart' hl,wpAny_pyIter_tuple hT;exact⟨_,rfl,q⟩)
  ·wp_walk using wpAny_loadPart' hl,wpAny_pyIter_tuple hT
   exact⟨_,rfl,q⟩
theorem DG {l:Addr} {its:Array Value} {Q:Value→Shared→Prop} (hl:s.heap.IsTuple l its)
  (q:∀h1,IsEnum h1 (s.heap.objs.size + 1) s.heap.objs.size 0 .none→h1.IsTupleIter s.heap.objs.size l 0→(∀b o,s.heap.get? b=some o→h1.get? b=some o)→Q (.ref (s.heap.objs.size + 1)) { s with heap:=h1 }):wpAny (model prog w) A (call (.type "enumerate") [.ref l]) Q E s:=by
 obtain⟨o,e1,c1,n,d1⟩:=hl
 refine callType_new F.called_enumerate (by decide) (F.typeCall_enumerate_1 _) (F.newCall_enumerate_1 _) (fun ob=>F.args_object_init_2 ob _) F.entry_enumerate_new (GZ l its o c1 n d1) ⟨e1,?_⟩
 have z:(s.heap.push { cls:=.type "tuple_iterator",data:=.fields #[.ref l,.int 0 0] }).objs.size=s.heap.objs.size + 1:=Heap.size_push ..
 show _∧_
 rw [z]
 have i1:IsEnum ((s.heap.push { cls:=.type "tuple_iterator",data:=.fields #[.ref l,.int 0 0] }).push { cls:=.type "enumerate",data:=.fields #[.none,.bool false,.ref s.heap.objs.size,rawInt 0,.none,.none] }) (s.heap.objs.size + 1) s.heap.objs.size 0 .none:=by
  have y:=MM (s.heap.push { cls:=.type "tuple_iterator",data:=.fields #[.ref l,.int 0 0] }) (o:={ cls:=.type "enumerate",data:=.fields #[.none,.bool false,.ref s.heap.objs.size,rawInt 0,.none,.none] }) rfl
  rw [z] at y;exact y
 exact⟨⟨_,i1,rfl⟩,q _ i1 ⟨_,Mz _ (MM _ rfl),rfl,rfl⟩ fun b o x=>Mz _ (Mz _ x)⟩
end
section
variable {X:Cx}
def LX (K:PySem.W.Frag) (ta:TA):TI:=fun σ H R=>ta σ H fun vs H1=>∃a,vs=[.ref a]∧(((∃xs,fL K H1 a xs)∧R (Jz fun H xs=>fL K H a xs) H1)∨((∃xs,jv K H1 a xs)∧R (Jz fun H xs=>jv K H a xs) H1))
theorem Gg {elts:List Expr} {x1:Nat} {tp:Pos} {a:Expr} {ta:TA} {p pos:Pos} (hg:Gl X "enumerate") (hm:X.mg "enumerate" = none) (ha:PA X [a] ta) (hs:starEach [a] X.env=[(false,eval a X.env)]:=by rfl) :
  PI X (.Tuple elts x1 tp) (.Call (.Name "enumerate" p) [a] [] pos) (LX X.K ta):=by
 intro pins s σ H R I h
 refine Call_ (lQ I hg hm boot_enumerate (PyProof.Rows.callWith_type1 (bH (ha pos pins s σ H _ I h) fun us s1 ⟨vs,H1,I1,r1,q1⟩=>?_) hs rfl))
 obtain⟨l,e,q⟩:=q1
 subst e
 cases r1 with
 | cons r rr =>
  cases rr
  cases r
  have fin:∀b∈[s1.heap.objs.size + 1,s1.heap.objs.size],lZ X pins H1 b:=fun b hb=>by
   have hb':s1.heap.objs.size≤b:=by
    rcases ML.mp hb with rfl | hb
    ·omega
    ·rw [MK.mp hb];exact Mx _
   exact I1.Be hb' (I1.hok.fresh hb')
  rcases q with ⟨⟨xs,hq⟩,q⟩ | ⟨⟨xs,hq⟩,q⟩
  ·obtain⟨its,rv,pl,hz⟩:=I1.list hq
   refine call_enumerate_list pl.isList fun h1 i1 j1 _ k1=>?_
   refine wpAny_pyIter_enum i1 ⟨_,[s1.heap.objs.size + 1,s1.heap.objs.size],_,_,H1,rfl,I1.kept (t':=s1.toks) k1,BJ l (s1.heap.objs.size + 1) s1.heap.objs.size (Nat.succ_ne_self _),⟨⟨_,i1⟩,j1⟩,fin,q⟩
  ·obtain⟨its,rv,pl,hz⟩:=I1.tuple hq
   refine DG (show s1.heap.IsTuple l its.toArray from pl) fun h1 i1 j1 k1=>?_
   refine wpAny_pyIter_enum i1 ⟨_,[s1.heap.objs.size + 1,s1.heap.objs.size],_,_,H1,rfl,I1.kept (t':=s1.toks) k1,BL l (s1.heap.objs.size + 1) s1.heap.objs.size (Nat.succ_ne_self _),⟨⟨_,i1⟩,j1⟩,fin,q⟩
end
end L2.L3
namespace L2.L3
open PySem PySem.Spec PyProof.Rows
structure uX (K:PySem.W.Frag) (J:It) (F1:Hp) (xs:List D):Prop where
 go:∀(i:Nat) (G H':Hp),ar F1 G→ar G H'→i < xs.length→J.go i H'
 yld:∀(i:Nat) (G H':Hp) (y:V) (H'':Hp) (x:D) (B:Base) (σ:St) (env:En),ar F1 G→Rep K B G H' σ env→xs[i]?=some x→J.yld i H' y H''→∃G',Rep K B G' H'' σ env∧ar G G'∧Den K G' x y
 stop:∀(G H':Hp),ar F1 G→ar G H'→J.stop xs.length H'
def kj (xs:List D):List D:=xs.mapIdx fun i x=>.tup [.int (i:Int),x]
theorem vT {xs:List D} {i:Nat} {y:D} (h:(kj xs)[i]?=some y):∃x,xs[i]?=some x∧y=.tup [.int (i:Int),x]:=by
 unfold kj at h
 rw [List.getElem?_mapIdx] at h
 cases e:xs[i]? with
 | none=>rw [e] at h;cases h
 | some x=>rw [e] at h;cases h;exact⟨x,rfl,rfl⟩
theorem nL {xs:List D}:(kj xs).length=xs.length:=by simp [kj]
theorem wH {K:PySem.W.Frag} {F1:Hp} {vs:List V} {xs:List D} {S:Hp→List V→Prop} (hS:∀G H',ar F1 G→ar G H'→S H' vs) (r:aq K F1 xs vs):uX K (Jz S) F1 (kj xs) where
 go:=fun i G H' s1 s2 hi=>by
  rw [nL] at hi
  have:i < vs.length:=by rw [← r.length];exact hi
  exact⟨vs,vs[i],hS G H' s1 s2,by simp [this]⟩
 yld:=fun i G H' y H'' x B σ env s1 rp hx hy=>by
  obtain⟨x',hx',rfl⟩:=vT hx
  obtain⟨v,h1,h2⟩:=r.get hx'
  obtain⟨p,u,q1,q3,rfl,rfl⟩:=hy
  have q2:=q1 vs (hS G H' s1 rp.fh)
  rw [h1] at q2;cases q2
  obtain⟨r2,s2⟩:=rp.laid (o:=.tup [.int i,v]) q3
  exact⟨_,r2,s2,hG (jv.of aG) (aO bo (aO (Den.mono (s1.trans s2) _ _ h2) aU))⟩
 stop:=fun G H' s1 s2=>⟨vs,hS G H' s1 s2,by rw [nL,r.length];exact Mx _⟩
section
variable {X:Cx} {N':List Str} {ix:List Nat} {scope:Scope} {elt iter a b:Expr} {ifs:List Expr} {x y:Str} {px py tp pos:Pos} {c:Nat} {tt:TB} {te ti:TD} {ts:eQ}
def B3 (d:D):Option (List D):=match d with | .lst xs=>some xs | .tup xs=>some xs | _=>none
theorem Cw {B:Base} {σ:St} {F H:Hp} {env:En} {P:List D→Prop} {R:It→Hp→Prop} (hi:QA X [a] ts) (rp:Rep X.K B F H σ env) (h:ts env fun ds=>∃d xs,ds=[d]∧B3 d=some xs∧P (kj xs))
  (hR:∀(J:It) (F1 H1:Hp) (xs:List D),Rep X.K B F1 H1 σ env→ar F F1→uX X.K J F1 xs→P xs→R J H1) :
  LX X.K (wA X [a]) σ H R:=by
 refine cy (hi B σ F H env _ rp h) fun vs H1 hq0=>?_
 obtain⟨F1,ds,r1,s1,d1,d,xs,hx,hd,q1⟩:=hq0
 subst hx
 simp only [aq] at d1
 obtain⟨v,r,rfl,dv,rfl⟩:=d1
 cases d with
 | lst ys =>
  simp only [B3] at hd;cases hd
  simp only [Den] at dv
  obtain⟨l,vs,rfl,q,r⟩:=dv
  exact⟨l,rfl,.inl ⟨⟨vs,r1.fh.seq q⟩,hR _ F1 H1 _ r1 s1 (wH (fun G H' z1 z2=>z2.seq (z1.seq q)) r) q1⟩⟩
 | tup ys =>
  simp only [B3] at hd;cases hd
  simp only [Den] at dv
  obtain⟨l,vs,rfl,q,r⟩:=dv
  exact⟨l,rfl,.inr ⟨⟨vs,ar.cm r1.fh q⟩,hR _ F1 H1 _ r1 s1 (wH (fun G H' z1 z2=>ar.cm z2 (ar.cm z1 q)) r) q1⟩⟩
 | _=>simp only [B3] at hd;cases hd
def sS (ts:eQ) (g:rJ) (tb:bB):bB:=fun D env=>ts env fun ds=>∃d xs,ds=[d]∧B3 d=some xs∧turns g tb D (kj xs) env
theorem Bb {tg:Expr} {body:List Stmt} {g:rJ} {t:bB} (hg:QG X tg g) (hb:oF X body t) {B:Base} {σ:St} {F1 H1:Hp} {env:En} {D:Ends3} {J:It} {xs:List L3.D} (r1:Rep X.K B F1 H1 σ env) (S:uX X.K J F1 xs) (q1:turns g t D xs env) :
  ∃W:Nat→Nat→St→Hp→Prop,(∃m,W 0 m σ H1)∧∀i m σ H,W i m σ H→(J.stop i H∧(RS X B D).nx σ H)∨(J.go i H∧∃N:St→Hp→Prop,(∀σ' H',N σ' H'→∃m',m' < m∧W (i + 1) m' σ' H') ∧
    ∀x H',J.yld i H x H'→wG X tg x σ H' fun σ2 H2=>wSs X body { RS X B D with nx:=N,ct:=N,bk:=(RS X B D).nx } σ2 H2):=by
 have sm:=RS.same (X:=X) (B:=B) (D:=D) r1.f0
 refine⟨fun i m σ H=>m=xs.length - i∧i≤xs.length∧∃F env,Rep X.K ⟨F1,B.H,B.N,B.nb⟩ F H σ env∧turns g t D (xs.drop i) env,⟨xs.length,by simp,MX _,F1,env,r1.now,by simpa using q1⟩,?_⟩
 rintro i m σ2 H2 ⟨rfl,hi2,F2,env2,r2,q2⟩
 by_cases hlt:i < xs.length
 ·have hxi:xs[i]?=some xs[i]:=by simp [hlt]
  rw [drop_cons hxi] at q2
  refine .inr ⟨S.go i F2 H2 r2.f0 r2.fh hlt,fun σ' H'=>∃F env,Rep X.K ⟨F1,B.H,B.N,B.nb⟩ F H' σ' env∧turns g t D (xs.drop (i + 1)) env,fun σ' H' ⟨F',env',r',q'⟩=>⟨xs.length - (i + 1),by omega,rfl,by omega,F',env',r',q'⟩,fun z H' hz=>?_⟩
  obtain⟨G,rG,sG,dz⟩:=S.yld i F2 H2 z H' xs[i] _ σ2 env2 r2.f0 r2 hxi hz
  refine gT (hg _ σ2 G _ env2 _ _ _ rG dz q2) fun σ3 H3 hq0=>?_
  obtain⟨F3,env3,r3,s3,q3⟩:=hq0
  exact gL (hb _ σ3 F3 H3 env3 _ r3 q3) (fun _ _ q=>q) (fun v H q=>sm.2.1 v H q) (fun v H q=>sm.1 v H q) (fun _ _ q=>q)
 ·have e:i=xs.length:=by omega
  subst e
  rw [M6 (Mx _)] at q2
  exact .inl ⟨S.stop F2 H2 r2.f0 r2.fh,sm.1 _ _ ⟨F2,env2,r2,q2⟩⟩
theorem FA {elts:List Expr} {x1:Nat} {body:List Stmt} {g:rJ} {t:bB} {p pos2:Pos} (hp:PassesOwn (model X.prog X.w) X.A X.env X.xe) (hc:X.calm=true) (hgl:Gl X "enumerate") (hm:X.mg "enumerate" = none) (ha:QA X [a] ts) (hg:QG X (.Tuple elts x1 tp) g) (hb:oF X body t)
  (hst:starEach [a] X.env=[(false,eval a X.env)]:=by rfl) (hs:∀x,foldedSetIterable (.Call (.Name "enumerate" p) [a] [] pos2) X.env x=pure x:=by intro _;rfl):QS X (.For (.Tuple elts x1 tp) (.Call (.Name "enumerate" p) [a] [] pos2) body [] pos) (sS ts g t):=by
 refine⟨fun B σ F H env D rp h=>dG (qF hp hc (Gg hgl hm jF hst) yo eT hs) ?_⟩
 exact Cw (P:=fun xs=>turns g t D xs env) ha rp h fun J F1 H1 xs r1 s1 S q=>Bb hg hb r1 S q
end
end L2.L3
namespace L2.L3
open PySem PySem.Spec PyProof.Rows
mutual
theorem zC:∀(a b c:D),a6 a b=true→a6 a c=a6 b c:=by
 intro a b c h
 cases a <;> cases b <;> first | (simp only [a6,Mt] at h;done) | skip
 all_goals cases c <;> first | rfl | (simp only [a6,beq_iff_eq] at h ⊢;subst h;rfl) | skip
 all_goals first
  | (simp only [a6] at h ⊢;exact xT _ _ _ h)
  | (simp only [a6,beq_iff_eq] at h ⊢;rw [Bool.eq_iff_iff];simp only [beq_iff_eq];split at h <;> split <;> simp_all <;> omega)
  | (simp only [a6,beq_iff_eq] at h ⊢;rw [Bool.eq_iff_iff];simp only [beq_iff_eq];split at h <;> simp_all)
  | (simp only [a6,beq_iff_eq] at h ⊢;subst h;rw [Bool.eq_iff_iff];simp only [beq_iff_eq];split <;> simp_all)
  | (simp only [a6,beq_iff_eq] at h ⊢;subst h;split <;> simp_all)
theorem xT:∀(a b c:List D),dm a b=true→dm a c=dm b c:=by
 intro a b c h
 cases a with
 | nil=>cases b with
  | nil=>rfl
  | cons y r=>simp only [dm,Mt] at h
 | cons x r=>cases b with
  | nil=>simp only [dm,Mt] at h
  | cons y t =>
   simp only [dm,Bool.and_eq_true] at h
   cases c with
   | nil=>rfl
   | cons z u=>simp only [dm];rw [zC x y z h.1,xT r t u h.2]
end
section
variable {X:Cx} {pins:List (Addr×Obj)} {σ:St} {H F:Hp} {s:Shared}
open Classical in
noncomputable def jE (us:List Value) (ds:List D) (d:D) (u:Value):Bool:=decide (∃(i:Nat) (x:D),us[i]?=some u∧ds[i]?=some x∧a6 x d=true)
open Classical in
theorem pL (I:Inv X pins σ H s) (fh:ar F H) {ds:List D} {vs:List V} {us:List Value} {d:D} (hd:b9 ds < 1000) (dl:aq X.K F ds vs) (rv:Vals vs us) {j:Nat} {x:D} {u:Value} (hx:ds[j]?=some x) (hu:us[j]?=some u):jE us ds d u=a6 x d:=by
 unfold jE
 have dle:∀(k:Nat) (y:D),ds[k]?=some y→dep y < 1000:=fun k y hy=>by
  clear dl rv hx hu
  induction ds generalizing k with
  | nil=>simp at hy
  | cons z r ih =>
   simp only [b9] at hd
   cases k with
   | zero=>simp at hy;subst hy;omega
   | succ k=>exact ih (by omega) k (by simpa using hy)
 cases hb:a6 x d with
 | true=>exact decide_eq_true ⟨j,x,hu,hx,hb⟩
 | false =>
  refine decide_eq_false fun hq0=>?_
  obtain⟨i,y,h1,h2,h3⟩:=hq0
  obtain⟨v1,e1,d1⟩:=dl.get hx
  obtain⟨v2,e2,d2⟩:=dl.get h2
  obtain⟨w1,g1,r1⟩:=rv.get e1
  obtain⟨w2,g2,r2⟩:=rv.get e2
  rw [hu] at g1;cases g1
  rw [h1] at g2;cases g2
  have:=r1.inj r2
  subst this
  have k:=pJ I fh y x _ (dle _ _ h2) (dle _ _ hx) d2 d1
  rw [zC y x d k,hb] at h3
  cases h3
theorem m7 (I:Inv X pins σ H s) (fh:ar F H) {ds:List D} {vs:List V} {us:List Value} {d:D} (hd:b9 ds < 1000) (dl:aq X.K F ds vs) (rv:Vals vs us):us.map (jE us ds d)=ds.map fun x=>a6 x d:=by
 have l1:=dl.length
 have l2:=rv.length
 apply List.ext_getElem?
 intro i
 rw [Mu,Mu]
 by_cases hi:i < ds.length
 ·have h1:ds[i]?=some ds[i]:=by simp [hi]
  have h2:us[i]?=some (us[i]'(by omega)):=Mq _
  rw [h1,h2]
  simp only [Option.map_some]
  rw [pL I fh hd dl rv h1 h2]
 ·rw [MF (by omega),MF (by omega)];rfl
end
section
variable {X:Cx} {a b:Expr} {ta tb:TD} {pos:Pos}
def Jv (X:Cx) (neg:Bool):R2:=fun x y H Q=>∃(F:Hp) (d:D) (ds:List D) (vs:List V) (p:Addr),ar F H∧Den X.K F d x∧y=.ref p∧(fL X.K F p vs∨jv X.K F p vs)∧aq X.K F ds vs∧X.A.units + 64 < cLine∧b9 ds≤60∧dep d≤60∧Q (.bl (if neg then !ds.any (fun e=>a6 e d) else ds.any fun e=>a6 e d)) H
theorem any_map' {α:Type} (f:α→Bool) (l:List α):l.any f=(l.map f).any id:=by rw [List.any_map];rfl
theorem p0 {X:Cx} {pins:List (Addr×Obj)} {σ:St} {H F:Hp} {s:Shared} (I:Inv X pins σ H s) (fh:ar F H) {ds:List D} {vs:List V} {us:List Value} {d:D} {x:V} {v:Value} (hu:X.A.units + 64 < cLine) (hds:b9 ds≤60) (hd:dep d≤60) (dl:aq X.K F ds vs) (rv:Vals vs us) (dx:Den X.K F d x) (rx:RelV x v) :
  ∀u∈us,SeqAt.EqAt X.A.in1 s u v (jE us ds d u):=by
 intro u hu'
 obtain⟨j,hj,e⟩:=List.getElem_of_mem hu'
 have h2:us[j]?=some u:=by rw [← e];simp [hj]
 have l1:=dl.length
 have l2:=rv.length
 have h1:ds[j]?=some (ds[j]'(by omega)):=Mq _
 rw [pL I fh (by omega) dl rv h1 h2]
 obtain⟨w,g1,g2⟩:=dl.get h1
 obtain⟨u',g3,g4⟩:=rv.get g1
 rw [h2] at g3;cases g3
 have dle:dep (ds[j]'(by omega))≤60:=by
  have go:∀(l:List D) (n:Nat),b9 l≤n→∀y∈l,dep y≤n:=by
   intro l
   induction l with
   | nil=>intro n _ y hy;cases hy
   | cons z r ih =>
    intro n hn y hy
    simp only [b9] at hn
    rcases ML.mp hy with rfl | hy
    ·omega
    ·exact ih n (by omega) y hy
  exact go ds 60 hds _ (Nc _)
 exact p9 I fh _ d X.A.in1 _ x u v (by rw [units_in1];omega) (by omega) (by omega) g2 dx g4 rx
theorem EC:iQ X (compareOp .NotIn) (Jv X true):=by
 intro pins s σ H x y v u Q I rx ry h
 obtain⟨F,d,ds,vs,p,fh,dx,rfl,hq,dl,hu,h1,h2,q⟩:=h
 cases ry
 rcases hq with hq | hq
 ·obtain⟨its,r,pl,hz⟩:=I.list (fh.seq hq)
  refine SeqAt.notIn_listAt (jE its ds d) pl.isList (fun w hw=>p0 I fh hu h1 h2 dl r dx rx w (by simpa using hw)) ⟨.bl _,H,I,rfl,?_⟩
  rw [show its.toArray.any (jE its ds d)=its.any (jE its ds d) by simp,any_map',m7 I fh (by omega) dl r,← any_map']
  exact q
 ·obtain⟨its,r,pl,hz⟩:=I.tuple (ar.cm fh hq)
  refine SeqAt.notIn_tupleAt (jE its ds d) pl (fun w hw=>p0 I fh hu h1 h2 dl r dx rx w (by simpa using hw)) ⟨.bl _,H,I,rfl,?_⟩
  rw [show its.toArray.any (jE its ds d)=its.any (jE its ds d) by simp,any_map',m7 I fh (by omega) dl r,← any_map']
  exact q
def IZ (neg:Bool) (x y:D) (Q:D→Prop):Prop:=∃ds,B3 y=some ds∧b9 ds≤60∧dep x≤60∧Q (.bl (if neg then !ds.any (fun e=>a6 e x) else ds.any fun e=>a6 e x))
theorem ID (hu:X.A.units + 64 < cLine) (neg:Bool):sj X (Jv X neg) (IZ neg):=by
 intro B σ F H env Q d d' x y Z rp h1 h2 hz hf
 obtain⟨ds,e,l1,l2,q⟩:=hf
 cases d' with
 | lst xs =>
  simp only [B3] at e;cases e
  simp only [Den] at h2
  obtain⟨p,vs,rfl,hq,dl⟩:=h2
  exact⟨F,d,_,vs,p,rp.fh,h1,rfl,.inl hq,dl,hu,l1,l2,hz _ H F _ rp (ar.refl _) dj q⟩
 | tup xs =>
  simp only [B3] at e;cases e
  simp only [Den] at h2
  obtain⟨p,vs,rfl,hq,dl⟩:=h2
  exact⟨F,d,_,vs,p,rp.fh,h1,rfl,.inr hq,dl,hu,l1,l2,hz _ H F _ rp (ar.refl _) dj q⟩
 | _=>simp only [B3] at e;cases e
theorem IQ (hu:X.A.units + 64 < cLine) (ha:QE X a ta) (hb:QE X b tb) (hm:behindInMarks .NotIn b=false:=by rfl):QT X (.Compare a [.NotIn] [b] pos) (aJ (aB (IZ true) ta tb)):=ie EC (ID hu true) ha hb hm
def m4 (neg:Bool) (x:D):D:=.bl (match x with | .non=>!neg | _=>neg)
theorem oX {K:PySem.W.Frag} {F:Hp} {d:D} {v:V} (h:Den K F d v):decide (v=.non)=(match d with | .non=>true | _=>false):=by
 cases d <;> simp only [Den] at h <;> first | (subst h;rfl) | (obtain⟨_,_,rfl,_⟩:=h;rfl) | (obtain⟨_,rfl,_⟩:=h;rfl)
def et (neg:Bool) (x y:D) (Q:D→Prop):Prop:=y=.non∧Q (m4 neg x)
theorem Hb:sj X (fun x y H Q=>y=.non∧Q (.bl (decide (x=.non))) H) (et false):=by
 intro B σ F H env Q d d' x y Z rp h1 h2 hz hf
 obtain⟨rfl,q⟩:=hf
 simp only [Den] at h2
 refine⟨h2,hz _ H F _ rp (ar.refl _) ?_ q⟩
 rw [oX h1]
 unfold m4
 cases d <;> exact dj
theorem FK:sj X (fun x y H Q=>y=.non∧Q (.bl (!decide (x=.non))) H) (et true):=by
 intro B σ F H env Q d d' x y Z rp h1 h2 hz hf
 obtain⟨rfl,q⟩:=hf
 simp only [Den] at h2
 refine⟨h2,hz _ H F _ rp (ar.refl _) ?_ q⟩
 rw [oX h1]
 unfold m4
 cases d <;> exact dj
theorem Gb (ha:QE X a ta) (hb:QE X b tb):QT X (.Compare a [.Is] [b] pos) (aJ (aB (et false) ta tb)):=ie Ii Hb ha hb (fT _)
theorem GQ (ha:QE X a ta) (hb:QE X b tb):QT X (.Compare a [.IsNot] [b] pos) (aJ (aB (et true) ta tb)):=ie EG FK ha hb (fT _)
end
end L2.L3
namespace L2
open PySem PySem.Spec PyProof.Rows
section
variable {X:Cx}
theorem Vals.insertAt {xs:List V} {us:List Value} {x:V} {u:Value} (h:Vals xs us) (r:RelV x u) (k:Nat):Vals (xs.take k ++ x :: xs.drop k) (us.take k ++ u :: us.drop k):=by
 induction h generalizing k with
 | nil=>simp;exact .cons r .nil
 | @cons y w ys ws q t ih =>
  cases k with
  | zero=>exact .cons r (.cons q t)
  | succ k=>exact .cons q (ih k)
def EK:V→List V→Hp→VK→Prop:=fun x vs H Q=>∃l xs i y,x=.ref l∧vs=[.int i,y]∧H l=some (.lst xs)∧0≤i∧i≤xs.length∧xs.length < sizeLine∧Q .non (upd H l (.lst (xs.take i.toNat ++ y :: xs.drop i.toNat)))
theorem A3:Lg X "list.insert" EK:=by
 intro pins s σ H x vs v us Q I rx rv h
 obtain⟨l,xs,i,y,rfl,rfl,hH,h0,h1,h2,q⟩:=h
 cases rx
 obtain⟨u,w,rfl,ru,rw'⟩:=rv.two
 obtain⟨t,rfl⟩:=ru
 obtain⟨z,its,n,r,hl,e⟩:=I.Ha hH
 have hs:xs.length≤2 ^ 62:=by rw [sizeLine_eq] at h2;omega
 have hfit:¬ (!Builtin.List.listFitsIndex i)=true:=by
  rw [fitsIndex_both (by omega) (by omega)]
  exact Bool.false_ne_true
 refine call_meets F.slot_list_insert ⟨_,e,rfl⟩ F.entry_list_insert (F.args_list_insert_3 _ _ _) (AutoSeq1.list_insert_list_int_val_1 l its.toArray n i t w hfit (by rw [MG];omega)) ⟨e,?_⟩
 refine⟨.non,_,I.HB (its':=its.take i.toNat ++ w :: its.drop i.toNat) hH e ?_ (r.insertAt rw' i.toNat) ?_,rfl,q⟩
 ·apply Array.toList_inj.mp
  have c1:¬ i < 0:=by omega
  have c2:min i.toNat its.toArray.size=i.toNat:=by rw [MG];omega
  simp only [c1,if_false,c2]
  simp
  exact Nb (by simp)
 ·simp;omega
end
end L2
namespace L2.L3
open PySem PySem.Spec PyProof.Rows
section
variable {X:Cx} {e f:Expr} {te tf:TD} {ts:eQ} {pos:Pos}
def pS (i:Nat) (te tf:TD):bB:=fun D env=>∃xs,env[i]?=some (some (.own xs))∧te env fun y=>tf env fun x=>∃k:Int,y=.int k∧0≤k∧k≤xs.length∧xs.length < sizeLine∧D.nx (env.set i (some (.own (xs.take k.toNat ++ x :: xs.drop k.toNat))))
theorem A5 {x:Str} {px apos cpos:Pos} (i:Nat) (he:QE X e te) (hf:QE X f tf) (hN:X.N[i]?=some x:=by rfl) (hv:xA X.env.scope x:=by first | exact Or.inl rfl | exact Or.inr (Or.inl rfl) | exact Or.inr (Or.inr rfl)) (hd:(x == ("__debug__" : Str))=false:=by decide) (hcd:(x == ("__classdict__" : Str))=false:=by decide)
  (hbase:attributeBase (.Name x px) "insert" X.env (eval (.Name x px) X.env)=eval (.Name x px) X.env:=by rfl)
  (hfew:((backTo cpos (starEach [e,f] X.env)).all (fun x=>!x.1) && (backToKw cpos (keywordEach [] X.env)).all (fun x=>x.1.isSome)
   && decide (([e,f]:List Expr).length + ([]:List Keyword).length + (if ([]:List Keyword).isEmpty then 0 else 1) < 30))=true:=by rfl)
  (hline:(apos.endLine == cpos.line)=true:=by rfl) (hst:starEach [e,f] X.env=(false,eval e X.env) :: starEach [f] X.env:=by exact aT rfl) (hst2:starEach [f] X.env=(false,eval f X.env) :: starEach [] X.env:=by exact aT rfl) (hplain:(backTo cpos (starEach ([f]:List Expr) X.env)).any (·.1)=false:=by rfl)
  (hs:swapsWith (.Call (.Attribute (.Name x px) "insert" apos) [e,f] [] cpos) none pos.line X.env=pure false:=by rfl) :
  QS X (.Expr (.Call (.Attribute (.Name x px) "insert" apos) [e,f] [] cpos) pos) (pS i te tf):=by
 refine⟨?_⟩
 intro B σ F H env D rp h
 refine dG (vb (wO PySem.F.plainAttrs_list PySem.F.slot_list_insert PySem.F.type_list_insert A3 (eB hN hv hd hcd) (cT bh (cT bh gz hst2) hst) hbase hfew hline hst hplain) hs) ?_
 obtain⟨xs,hx,h⟩:=h
 obtain⟨p,vs,h1,h2,h3,h4,h5⟩:=rp.ov i xs hx
 refine⟨.ref p,h1,.inl ⟨rfl,vs,fL.of h2⟩,?_⟩
 refine aA (he B σ F H env _ rp h) fun y H1 hq0=>?_
 obtain⟨F1,d,r1,s1,d1,q1⟩:=hq0
 refine aA (hf B σ F1 H1 env _ r1 q1) fun z H2 hq0=>?_
 obtain⟨F2,d',r2,s2,d2,k,e1,k0,k1,k2,q2⟩:=hq0
 subst e1
 simp only [Den] at d1
 subst d1
 obtain⟨p',vs',g1,g2,g3,g4,g5⟩:=r2.ov i xs hx
 rw [h1] at g1;cases g1
 have hl:=g5.length
 exact⟨p,vs',k,z,rfl,rfl,g2,k0,by omega,by omega,F2,_,r2.change hx h1 ((g5.take _).append (aO d2 (g5.drop _))),q2⟩
def qm (i:Nat):TB:=fun env Q=>∃xs,env[i]?=some (some (.own xs))∧b9 xs≤50∧Q (!xs.isEmpty)
theorem Ag {x:Str} {px pl:Pos} (i:Nat) (hu:X.A.units + 64 < cLine) (hN:X.N[i]?=some x:=by rfl) (hv:xA X.env.scope x:=by first | exact Or.inl rfl | exact Or.inr (Or.inl rfl) | exact Or.inr (Or.inr rfl)) (hd:(x == ("__debug__" : Str))=false:=by decide)
  (hcd:(x == ("__classdict__" : Str))=false:=by decide):QT X (.Compare (.Name x px) [.NotEq] [.List [] pl] pos) (qm i):=by
 refine⟨fun B σ F H env Q rp h=>tU (pN yw (eB hN hv hd hcd) (zd gz) (fT _)) ?_⟩
 obtain⟨xs,hx,hdep,q⟩:=h
 obtain⟨p,vs,h1,h2,h3,h4,h5⟩:=rp.ov i xs hx
 refine⟨.ref p,h1,by simp [PySem.sizeLine_eq],fun w hw=>?_⟩
 have ne:p≠w:=fun z=>by subst z;rw [h2] at hw;cases hw
 have s1:ar F (upd F p (.lst vs)):=cB h3
 refine⟨upd (upd F p (.lst vs)) w (.lst []),.lst xs,.lst [],?_,?_,?_,by simp only [dep];omega,by simp only [dep];omega,by decide,!xs.isEmpty,?_,F,rp.loose hw,ar.refl _,q⟩
 ·refine nA fun b o hb=>?_
  by_cases z:b=p
  ·subst z;rw [aG] at hb;cases hb;exact h2
  ·rw [aC z] at hb;exact rp.fh _ _ hb
 ·have s2:ar (upd F p (.lst vs)) (upd (upd F p (.lst vs)) w (.lst [])):=cB (by rw [aC (Ne.symm ne)];exact rp.oE hw)
  exact iS (fL.of (by rw [aC ne];exact aG)) (aq.mono (s1.trans s2) _ _ h5)
 ·exact iS (fL.of aG) aU
 ·cases xs <;> rfl
def nj (j i:Nat) (te:TD):bB:=fun Z env=>∃xs,env[i]?=some (some (.own xs))∧te env fun y=>∃(k:Nat) (x:D),y=.int k∧xs[k]?=some x∧k < 2 ^ 62∧Z.nx ((env.set i (some (.own (xs.eraseIdx k)))).set j (some (.d x)))
theorem aq.eraseIdx {K:PySem.W.Frag} {F:Hp}:∀{ds:List D} {vs:List V} (k:Nat),aq K F ds vs→aq K F (ds.eraseIdx k) (vs.eraseIdx k)
 | [],vs,k,h=>by simp only [aq] at h;subst h;simpa using aU
 | d :: ds,vs,0,h=>by
  simp only [aq] at h
  obtain⟨v,r,rfl,a,b⟩:=h
  exact b
 | d :: ds,vs,k + 1,h=>by
  simp only [aq] at h
  obtain⟨v,r,rfl,a,b⟩:=h
  exact aO a (aq.eraseIdx k b)
theorem tK {x y:Str} {px py apos cpos:Pos} (j i:Nat) (nd:X.N.Nodup) (he:QE X e te) (hN:X.N[i]?=some x:=by rfl) (hv:xA X.env.scope x:=by first | exact Or.inl rfl | exact Or.inr (Or.inl rfl) | exact Or.inr (Or.inr rfl)) (hd:(x == ("__debug__" : Str))=false:=by decide) (hcd:(x == ("__classdict__" : Str))=false:=by decide)
  (hj:X.N[j]?=some y:=by rfl) (hy:Loc X.env.scope y:=by first | exact Or.inl rfl | exact Or.inr rfl)
  (hbase:attributeBase (.Name x px) "pop" X.env (eval (.Name x px) X.env)=eval (.Name x px) X.env:=by rfl)
  (hfew:((backTo cpos (starEach [e] X.env)).all (fun x=>!x.1) && (backToKw cpos (keywordEach [] X.env)).all (fun x=>x.1.isSome)
   && decide (([e]:List Expr).length + ([]:List Keyword).length + (if ([]:List Keyword).isEmpty then 0 else 1) < 30))=true:=by rfl)
  (hline:(apos.endLine == cpos.line)=true:=by rfl) (hst:starEach [e] X.env=(false,eval e X.env) :: starEach [] X.env:=by exact aT rfl) (hplain:(backTo cpos (starEach ([]:List Expr) X.env)).any (·.1)=false:=by rfl)
  (hs:swapsWith (.Call (.Attribute (.Name x px) "pop" apos) [e] [] cpos) (some (.Name y py)) pos.line X.env=pure false:=by rfl) (hf:X.fn y=true∨X.env.scope.names.lookup y=some .local:=by first | exact .inl rfl | exact .inr rfl) :
  QS X (.Assign [.Name y py] (.Call (.Attribute (.Name x px) "pop" apos) [e] [] cpos) pos) (nj j i te):=by
 refine⟨fun B σ F H env D rp h pins s I=>?_⟩
 refine oq (i:=j) nd hj hy (wO PySem.F.plainAttrs_list PySem.F.slot_list_pop PySem.F.type_list_pop wo (eB hN hv hd hcd) (cT bh gz hst) hbase hfew hline hst hplain) hs hf pins s σ H _ I ?_
 obtain⟨xs,hx,h⟩:=h
 obtain⟨p,vs,h1,h2,h3,h4,h5⟩:=rp.ov i xs hx
 refine⟨.ref p,h1,.inl ⟨rfl,vs,fL.of h2⟩,?_⟩
 refine aA (he B σ F H env _ rp h) fun w H1 hq0=>?_
 obtain⟨F1,d,r1,s1,d1,k,x',e1,hk,hk2,q1⟩:=hq0
 subst e1
 simp only [Den] at d1
 subst d1
 obtain⟨p',vs',g1,g2,g3,g4,g5⟩:=r1.ov i xs hx
 rw [h1] at g1;cases g1
 obtain⟨u,hu,du⟩:=g5.get hk
 have hl:=g5.length
 have hkl:=(Mo.mp hk).1
 have hix:seqIndex? (k:Int) vs'.length=some k:=(pQ (n:=vs'.length) (i:=(k:Int)) (j:=k) (by unfold uQ;rw [Mw (by omega),Mw (by omega)];simp)).1
 refine⟨p,vs',k,k,u,rfl,rfl,g2,by omega,by omega,hix,hu,F1,_,(r1.change hx h1 (g5.eraseIdx k)).set du ?_,q1⟩
 rw [I.len];exact (Mo.mp hj).1
theorem Aw {a:Expr} {ta:TA} {p:Pos} (hg:Gl X "range") (hm:X.mg "range" = none) (ha:PA X [a] ta) (hs:starEach [a] X.env=[(false,eval a X.env)]:=by rfl) :
  PE X (.Call (.Name "range" p) [a] [] pos) (fun σ H Q=>ta σ H fun vs H1=>∃n:Int,vs=[.int n]∧∀r,H1 r=none→Q (.ref r) (upd H1 r (.rng 0 n))):=by
 intro pins s σ H Q I h
 refine Call_ (lQ I hg hm boot_range (PyProof.Rows.callWith_type1 (bH (ha pos pins s σ H _ I h) fun us s1 ⟨vs,H1,I1,r1,q1⟩=>?_) hs rfl))
 obtain⟨n,rfl,q⟩:=q1
 obtain⟨u,rfl,ru⟩:=r1.one
 obtain⟨t,rfl⟩:=ru
 refine call_range_1 ⟨.ref s1.heap.objs.size,_,I1.laid (fun b o e=>Mz _ e) (Mx _) (show bO X.prog X.w _ _ _ (.rng 0 n) from ⟨_,_,_,MM _ rfl⟩),rfl,q _ (I1.hok.fresh (Mx _))⟩
theorem kH {n:Nat} {acc:Array Value} (h:ItemsOf (fun i v=>∃t,v=.int ((0:Int) + i * 1) t) acc n):Vals ((List.range n).map fun (i:Nat)=>V.int (i:Int)) acc.toList:=by
 have hl:acc.toList.length=n:=by simpa using h.1
 have go:∀(l:List Value) (k:Nat),(∀(j:Nat) (v:Value),l[j]?=some v→∃t,v=.int ((k + j:Nat):Int) t)→Vals ((List.range' k l.length).map fun (i:Nat)=>V.int (i:Int)) l:=by
  intro l
  induction l with
  | nil=>intro k _;exact .nil
  | cons v r ih =>
   intro k hk
   obtain⟨t,e⟩:=hk 0 v rfl
   refine .cons ⟨t,by simpa using e⟩ (ih (k + 1) fun j w hw=>?_)
   obtain⟨t',e'⟩:=hk (j + 1) w (by simpa using hw)
   exact⟨t',by rw [e'];congr 1;omega⟩
 have:=go acc.toList 0 fun j v hv=>by
  obtain⟨t,e⟩:=h.2 j v (by simpa using hv)
  exact⟨t,by rw [e];congr 1;omega⟩
 rw [hl,← List.range_eq_range'] at this
 exact this
theorem za (hc:X.calm=true):dB X (.type "list") (fun xs H Q=>∃r n,xs=[.ref r]∧H r=some (.rng 0 n)∧(-(2 ^ 62)≤n∧n≤16777216)∧∀l,H l=none→Q (.ref l) (upd H l (.lst ((List.range n.toNat).map fun (i:Nat)=>V.int (i:Int))))):=by
 intro pins s σ H xs us Q I r h
 obtain⟨a,n,rfl,hr,⟨n1,n2⟩,q⟩:=h
 obtain⟨u,rfl,rx⟩:=vals1 r
 cases rx
 obtain⟨t,u,v,e⟩:=(show bO X.prog X.w H s.heap a (.rng 0 n) from I.hok a _ hr)
 have hsz:Builtin.Range.rangeSize 0 n 1=(n.toNat:Int):=by rw [rangeSize_one];split <;> omega
 refine call_list_range (I.ok.hd hc) e (small_one (by decide) (by decide) n1 (by omega)) hsz (by omega) fun h' tk acc c kp e' it=>?_
 refine⟨.ref s.heap.objs.size,_,I.laid (t':=tk) kp (Mx _) (show bO X.prog X.w _ h' _ (.lst ((List.range n.toNat).map fun (i:Nat)=>V.int (i:Int))) from ⟨by simp [PySem.sizeLine_eq];omega,acc.toList,c,kH it,by simpa using e'⟩),rfl,q _ (I.hok.fresh (Mx _))⟩
def uC (ts:eQ):eQ:=fun env Q=>ts env fun ds=>∃n:Int,ds=[.int n]∧(-(2 ^ 62)≤n∧n≤16777216)∧Q (a9 0 n.toNat)
theorem zb {K:PySem.W.Frag} {F:Hp} (n:Nat):aq K F (a9 0 n) ((List.range n).map fun (i:Nat)=>V.int (i:Int)):=by
 have e:a9 0 n=((List.range n).map fun (i:Nat)=>(i:Int)).map D.int:=by unfold a9;rw [List.map_map];congr 1;funext i;simp
 have e2:((List.range n).map fun (i:Nat)=>V.int (i:Int))=((List.range n).map fun (i:Nat)=>(i:Int)).map V.int:=by rw [List.map_map];rfl
 rw [e,e2];exact sW _
theorem Di {a:Expr} {p p2 pos2:Pos} (hm:X.mg "list" = none) (hm2:X.mg "range" = none) (ha:QA X [a] ts) (hc:X.calm=true:=by rfl) (hg:Gl X "list":=by rfl) (hg2:Gl X "range":=by rfl) (hs:starEach [a] X.env=[(false,eval a X.env)]:=by rfl)
  (he:starEach [.Call (.Name "range" p2) [a] [] pos2] X.env=(false,eval (.Call (.Name "range" p2) [a] [] pos2) X.env) :: starEach [] X.env:=by exact aT rfl) (hpl:(backTo pos (starEach ([]:List Expr) X.env)).any (·.1)=false:=by rfl) :
  QF X (.Call (.Name "list" p) [.Call (.Name "range" p2) [a] [] pos2] [] pos) (uC ts):=by
 refine⟨fun B σ F H env Q rp h=>bN (nJ (za hc) hg hm qr (cT (Aw hg2 hm2 jF hs) gz he) (by decide) (by decide) he hpl) ?_⟩
 refine cy (ha B σ F H env _ rp h) fun vs H1 hq0=>?_
 obtain⟨F1,ds,r1,s1,d1,n,e1,hn,q1⟩:=hq0
 subst e1
 simp only [aq,Den] at d1
 obtain⟨v,r,rfl,rfl,rfl⟩:=d1
 refine⟨n,rfl,fun r hr=>?_⟩
 obtain⟨r2,s2⟩:=r1.laid (o:=.rng 0 n) hr
 exact⟨r,n,rfl,aG,hn,fun w hw=>⟨_,_,w,_,_,rfl,hw,rfl,r2,s1.trans s2,zb _,q1⟩⟩
end
section
variable {X:Cx} {N':List Str} {ix:List Nat} {scope:Scope} {elt a:Expr} {ifs:List Expr} {x:Str} {px py pos spos p pos2:Pos} {tt:TB} {te:TD} {ts:eQ}
theorem pH {y:Str} (i:Nat) (hNd:X.N.Nodup) (hc:X.calm=true) (O:bM X N' 1 ix scope) (hN:N'.Nodup) (h0:N'[0]?=some x) (hx:(relabel scope X.env).names.lookup x=some .local) (hgl:Gl X "range") (hm:X.mg "range" = none) (ha:QA X [a] ts)
  (ht:∀C s H fp pins,rS (aP X N' scope C s H fp pins) ifs tt) (he:∀C s H fp pins,QE (aP X N' scope C s H fp pins) elt te) (hy:X.N[i]?=some y:=by rfl) (hl:Loc X.env.scope y:=by first | exact Or.inl rfl | exact Or.inr rfl)
  (hsw:swapsWith (.ListComp elt [⟨.Name x px,.Call (.Name "range" p) [a] [] pos2,ifs,0⟩] scope pos) (some (.Name y py)) spos.line X.env=pure true:=by rfl) (hf:X.fn y=true∨X.env.scope.names.lookup y=some .local:=by first | exact .inl rfl | exact .inr rfl)
  (hst:starEach [a] X.env=[(false,eval a X.env)]:=by rfl) (hs:∀x,foldedSetIterable (.Call (.Name "range" p) [a] [] pos2) X.env x=pure x:=by intro _;rfl) :
  QS X (.Assign [.Name y py] (.ListComp elt [⟨.Name x px,.Call (.Name "range" p) [a] [] pos2,ifs,0⟩] scope pos) spos) (cA i (gb iZ ix ts tt te)):=by
 refine⟨fun B σ F H env D rp h pins s I=>?_⟩
 refine qt hc (kE hgl hm jF hst) O hNd hy hl hsw hf hs pins s σ H _ I ?_
 refine cy (ha B σ F H env _ rp h) fun vs H1 hq0=>?_
 obtain⟨F1,ds,r1,s1,d1,q1⟩:=hq0
 (try dsimp only at q1);unfold iZ at q1
 split at q1
 ·simp only [aq,Den] at d1
  obtain⟨v,r,rfl,rfl,rfl⟩:=d1
  refine⟨_,rfl,q1.1.1,q1.1.2,?_⟩
  intro a' C s fp pins ha'
  obtain⟨W,w0,step⟩:=kF (X:=X) (px:=px) hN h0 hx ht he s1 r1 jN q1.2 a' C s fp pins ha'
  refine⟨W,w0,fun i' m σ' H' w=>?_⟩
  rcases step i' m σ' H' w with ⟨st,z⟩ | z
  ·refine .inl ⟨st,?_⟩
   obtain⟨F',H2,p,vs,ds,e1,hp,e2,r',s',hd,q'⟩:=z
   cases e1
   subst e2
   refine⟨F',_,r'.Dg hp hd ?_,q'⟩
   rw [I.len];exact (Mo.mp hy).1
  ·exact .inr z
 ·exact q1.elim
end
end L2.L3
namespace L2.L3
open PySem PySem.Spec PyProof.Rows
section
variable {X:Cx} {o e:Expr} {to te:TD} {apos cpos:Pos}
theorem tI {X:Cx} {pins:List (Addr×Obj)} {σ:St} {H F:Hp} {s:Shared} (I:Inv X pins σ H s) (fh:ar F H) {ds:List D} {vs:List V} {us:List Value} {d:D} {x:V} {v:Value} (A:Around) (hu:A.units + 62 < cLine) (hds:b9 ds≤60) (hd:dep d≤60) (dl:aq X.K F ds vs) (rv:Vals vs us) (dx:Den X.K F d x) (rx:RelV x v) :
  ∀u∈us,SeqAt.EqAt A s u v (jE us ds d u):=by
 intro u hu'
 obtain⟨j,hj,e⟩:=List.getElem_of_mem hu'
 have h2:us[j]?=some u:=by rw [← e];simp [hj]
 have l1:=dl.length
 have l2:=rv.length
 have h1:ds[j]?=some (ds[j]'(by omega)):=Mq _
 rw [pL I fh (by omega) dl rv h1 h2]
 obtain⟨w,g1,g2⟩:=dl.get h1
 obtain⟨u',g3,g4⟩:=rv.get g1
 rw [h2] at g3;cases g3
 have dle:dep (ds[j]'(by omega))≤60:=by
  have go:∀(l:List D) (n:Nat),b9 l≤n→∀y∈l,dep y≤n:=by
   intro l
   induction l with
   | nil=>intro n _ y hy;cases hy
   | cons z r ih =>
    intro n hn y hy
    simp only [b9] at hn
    rcases ML.mp hy with rfl | hy
    ·omega
    ·exact ih n (by omega) y hy
  exact go ds 60 hds _ (Nc _)
 exact p9 I fh _ d A _ x u v (by omega) (by omega) (by omega) g2 dx g4 rx
theorem oC {α:Type} (f:α→Bool) (l:List α):l.countP f=(l.map f).countP id:=by rw [List.countP_map];rfl
end
end L2.L3
namespace L2.L3
open PySem PySem.Spec PyProof.Rows
section
variable {X:Cx} {a b e:Expr} {ta te:TD} {pos p2:Pos}
end
end L2.L3
local macro_rules | `(tactic| simp_arith only [$ls,*] $[$loc]?) => `(tactic| ((try dsimp only [$(⟨ls.elemsAndSeps⟩),*, L2.L3.aE, L2.L3.eR, L2.L3.bb, L2.L3.a8, L2.L3.j6, L2.L3.iU, L2.L3.aV, L2.L3.kT, L2.L3.jV, L2.L3.gd, L2.L3.cA, L2.L3.er, L2.L3.c9, L2.L3.rY, L2.L3.ag, L2.L3.cC, L2.L3.aB, L2.L3.qS, L2.L3.aJ, L2.L3.mi, L2.L3.n8, L2.L3.ya, L2.L3.m8, L2.L3.w4, L2.L3.mO, L2.L3.Gm, L2.L3.aw, L2.L3.af, L2.L3.au, L2.L3.bQ, L2.L3.gB, L2.L3.nP, L2.L3.cY, L2.L3.pA, L2.L3.GH, L2.L3.ju, L2.L3.fF, L2.L3.cM, L2.L3.aR, L2.L3.iw, L2.L3.ny, L2.L3.h7, L2.L3.cJ, L2.L3.aF, MQ, List.map_nil, List.length_cons, List.length_nil, List.cons_append, List.nil_append, List.getElem?_cons_zero, List.getElem?_cons_succ, List.set_cons_zero, List.set_cons_succ, L2.L3.hJ, L2.L3.gb, L2.L3.rC, L2.L3.jm, L2.L3.kL, L2.L3.kJ, L2.L3.eD, L2.L3.nH, L2.L3.lL, L2.L3.lG, L2.L3.lT, L2.L3.nY, L2.L3.n9, L2.L3.iI, L2.L3.iK, L2.L3.jr, L2.L3.lI, L2.L3.Jm, L2.L3.Bn, L2.L3.rM, L2.L3.AB, L2.L3.kO, L2.L3.i9, L2.L3.c7, L2.L3.pS, L2.L3.nj, L2.L3.qm, L2.L3.uC, L2.L3.sS] $[$loc]?); (try simp only [$ls,*, L2.L3.aE, L2.L3.eR, L2.L3.bb, L2.L3.a8, L2.L3.j6, L2.L3.iU, L2.L3.aV, L2.L3.kT, L2.L3.jV, L2.L3.gd, L2.L3.cA, L2.L3.er, L2.L3.c9, L2.L3.rY, L2.L3.ag, L2.L3.cC, L2.L3.aB, L2.L3.qS, L2.L3.aJ, L2.L3.mi, L2.L3.n8, L2.L3.ya, L2.L3.m8, L2.L3.w4, L2.L3.mO, L2.L3.Gm, L2.L3.aw, L2.L3.af, L2.L3.au, L2.L3.bQ, L2.L3.gB, L2.L3.nP, L2.L3.cY, L2.L3.pA, L2.L3.GH, L2.L3.ju, L2.L3.fF, L2.L3.cM, L2.L3.aR, L2.L3.iw, L2.L3.qK, L2.L3.qG, L2.L3.ny, L2.L3.h7, L2.L3.cJ, L2.L3.aF, MQ, List.map_nil, List.length_cons, List.length_nil, List.cons_append, List.nil_append, MV, List.getElem?_cons_zero, List.getElem?_cons_succ, List.getElem?_nil, List.set_cons_zero, List.set_cons_succ, Option.some.injEq, L2.L3.Lo.d.injEq, L2.L3.Lo.own.injEq, L2.L3.D.bl.injEq, L2.L3.D.int.injEq, exists_eq_left', exists_eq_left, Nat.reduceAdd, Nat.reduceSub, Nat.sub_self, Nat.add_one_sub_one, List.replicate_succ, List.replicate_zero, L2.L3.D.tup.injEq, List.cons.injEq, and_assoc, L2.L3.hJ, L2.L3.gb, L2.L3.rC, L2.L3.jm, L2.L3.kL, L2.L3.kJ, L2.L3.eD, L2.L3.nH, L2.L3.y0, L2.L3.qV, L2.L3.yq, L2.L3.yG, L2.L3.y3, L2.L3.lL, L2.L3.lG, L2.L3.lT, L2.L3.uB, L2.L3.u6, L2.L3.nY, L2.L3.n9, L2.L3.iI, L2.L3.iK, L2.L3.rB, L2.L3.rA, L2.L3.BV, L2.L3.yh, L2.L3.yB, decide_eq_true_eq, true_and, and_true, if_true, if_false, Mt, Bool.not_eq_true', decide_eq_false_iff_not, PySem.sizeLine_eq, Int.reduceToNat, Int.reducePow, Int.reduceMul, Int.reduceAdd, Int.reduceNeg, Int.reduceSub, Int.reduceLT, Int.reduceLE, Int.reduceEq, Nat.reduceEqDiff, decide_true, decide_false, Nat.reduceLeDiff, Nat.reduceLT, Bool.true_eq_false, Bool.not_true, Bool.not_false, Bool.not_not, L2.L3.jr, L2.L3.lI, L2.L3.Jm, L2.L3.Bn, L2.L3.rM, L2.L3.AB, L2.L3.uT, L2.L3.kO, L2.L3.sI, L2.L3.sQ, L2.L3.D.lst.injEq, L2.L3.i9, L2.L3.c7, L2.L3.pS, L2.L3.nj, L2.L3.qm, L2.L3.uC, L2.L3.sS, L2.L3.B3] $[$loc]?)))
namespace L2.L3
open PySem PySem.Spec PyProof.Rows
def XY (X:Cx) (B:Base) (xc:Str→Prop):Value→Shared→Prop:=fun e s'=>wpAny (model X.prog X.w) X.A (noteFrame e X.env) (fun _ s2=>wpAny (model X.prog X.w) X.A (setFlight e none) (fun _ s3=>XZ X B xc e s3) (fun _ _=>False) s2) (fun _ _=>False) s'
theorem XZ.L5 {X:Cx} {B:Base} {xc:Str→Prop} {e:Value} {s':Shared} (hst:X.stack=X.env :: X.outer) (hf:X.env.frame=some X.env.locals) (h:XZ X B xc e s'):XY X B xc e s':=by
 obtain⟨pins,a,c,C,σ',H',F',env',rfl,th,r,hm,hx⟩:=h
 exact th.note hst hf fun s'' t''=>⟨pins,a,c,C,σ',H',F',env',rfl,t'',r,hm,hx⟩
structure QY (X:Cx) (st:Stmt) (t:sv):Prop where
 of ::
 run:∀(B:Base) (σ:St) (F H:Hp) (env:En) (D:vX),Rep X.K B F H σ env→t D env→wS (X.cw (XY X B D.xc)) st (RS X B D.toEnds3) σ H
structure Jf (X:Cx) (st:List Stmt) (t:sv):Prop where
 of ::
 run:∀(B:Base) (σ:St) (F H:Hp) (env:En) (D:vX),Rep X.K B F H σ env→t D env→wSs (X.cw (XY X B D.xc)) st (RS X B D.toEnds3) σ H
section
variable {X:Cx} {c e:Expr} {es:List Expr} {st:Stmt} {sts xs ys body:List Stmt} {p q:sv} {tc:TB} {pos:Pos}
theorem sJ (h:QZ X st p) (hst:X.stack=X.env :: X.outer:=by rfl) (hf:X.env.frame=some X.env.locals:=by rfl):QY X st p:=⟨fun B σ F H env D rp hq pins s I =>
 MO (h.run B σ F H env D rp hq pins s (I.bG.cw _)) (fun _ _ q=>SP.y8 q) fun _ _ z=>XZ.L5 hst hf z⟩
theorem zX (h:QY X st p):Jf X [st] p:=⟨fun B σ F H env D rp hq=>n6 (uq B4) (h.run B σ F H env D rp hq)⟩
theorem ku (h1:QY X st p) (h2:Jf X sts q):Jf X (st :: sts) (rM p q):=by
 refine⟨fun B σ F H env D rp h=>n6 (xE B4 eT) ?_⟩
 exact zR (h1.run B σ F H env { D with nx:=q D } rp h) (fun σ' H' ⟨F',env',rp',q⟩=>h2.run B σ' F' H' env' D rp' q) (fun _ _ q=>q) (fun _ _ q=>q) (fun _ _ q=>q)
def yJ (c:TB) (tb:sv):sv:=fun D env=>∃(I:En→Prop) (μ:En→Nat),I env∧∀env,I env→c env fun k=>if k=true then tb { D with nx:=fun e'=>I e'∧μ e' < μ env,ct:=fun e'=>I e'∧μ e' < μ env,bk:=D.nx } env else D.nx env
theorem Dm (hc:QT X.oZ c tc) (hb:Jf X body p):QY X (.While c body [] pos) (yJ tc p):=by
 refine⟨fun B σ F H env D rp h=>?_⟩
 obtain⟨I,μ,i0,turn⟩:=h
 refine dG (xH (X:=X.cw (XY X B D.xc)) PassesOwn.looking sg eT) ?_
 refine⟨fun m σ H=>∃F env,Rep X.K B F H σ env∧I env∧μ env=m,⟨_,F,env,rp,i0,rfl⟩,?_⟩
 rintro m σ1 H1 ⟨F1,env1,r1,i1,rfl⟩
 refine gV (Dc (hc B σ1 F1 H1 env1 _ r1 (turn env1 i1))) fun k H2 ⟨F2,r2,s2,q2⟩=>?_
 cases k with
 | false=>exact⟨F2,env1,r2,q2⟩
 | true =>
  refine⟨fun σ' H'=>∃F' env',Rep X.K B F' H' σ' env'∧I env'∧μ env' < μ env1,fun σ' H' ⟨F',env',r',i',l⟩=>⟨_,l,F',env',r',i',rfl⟩,?_⟩
  exact hb.run B σ1 F2 H2 env1 _ r2 q2
end
section
variable {P:Program} {w:World} {K:PySem.W.Frag} {mg:Str→Option Value} {base:Heap}
theorem XY.leave {N:List Str} {qual:Str} {scope:Scope} {f:Addr} {cd:Value} {A:Around} {outer:List Env} {s0:Shared} {H0:Hp} {E:XK} {B:Base} {xc:Str→Prop} {e:Value} {s':Shared}
  (t:XY (gO (Fg P w) P w K mg base N qual scope f cd A outer s0 H0 E) B xc e s') (q:∀(c:Str) (C:Value) (σ':St) (H' F':Hp) (env':En),Rep K B F' H' σ' env'→mg c=some C→xc c→E C none H') :
  (gO (Fg P w) P w K mg base N qual scope f cd A outer s0 H0 E).xe e s':=by
 show wpAny (model P w) _ (leaving _ e) _ _ s'
 unfold leaving
 refine Mn (MO t (fun _ s2 z=>MO z (fun _ s3 y=>?_) fun _ _ y=>y.elim) fun _ _ y=>y.elim)
 obtain⟨pins,a,c,C,σ',H',F',env',rfl,t'',r,hm,hx⟩:=y
 have I:=t''.inv
 obtain⟨Hc,sc,Ic,os,bare,un,hok,fl⟩:=t''
 refine⟨a,C,none,H',rfl,I.os,I.bare,I.base,I.hok,fl.GC fun b o e=>?_,q c C σ' H' F' env' r hm hx⟩
 exact Ic.base.there b o e (by show b∉([]:List Addr);simp)
theorem pz.zf {x qual:Str} {st:Stmt} {fa:Addr} {fd:FuncData} {N ps:List Str} {k:Nat} {f:A4} (F:pz K x qual st fa fd) (S:aH N ps (ak st)) (hmg:mg x=some (.ref fa)) (hb:Binds K fd ps [])
  (hl:∀ds Q R,f ds Q R→ds.length=ps.length)
  (hbody:∀(cdv:Value) (A:Around) (outer:List Env) (s:Shared) (H:Hp) (E:XK),di k (A.deeper (envOfC qual (ak st) s.heap.objs.size fa cdv)) →
   ∃t,Jf (gO (Fg P w) P w K mg base N qual (ak st) fa cdv A outer s H E) (bp st) t∧∀ds (Q:D→Prop) (R:Str→Prop),f ds Q R→t { nx:=fun _=>Q .non,rt:=Q,xc:=R } (aF N ds)) :
  fv P w K mg base (k + 1) x f:=by
 refine⟨fa,fd,ps,?_,hmg,F.kp,hb⟩
 obtain⟨oc,od,kV,doc,pm,an,cdv,ct,osl,rfl,lk,hcd⟩:=F.ex
 refine An lk hcd S (fun vs H Q E h=>?_) fun A outer s H vs Q E hr h=>?_
 ·obtain⟨F0,ds,P,R,_,hd,hf,_⟩:=h
  rw [← hd.length];exact hl ds _ _ hf
 ·obtain⟨F0,ds,P',R,fh,hd,hf,kk,kx⟩:=h
  obtain⟨t,ht,hq⟩:=hbody cdv A outer s H E hr
  refine⟨_,eT,?_⟩
  have core:=ht.run _ (start N vs) F0 H (aF N ds) _ (gE fh hd) (hq ds P' R hf)
  intro pins s1 I
  refine MO (core pins s1 (I.cw _)) (fun fl s2 z=>?_) fun ex s2 z=>?_
  ·refine pT (SP.bG z) (fun σ' H' ⟨F',env',r,q⟩=>?_) (fun v H' ⟨F',d',r,dd,q⟩=>?_) (fun _ _ ⟨_,_,_,q⟩=>q) (fun _ _ ⟨_,_,_,q⟩=>q)
   ·exact kk .non .non F' H' r.f0 r.h0 r.fh (fun p h1 h2=>r.nf p ⟨h1,h2⟩) jd q
   ·exact kk d' v F' H' r.f0 r.h0 r.fh (fun p h1 h2=>r.nf p ⟨h1,h2⟩) dd q
  ·exact XY.leave z fun c C σ' H' F' env' r hm hx=>kx c C F' H' r.f0 r.h0 r.fh (fun p h1 h2=>r.nf p ⟨h1,h2⟩) hm hx
end
end L2.L3
namespace L2.L3
open PySem PySem.Spec PyProof.Rows
end L2.L3
namespace L2.L3
open PySem PySem.Spec PyProof.Rows
end L2.L3
namespace L2.L3
open PySem PySem.Spec PyProof.Rows
section
variable {P:Program} {w:World} {K:PySem.W.Frag} {mg:Str→Option Value} {base:Heap}
end
end L2.L3
namespace L2.L3
open PySem PySem.Spec PyProof.Rows
section
variable {X:Cx} {a b c e:Expr} {ta tb te:TD} {pos:Pos} {st:Stmt} {t:bB}
def xG (i:Nat) (te:TD):bB:=fun Z env=>∃xs,env[i]?=some (some (.own xs))∧te env fun y=>∃(k:Nat),y=.int k∧k < xs.length∧k < 2 ^ 62∧Z.nx (env.set i (some (.own (xs.eraseIdx k))))
theorem E8 {x:Str} {px apos cpos:Pos} (i:Nat) (he:QE X e te) (hN:X.N[i]?=some x:=by rfl) (hv:xA X.env.scope x:=by first | exact Or.inl rfl | exact Or.inr (Or.inl rfl) | exact Or.inr (Or.inr rfl)) (hd:(x == ("__debug__" : Str))=false:=by decide) (hcd:(x == ("__classdict__" : Str))=false:=by decide)
  (hbase:attributeBase (.Name x px) "pop" X.env (eval (.Name x px) X.env)=eval (.Name x px) X.env:=by rfl)
  (hfew:((backTo cpos (starEach [e] X.env)).all (fun x=>!x.1) && (backToKw cpos (keywordEach [] X.env)).all (fun x=>x.1.isSome)
   && decide (([e]:List Expr).length + ([]:List Keyword).length + (if ([]:List Keyword).isEmpty then 0 else 1) < 30))=true:=by rfl)
  (hline:(apos.endLine == cpos.line)=true:=by rfl) (hst:starEach [e] X.env=(false,eval e X.env) :: starEach [] X.env:=by exact aT rfl) (hplain:(backTo cpos (starEach ([]:List Expr) X.env)).any (·.1)=false:=by rfl)
  (hs:swapsWith (.Call (.Attribute (.Name x px) "pop" apos) [e] [] cpos) none pos.line X.env=pure false:=by rfl) :
  QS X (.Expr (.Call (.Attribute (.Name x px) "pop" apos) [e] [] cpos) pos) (xG i te):=by
 refine⟨fun B σ F H env D rp h=>dG (vb (wO PySem.F.plainAttrs_list PySem.F.slot_list_pop PySem.F.type_list_pop wo (eB hN hv hd hcd) (cT bh gz hst) hbase hfew hline hst hplain) hs) ?_⟩
 obtain⟨xs,hx,h⟩:=h
 obtain⟨p,vs,h1,h2,h3,h4,h5⟩:=rp.ov i xs hx
 refine⟨.ref p,h1,.inl ⟨rfl,vs,fL.of h2⟩,?_⟩
 refine aA (he B σ F H env _ rp h) fun w H1 hq0=>?_
 obtain⟨F1,d,r1,s1,d1,k,e1,hk,hk2,q1⟩:=hq0
 subst e1
 simp only [Den] at d1
 subst d1
 obtain⟨p',vs',g1,g2,g3,g4,g5⟩:=r1.ov i xs hx
 rw [h1] at g1;cases g1
 have hl:=g5.length
 obtain⟨u,hu,du⟩:=g5.get (Mq hk)
 have hix:seqIndex? (k:Int) vs'.length=some k:=(pQ (n:=vs'.length) (i:=(k:Int)) (j:=k) (by unfold uQ;rw [Mw (by omega),Mw (by omega)];simp)).1
 exact⟨p,vs',k,k,u,rfl,rfl,g2,by omega,by omega,hix,hu,F1,_,r1.change hx h1 (g5.eraseIdx k),q1⟩
end
end L2.L3
namespace L2.L3
open PySem PySem.Spec PyProof.Rows
section
variable {prog:Program} {w:World} {A:Around} {E:Value→Shared→Prop} {s:Shared}
def kM (prog:Program) (w:World) (A:Around) (s:Shared) (v:Value):Prop:=∀(E:Value→Shared→Prop) (Q:Bool→Shared→Prop),Q true s→wpAny (model prog w) A (eqIsQuiet 8 v) Q E s
def h9 (prog:Program) (w:World) (A:Around) (s:Shared) (v:Value) (h:Int) (n:Nat):Prop:=∀(E:Value→Shared→Prop) (Q:Int→Shared→Prop),Q h { s with toks:=s.toks + n }→wpAny (model prog w) A (PySem.pyHash v) Q E s
theorem w6 {key:Value} {stored:List Value} {Q:Bool→Shared→Prop} (hkey:kM prog w A s key)
  (hst:∀v∈stored,kM prog w A s v) (h:Q false s):wpAny (model prog w) A (tableMayTell key stored) Q E s:=by
 unfold tableMayTell
 split
 ·exact Mr h
 ·refine Mn (hkey _ _ ?_)
  simp only [Bool.not_true,Mt,if_false]
  refine Mn ?_
  refine wpAny_forIn_list _ (fun rest r s'=>s'=s∧r=(none,())∧∀v∈rest,kM prog w A s v) _ ?_ ?_ _ _ ⟨rfl,rfl,hst⟩
  ·rintro x rest r s' ⟨rfl,rfl,hr⟩
   refine Mn (hr x MN _ _ ?_)
   simp only [Bool.not_true,Mt,if_false]
   exact Mr ⟨rfl,rfl,fun v hv=>hr v (ME _ hv)⟩
  ·rintro r s' ⟨rfl,rfl,_⟩
   exact Mr h
structure lP (prog:Program) (w:World) (A:Around) (s:Shared) (es:Array DictEntry) (key:Value) (h:Int) (m:Nat→Bool):Prop where
 eq:∀(j:Nat) (hj:j < es.size),SeqAt.EqAt A s es[j].key key (m j)
 mh:∀(j:Nat) (hj:j < es.size),m j=true→es[j].hash=h
 mu:∀(i j:Nat),i < es.size→j < es.size→m i=true→m j=true→i=j
 same:∀(j:Nat) (hj:j < es.size),es[j].key=key→es[j].hash=h
 qk:kM prog w A s key
 qs:∀(j:Nat) (hj:j < es.size),kM prog w A s es[j].key
 ns:(∃i t,key=.int i t)∨(∃a,key=.ref a)∨key=.none
theorem AG {M:Model} {A:Around} {E:Value→Shared→Prop} {s:Shared} {α β:Type} {c:Prop} [Decidable c] {t1 t2:Sem β} {k:β→Sem α} {v:β} {Q:α→Shared→Prop} (h1:∀{R:β→Shared→Prop},R v s→wpAny M A t1 R E s) (h2:∀{R:β→Shared→Prop},R v s→wpAny M A t2 R E s)
  (h:wpAny M A (k v) Q E s):wpAny M A (if c then t1 >>= k else t2 >>= k) Q E s:=by
 split
 ·exact Mn (h1 h)
 ·exact Mn (h2 h)
theorem tY {d:Addr} {o:Obj} {es:Array DictEntry} {ep} {key:Value} {h:Int} {m:Nat→Bool} {Q:Option Nat→Shared→Prop} (f:lP prog w A s es key h m)
  (ho:s.heap.get? d=some o) (hd:o.data=.dict es ep)
  (hnone:(∀j,j < es.size→m j=false)→Q none s) (hsome:∀j,j < es.size→m j=true→Q (some j) s) :
  wpAny (model prog w) A (dictFind d key h) Q E s:=by
 have hask:∀(j:Nat),j < es.size→m j=true→((es[j]?.map (·.hash)) == some h)=true:=by
  intro j hj hm
  rw [Array.getElem?_eq_getElem hj,Option.map_some,f.mh j hj hm]
  simp
 have hst:∀v∈(placesWithHash es.size (fun i=>es[i]?.map (·.hash)) h).filterMap (fun i=>es[i]?.map (·.key)),kM prog w A s v:=by
  intro v hv
  obtain⟨i,_,hi⟩:=List.mem_filterMap.mp hv
  cases hei:es[i]? with
  | none=>rw [hei] at hi;cases hi
  | some e =>
   rw [hei] at hi
   obtain rfl:e.key=v:=by simpa using hi
   obtain⟨hl,rfl⟩:=M8.mp hei
   exact f.qs i hl
 have hany:¬ (es.any fun e=>e.key == key && e.hash != h)=true:=by
  rw [← Array.any_toList,List.any_eq_true]
  rintro⟨e,hin,hc⟩
  obtain⟨i,hi,rfl⟩:=Array.mem_iff_getElem.mp (Array.mem_toList_iff.mp hin)
  simp only [Bool.and_eq_true,beq_iff_eq,bne_iff_ne,ne_eq] at hc
  exact hc.2 (f.same i hi hc.1)
 have plain:wpAny (model prog w) A (dictWalkPlain d key h es (placesWithHash es.size (fun i=>es[i]?.map (·.hash)) h)) Q E s:=by
  refine Mn ?_
  refine wpAny_forIn_list _
   (fun rest b s'=>s'=s∧b=(none,())∧∃i,rest=(List.range' i (es.size - i)).filter (fun i=>(es[i]?.map (·.hash)) == some h)∧i≤es.size ∧
    ∀j,j < i→m j=false) _ ?_ ?_ _ _
   ⟨rfl,rfl,0,by rw [placesWithHash,List.range_eq_range',Nat.sub_zero],MX _,fun _ h=>absurd h (Nd _)⟩
  ·rintro x rest b s' ⟨rfl,rfl,i,hr,hi,hno⟩
   obtain⟨hix,hxn,hpx,hskip,hrest⟩:=filter_range'_cons _ _ _ _ _ hr.symm
   have hlt:x < es.size:=by omega
   have before:∀j,j < x→m j=false:=fun j hjx=>by
    rcases Nf j i with c | c
    ·exact hno j c
    ·cases hmj:m j with
     | false=>rfl
     | true=>have q:=hskip j c hjx;rw [hask j (by omega) hmj] at q;cases q
   have hnext:m x=false→∃i,rest=(List.range' i (es.size - i)).filter (fun i=>(es[i]?.map (·.hash)) == some h)∧i≤es.size∧∀j,j < i→m j=false:=fun hne =>
    ⟨x + 1,by rw [hrest];congr 2;omega,hlt,fun j hji=>by
     rcases Nf j x with c | c
     ·exact before j c
     ·have:j=x:=by omega
      subst this;exact hne⟩
   simp only [Array.getElem?_eq_getElem hlt]
   by_cases hh:(es[x].hash == h)=true
   ·rw [Mw hh]
    refine Mn (wpAny_dictEpoch ho hd (Mn (f.eq x hlt prog w _ _ (Mn (wpAny_dictEpoch ho hd ?_)))))
    show wpAny _ _ (if (ep != ep)=true then _ else _) _ E _
    rw [Ms (by simp)]
    cases hm:m x with
    | true=>exact Mn (wpAny_rule (Mr (Mr (hsome x hlt hm))))
    | false=>exact Mn (wpAny_rule (Mr ⟨rfl,rfl,hnext hm⟩))
   ·rw [Ms hh]
    refine Mr ⟨rfl,rfl,hnext ?_⟩
    cases hm:m x with
    | false=>rfl
    | true=>exact absurd (beq_iff_eq.mpr (f.mh x hlt hm)) hh
  ·rintro b s' ⟨rfl,rfl,i,hr,hi,hno⟩
   refine Mr (hnone fun j hj=>?_)
   rcases Nf j i with c | c
   ·exact hno j c
   ·have:=List.filter_eq_nil_iff.mp hr.symm j (List.mem_range'_1.mpr ⟨c,by omega⟩)
    cases hmj:m j with
    | false=>rfl
    | true=>rw [hask j hj hmj] at this;exact absurd rfl this
 have ns:=f.ns
 unfold dictFind
 try with_reducible refine wpAny_holding ?_
 refine Mn (wpAny_dictEntries ho hd ?_)
 extract_lets places stored hit jp2 jp1 jp0
 have h1:wpAny (model prog w) A (jp1 ()) Q E s:=by
  refine AG (v:=false) (fun q=>Mr q) (fun q=>w6 f.qk hst q) ?_
  dsimp only [jp2,stored,places,hit]
  (
   rw [Ms (by simp)]
   refine Mn ?_
   refine wpAny_forIn_list _
    (fun rest b s'=>s'=s∧∃i hit,b=(none,hit)∧rest=(List.range' i (es.size - i)).filter (fun i=>(es[i]?.map (·.hash)) == some h)∧i≤es.size ∧
     ((hit=none∧∀j,j < i→m j=false)∨∃j,hit=some j∧j < i∧m j=true)) _ ?_ ?_ _ _
    ⟨rfl,0,none,rfl,by rw [placesWithHash,List.range_eq_range',Nat.sub_zero],MX _,.inl ⟨rfl,fun _ h=>absurd h (Nd _)⟩⟩
   ·rintro x rest b s' ⟨rfl,i,hit,rfl,hr,hi,hH⟩
    obtain⟨hix,hxn,hpx,hskip,hrest⟩:=filter_range'_cons _ _ _ _ _ hr.symm
    have hlt:x < es.size:=by omega
    have hrest':rest=(List.range' (x + 1) (es.size - (x + 1))).filter (fun i=>(es[i]?.map (·.hash)) == some h):=by rw [hrest];congr 2;omega
    have hHx:(hit=none∧∀j,j < x→m j=false)∨∃j,hit=some j∧j < x∧m j=true:=by
     rcases hH with ⟨h0,hno⟩ | ⟨j,h1,hji,hj⟩
     ·refine .inl ⟨h0,fun j hjx=>?_⟩
      rcases Nf j i with c | c
      ·exact hno j c
      ·cases hmj:m j with
       | false=>rfl
       | true=>have q:=hskip j c hjx;rw [hask j (by omega) hmj] at q;cases q
     ·exact .inr ⟨j,h1,by omega,hj⟩
    have hstay:m x=false→((hit=none∧∀j,j < x + 1→m j=false)∨∃j,hit=some j∧j < x + 1∧m j=true):=by
     intro hne
     rcases hHx with ⟨h0,hno⟩ | ⟨j,h1,hjx,hj⟩
     ·refine .inl ⟨h0,fun j hjx=>?_⟩
      rcases Nf j x with c | c
      ·exact hno j c
      ·have:j=x:=by omega
       subst this;exact hne
     ·exact .inr ⟨j,h1,by omega,hj⟩
    rw [Array.getElem?_eq_getElem hlt]
    dsimp only
    by_cases hh:(es[x].hash == h)=true
    ·rw [Mw hh]
     refine Mn (wpAny_dictEpoch ho hd (Mn (f.eq x hlt prog w _ _ (Mn (wpAny_dictEpoch ho hd ?_)))))
     show wpAny _ _ (if (ep != ep)=true then _ else _) _ E _
     rw [Ms (by simp)]
     cases hm:m x with
     | true =>
      rcases hHx with ⟨rfl,_⟩ | ⟨j,_,hjx,hj⟩
      ·first | rw [Mw rfl] | skip
       simp only [Option.isSome_none,Mt,if_false]
       first | refine Mn (Mr ?_) | skip
       refine Mn (wpAny_rule ?_)
       split
       ·exact Mr (Mr (hsome x hlt hm))
       ·exact Mr ⟨rfl,x + 1,some x,rfl,hrest',hlt,.inr ⟨x,rfl,Nat.lt_succ_self x,hm⟩⟩
      ·exact absurd (f.mu j x (by omega) hlt hj hm) (by omega)
     | false =>
      simp only [Mt,if_false]
      refine Mn (wpAny_rule ?_)
      first | rw [Ms (by simp)] | skip
      first
       | exact Mr ⟨rfl,x + 1,hit,rfl,hrest',hlt,hstay hm⟩
       | exact Mn (Mr (Mr ⟨rfl,x + 1,hit,rfl,hrest',hlt,hstay hm⟩))
    ·rw [Ms hh]
     refine Mr ⟨rfl,x + 1,hit,rfl,hrest',hlt,hstay ?_⟩
     cases hm:m x with
     | false=>rfl
     | true=>exact absurd (beq_iff_eq.mpr (f.mh x hlt hm)) hh
   ·rintro b s' ⟨rfl,i,hit,rfl,hr,hi,hH⟩
    rcases hH with ⟨rfl,hno⟩ | ⟨j,rfl,hji,hj⟩
    ·refine Mr (hnone fun j hj=>?_)
     rcases Nf j i with c | c
     ·exact hno j c
     ·have:=List.filter_eq_nil_iff.mp hr.symm j (List.mem_range'_1.mpr ⟨c,by omega⟩)
      cases hmj:m j with
      | false=>rfl
      | true=>rw [hask j hj hmj] at this;exact absurd rfl this
    ·exact Mr (hsome j (by omega) hj))
 rcases ns with ⟨ki,kt,rfl⟩ | ⟨ka,rfl⟩ | rfl
 ·exact wpAny_ite_split (fun _=>plain) fun _=>h1
 ·exact wpAny_ite_split (fun _=>plain) fun _=>wpAny_ite_split (fun z=>absurd z hany) fun _=>h1
 ·exact wpAny_ite_split (fun _=>plain) fun _=>h1
theorem bJ.typeIs {d:Addr} {es:Array DictEntry} {ep:Nat} (x:bJ s.heap d es ep):s.TypeIs (.ref d) "dict":=let ⟨o,ho,hc,_⟩:=x;⟨o,ho,hc.1⟩
theorem bJ.new (h:Heap):bJ (h.push { cls:=.type "dict",data:=.dict #[] }) h.objs.size #[] 0:=⟨_,MM _ rfl,⟨rfl,rfl,rfl⟩,rfl⟩
theorem wN {d:Addr} {es:Array DictEntry} {ep:Nat} {key:Value} {h:Int} {n:Nat} {m:Nat→Bool} {Q:Option Value→Shared→Prop} (hh:h9 prog w A s key h n) (f:lP prog w A { s with toks:=s.toks + n } es key h m) (x:bJ s.heap d es ep)
  (hnone:(∀j,j < es.size→m j=false)→Q none { s with toks:=s.toks + n }) (hsome:∀j (hj:j < es.size),m j=true→Q (some es[j].val) { s with toks:=s.toks + n }) :
  wpAny (model prog w) A (dictGet d key) Q E s:=by
 obtain⟨o,ho,_,hd⟩:=x
 unfold dictGet
 try with_reducible refine wpAny_holding ?_
 refine Mn (hh _ _ (Mn (tY (s:={ s with toks:=s.toks + n }) f ho hd ?_ ?_)))
 ·intro hno
  exact Mr (hnone hno)
 ·intro j hj hm
  refine Mn (wpAny_dictEntries (s:={ s with toks:=s.toks + n }) ho hd ?_)
  rw [Array.getElem?_eq_getElem hj]
  exact Mr (hsome j hj hm)
theorem xu {d:Addr} {es:Array DictEntry} {ep:Nat} {key v:Value} {h:Int} {n:Nat} {m:Nat→Bool} {Q:Unit→Shared→Prop} (hh:h9 prog w A s key h n) (f:lP prog w A { s with toks:=s.toks + n } es key h m) (x:bJ s.heap d es ep) (hz:es.size≤sizeLine)
  (hnone:(∀j,j < es.size→m j=false)→∀h',bJ h' d (es.push ⟨h,key,v⟩) (ep + 1)→Heap.SameBut d s.heap h'→Q () { s with heap:=h',toks:=s.toks + n })
  (hsome:∀j (hj:j < es.size),m j=true→∀h',bJ h' d (es.modify j fun e=>{ e with val:=v }) ep→Heap.SameBut d s.heap h'→Q () { s with heap:=h',toks:=s.toks + n }) :
  wpAny (model prog w) A (dictSet d key v) Q E s:=by
 obtain⟨o,ho,hc,hd⟩:=x
 unfold dictSet
 try with_reducible refine wpAny_holding ?_
 refine Mn (hh _ _ ?_)
 unfold dictSetHashed
 try with_reducible refine wpAny_holding ?_
 refine Mn (tY (s:={ s with toks:=s.toks + n }) f ho hd ?_ ?_)
 ·intro hno
  exact Mn (wpAny_rule (wpAny_updateDictKeys (hz:=hz) (s:={ s with toks:=s.toks + n }) ho hd (hnone hno _ ⟨_,Heap.get?_update_self _ ho (Obj.isFreed_of_dict (Obj.data_mapDictKeys hd _)),hc.mapDictKeys _,Obj.data_mapDictKeys hd _⟩ (Heap.SameBut.update ..))))
 ·intro j hj hm
  exact Mn (wpAny_rule (Mn (wpAny_updateDict (s:={ s with toks:=s.toks + n }) ho hd (wpAny_point (hsome j hj hm _ ⟨_,Heap.get?_update_self _ ho (Obj.isFreed_of_dict (Obj.data_mapDict hd _)),hc.mapDict _,Obj.data_mapDict hd _⟩ (Heap.SameBut.update ..))))))
theorem v8 {d:Addr} {es:Array DictEntry} {ep:Nat} {key:Value} {h:Int} {n j:Nat} {m:Nat→Bool} {Q:Value→Shared→Prop} (hh:h9 prog w A.in1 s key h n) (f:lP prog w A.in1 { s with toks:=s.toks + n } es key h m) (x:bJ s.heap d es ep)
  (hj:j < es.size) (hm:m j=true) (hq:Q es[j].val { s with toks:=s.toks + n }):wpAny (model prog w) A (getItem (.ref d) key) Q E s:=by
 unfold getItem
 try with_reducible refine wpAny_holding ?_
 refine Mn (wpAny_sequenceKey x.typeIs (by decide) ?_)
 refine Mn (wpAny_callSpecial?_slot (name:=Str.ofString "__getitem__") x.typeIs slot_dict_getitem
  (wpAny_call_entry slot_dict_getitem x.typeIs entry_dict_getitem ?_ (args_dict_getitem _ _)))
 show wpAny _ _ (dictGet d key >>= _) _ _ s
 refine Mn (wN hh f x (fun hno=>by rw [hno j hj] at hm;cases hm) fun i hi hmi=>?_)
 have:=f.mu i j hi hj hmi hm
 subst this
 exact Mr ⟨_,rfl,Mr hq⟩
theorem xB {d:Addr} {es:Array DictEntry} {ep:Nat} {key v:Value} {h:Int} {n:Nat} {m:Nat→Bool} {Q:Unit→Shared→Prop} (hh:h9 prog w A.in1 s key h n) (f:lP prog w A.in1 { s with toks:=s.toks + n } es key h m) (x:bJ s.heap d es ep) (hz:es.size≤sizeLine)
  (hnone:(∀j,j < es.size→m j=false)→∀h',bJ h' d (es.push ⟨h,key,v⟩) (ep + 1)→Heap.SameBut d s.heap h'→Q () { s with heap:=h',toks:=s.toks + n })
  (hsome:∀j (hj:j < es.size),m j=true→∀h',bJ h' d (es.modify j fun e=>{ e with val:=v }) ep→Heap.SameBut d s.heap h'→Q () { s with heap:=h',toks:=s.toks + n }) :
  wpAny (model prog w) A (setItem (.ref d) key v) Q E s:=by
 unfold setItem
 try with_reducible refine wpAny_holding ?_
 refine Mn (wpAny_sequenceKey x.typeIs (by decide) ?_)
 refine Mn (wpAny_callSpecial?_slot (name:=Str.ofString "__setitem__") x.typeIs slot_dict_setitem
  (wpAny_call_entry slot_dict_setitem x.typeIs entry_dict_setitem ?_ (args_dict_setitem _ _ _)))
 show wpAny _ _ (Builtin.Dict.notOrdered "__setitem__" ⟨[.ref d,key,v],[]⟩ >>= _) _ _ s
 refine Mn (wpAny_notOrdered_dict x.typeIs ?_)
 show wpAny _ _ (dictSet d key v >>= _) _ _ s
 exact Mn (xu hh f x hz (fun hno h' a b=>Mr ⟨.none,rfl,Mr (hnone hno h' a b)⟩) (fun j hj hm h' a b=>Mr ⟨.none,rfl,Mr (hsome j hj hm h' a b)⟩))
theorem uh {d:Addr} {es:Array DictEntry} {ep:Nat} {key:Value} {h:Int} {n:Nat} {m:Nat→Bool} {Q:Bool→Shared→Prop} (hh:h9 prog w A.in1 s key h n) (f:lP prog w A.in1 { s with toks:=s.toks + n } es key h m) (x:bJ s.heap d es ep) (hs:(d == sysModules)=false)
  (hnone:(∀j,j < es.size→m j=false)→Q false { s with toks:=s.toks + n }) (hsome:∀j (hj:j < es.size),m j=true→Q true { s with toks:=s.toks + n }):wpAny (model prog w) A (contains (.ref d) key) Q E s:=by
 unfold contains
 try with_reducible refine wpAny_holding ?_
 refine Mn (wpAny_specialOf x.typeIs slot_dict_contains.lookup ?_)
 show wpAny _ _ (if (some (Value.builtin "dict.__contains__") == some Value.none)=true then _ else _) _ E s
 rw [Ms (by rw [beq_builtin_none];exact Bool.false_ne_true)]
 refine Mn (wpAny_callSpecialUnlessNone?_slot (name:=Str.ofString "__contains__") x.typeIs slot_dict_contains
  (wpAny_call_entry slot_dict_contains x.typeIs entry_dict_contains ?_ (args_dict_contains _ _)))
 show wpAny _ _ (dictGet d key >>= _) _ _ s
 refine Mn (wN hh f x (fun hno=>?_) fun i hi hmi=>?_)
 ·show wpAny _ _ (Builtin.Dict.pendingKey? d key >>= _) _ _ _
  exact Mn (wpAny_pendingKey_other hs (Mr ⟨_,rfl,wpAny_truthy_bool (hnone hno)⟩))
 ·show wpAny _ _ (ret (.bool true)) _ _ _
  exact Mr ⟨_,rfl,wpAny_truthy_bool (hsome i hi hmi)⟩
end
end L2.L3
namespace L2.L3
open PySem PySem.Spec PyProof.Rows
mutual
def a7:D→Bool
 | .int _=>true
 | .non=>true
 | .tup ds=>jx ds
 | _=>false
def jx:List D→Bool
 | []=>true
 | d :: ds=>a7 d && jx ds
end
mutual
def Ef:D→Nat
 | .int _=>1
 | .non=>1
 | .tup ds=>ug ds + 1
 | _=>0
def ug:List D→Nat
 | []=>0
 | d :: ds=>Ef d + ug ds
end
theorem nW (d:D):∀ds:List D,rn (ds ++ [d])=rn ds ++ [BI d]
 | []=>rfl
 | x :: ds=>by show BI x :: rn (ds ++ [d])=_;rw [nW d ds];rfl
theorem nK (d:D):∀ds:List D,ug (ds ++ [d])=ug ds + Ef d
 | []=>by simp [ug]
 | x :: ds=>by show Ef x + ug (ds ++ [d])=_;rw [nK d ds];simp only [ug];omega
mutual
theorem c6:∀(a b:D),a7 a=true→a6 a b=true→a7 b=true→a=b
 | .int i,b,h,e,k=>by cases b <;> simp only [a6,a7,beq_iff_eq,Mt] at e k;rw [e]
 | .tup ds,b,h,e,k=>by
  cases b <;> simp only [a6,a7,Mt] at e k
  rw [vR _ _ (by simpa only [a7] using h) e k]
 | .non,b,h,e,k=>by cases b <;> simp only [a6,Mt] at e;rfl
 | .bl _,b,h,e,k=>by simp only [a7,Mt] at h
 | .str _,b,h,e,k=>by simp only [a7,Mt] at h
 | .lst _,b,h,e,k=>by simp only [a7,Mt] at h
 | .dct _ _,b,h,e,k=>by simp only [a7,Mt] at h
 | .ty _,b,h,e,k=>by simp only [a7,Mt] at h
 | .exc _,b,h,e,k=>by simp only [a7,Mt] at h
 | .cls _,b,h,e,k=>by simp only [a7,Mt] at h
 | .obj _,b,h,e,k=>by simp only [a7,Mt] at h
theorem vR:∀(a b:List D),jx a=true→dm a b=true→jx b=true→a=b
 | [],b,h,e,k=>by cases b <;> simp only [dm,Mt] at e;rfl
 | x :: a,b,h,e,k=>by
  cases b with
  | nil=>simp only [dm,Mt] at e
  | cons y b =>
   simp only [dm,jx,Bool.and_eq_true] at e h k
   rw [c6 x y h.1 e.1 k.1,vR a b h.2 e.2 k.2]
end
mutual
theorem gr:∀(a:D),a7 a=true→a6 a a=true
 | .int i,h=>by simp only [a6,beq_self_eq_true]
 | .tup ds,h=>by simp only [a6];exact qf ds (by simpa only [a7] using h)
 | .non,h=>by simp only [a6]
 | .bl _,h=>by simp only [a7,Mt] at h
 | .str _,h=>by simp only [a7,Mt] at h
 | .lst _,h=>by simp only [a7,Mt] at h
 | .dct _ _,h=>by simp only [a7,Mt] at h
 | .ty _,h=>by simp only [a7,Mt] at h
 | .exc _,h=>by simp only [a7,Mt] at h
 | .cls _,h=>by simp only [a7,Mt] at h
 | .obj _,h=>by simp only [a7,Mt] at h
theorem qf:∀(a:List D),jx a=true→dm a a=true
 | [],h=>rfl
 | x :: a,h=>by
  simp only [jx,Bool.and_eq_true] at h
  simp only [dm,Bool.and_eq_true]
  exact⟨gr x h.1,qf a h.2⟩
end
section
variable {X:Cx} {pins:List (Addr×Obj)} {σ:St} {H F:Hp}
theorem C5 {s:Shared} {a:Addr} {items:List Value} {A:Around} {ds:List D} {vs:List V} (hu:A.units < cLine) (hT:IsTup s.heap a items.toArray) (rv:Vals vs items) (dl:aq X.K F ds vs)
  (rec:∀(d:D) (v:V) (u:Value) (n:Nat),d∈ds→Den X.K F d v→RelV v u→h9 X.prog X.w A.in1 { s with toks:=s.toks + n } u (BI d) (Ef d)) :
  h9 X.prog X.w A s (.ref a) (reduceHash (Builtin.Tuple.tupleHashOf (rn ds))) (ug ds + 1):=by
 intro E Q h
 obtain⟨o,ho,hc,n,hd⟩:=hT
 have hT:s.TypeIs (.ref a) "tuple":=⟨o,ho,hc⟩
 unfold PySem.pyHash
 first | unfold pyHashByItsType | skip
 first | refine Mn (wpAny_cRoomFor_or (.inr hu) ?_) | skip
 refine Mn (wpAny_specialOf hT PySem.F.slot_tuple_hash.lookup ?_)
 show wpAny _ _ (if (some (Value.builtin "tuple.__hash__") == some Value.none)=true then _ else _) Q E s
 rw [Ms (by rw [beq_builtin_none];exact Bool.false_ne_true)]
 refine Mn (wpAny_specialOf hT PySem.F.slot_tuple_hash.lookup ?_)
 show wpAny _ _ (callSpecialIfBoundUnlessNone? (.ref a) "__hash__" _ >>= _) Q E s
 refine Mn (wpAny_callSpecialIfBoundUnlessNone?_slot hT PySem.F.slot_tuple_hash (wpAny_call_entry PySem.F.slot_tuple_hash hT PySem.F.entry_tuple_hash ?_ (PySem.F.args_tuple_hash_1 _)))
 show wpAny _ _ (Builtin.Tuple.tupleItemsOf (.ref a) >>= _) _ _ s
 refine Mn (wpAny_tupleItemsOf ho hd ?_)
 refine Mn ?_
 rw [← Array.forIn_toList]
 refine wpAny_forIn_list _
  (fun rest (b:Array Int) s'=>∃done left vl,ds=done ++ left∧aq X.K F left vl∧Vals vl rest∧b.toList=rn done∧s'={ s with toks:=s.toks + ug done })
  _ ?_ ?_ _ _ ⟨[],ds,vs,rfl,dl,by simpa using rv,rfl,rfl⟩
 ·rintro x rest b s' ⟨done,left,vl,rfl,hl,hv,hb,rfl⟩
  cases hv with
  | @cons v _ vl' _ r1 hv' =>
   cases left with
   | nil=>simp only [aq] at hl;cases hl
   | cons d left' =>
    simp only [aq] at hl
    obtain⟨v',r',e,hd',hl'⟩:=hl
    cases e
    refine Mn (rec d v x _ (by simp) hd' r1 _ _ ?_)
    first
     | exact Mr ⟨done ++ [d],left',vl',by simp,hl',hv',by simp [hb,nW],by simp [nK,Nat.add_assoc]⟩
     | exact Mn (Mr (Mr ⟨done ++ [d],left',vl',by simp,hl',hv',by simp [hb,nW],by simp [nK,Nat.add_assoc]⟩))
 ·rintro b s' ⟨done,left,vl,rfl,hl,hv,hb,rfl⟩
  cases hv
  cases left with
  | cons d left'=>simp only [aq] at hl;obtain⟨_,_,e,_⟩:=hl;cases e
  | nil =>
  rw [MV] at h
  show wpAny _ _ (retInt (Builtin.Tuple.tupleHashOf b.toList)) _ _ _
  rw [hb]
  refine wpAny_ret_mkInt ?_
  show wpAny _ _ (if (decide (-(2:Int) ^ 63≤Builtin.Tuple.tupleHashOf (rn done)) && decide (Builtin.Tuple.tupleHashOf (rn done) < 2 ^ 63))=true then _ else _) Q E _
  unfold reduceHash at h
  by_cases hr:(decide (-(2:Int) ^ 63≤Builtin.Tuple.tupleHashOf (rn done)) && decide (Builtin.Tuple.tupleHashOf (rn done) < 2 ^ 63))=true
  ·rw [Mw hr]
   rw [Mw hr] at h
   exact Mr (by simpa [Nat.add_assoc] using h)
  ·rw [Ms hr]
   rw [Ms hr] at h
   exact Mn (wpAny_rule (Mr (by simpa [Nat.add_assoc] using h)))
theorem De {s:Shared} {A:Around} (hu:A.units < cLine):h9 X.prog X.w A s .none 4238894112 1:=by
 intro E Q h
 have hT:s.TypeIs .none "NoneType":=rfl
 unfold PySem.pyHash
 first | unfold pyHashByItsType | skip
 first | refine Mn (wpAny_cRoomFor_or (.inr hu) ?_) | skip
 refine Mn (wpAny_specialOf hT PySem.F.slot_NoneType_hash.lookup ?_)
 show wpAny _ _ (if (some (Value.builtin "NoneType.__hash__") == some Value.none)=true then _ else _) Q E s
 rw [Ms (by rw [beq_builtin_none];exact Bool.false_ne_true)]
 refine Mn (wpAny_specialOf hT PySem.F.slot_NoneType_hash.lookup ?_)
 show wpAny _ _ (callSpecialIfBoundUnlessNone? .none "__hash__" _ >>= _) Q E s
 refine Mn (wpAny_callSpecialIfBoundUnlessNone?_slot hT PySem.F.slot_NoneType_hash (wpAny_call_entry PySem.F.slot_NoneType_hash hT PySem.F.entry_NoneType_hash ?_ (PySem.F.args_NoneType_hash_1 _)))
 show wpAny _ _ (retInt 4238894112) _ _ _
 refine wpAny_ret_mkInt ?_
 exact Mr h
mutual
theorem jO (fh:ar F H):∀(d:D) (s:Shared) (A:Around) (v:V) (u:Value),Inv X pins σ H s→a7 d=true→A.units + dep d < cLine→Den X.K F d v→RelV v u→h9 X.prog X.w A s u (BI d) (Ef d)
 | .int i,s,A,v,u,I,hk,hu,hd,r=>by
  simp only [Den] at hd;subst hd
  obtain⟨t,rfl⟩:=r
  intro E Q h
  exact (cK X.prog X.w).pyHash (k:=.inl i) (tE i t) h
 | .tup ds,s,A,v,u,I,hk,hu,hd,r=>by
  simp only [Den] at hd
  obtain⟨a,vs,rfl,q,dl⟩:=hd
  cases r
  obtain⟨its,rv,ht,hz⟩:=I.tuple (ar.cm fh q)
  simp only [dep] at hu
  exact C5 (by omega) ht rv dl fun d v u n hm hd' r'=>tR fh ds d { s with toks:=s.toks + n } A.in1 v u (I.tok _) (by simpa only [a7] using hk) (by rw [units_in1];omega) hm hd' r'
 | .non,s,A,v,u,I,hk,hu,hd,r=>by
  simp only [Den] at hd;subst hd
  cases r
  exact De (by simp only [dep] at hu;omega)
 | .bl _,_,_,_,_,_,hk,_,_,_=>by simp only [a7,Mt] at hk
 | .str _,_,_,_,_,_,hk,_,_,_=>by simp only [a7,Mt] at hk
 | .lst _,_,_,_,_,_,hk,_,_,_=>by simp only [a7,Mt] at hk
 | .dct _ _,_,_,_,_,_,hk,_,_,_=>by simp only [a7,Mt] at hk
 | .ty _,_,_,_,_,_,hk,_,_,_=>by simp only [a7,Mt] at hk
 | .exc _,_,_,_,_,_,hk,_,_,_=>by simp only [a7,Mt] at hk
 | .cls _,_,_,_,_,_,hk,_,_,_=>by simp only [a7,Mt] at hk
 | .obj _,_,_,_,_,_,hk,_,_,_=>by simp only [a7,Mt] at hk
theorem tR (fh:ar F H):∀(ds:List D) (d:D) (s:Shared) (A:Around) (v:V) (u:Value),Inv X pins σ H s→jx ds=true→A.units + b9 ds < cLine→d∈ds→Den X.K F d v→RelV v u→h9 X.prog X.w A s u (BI d) (Ef d)
 | [],d,s,A,v,u,I,hk,hu,hm,hd,r=>by cases hm
 | x :: ds,d,s,A,v,u,I,hk,hu,hm,hd,r=>by
  simp only [jx,Bool.and_eq_true] at hk
  simp only [b9] at hu
  by_cases c:d∈ds
  ·exact tR fh ds d s A v u I hk.2 (by omega) c hd r
  ·have:d=x:=(ML.mp hm).elim id (fun e=>absurd e c)
   rw [this] at hd ⊢
   exact jO fh x s A v u I hk.1 (by omega) hd r
end
def qE (prog:Program) (w:World) (A:Around) (s:Shared) (n:Nat) (v:Value):Prop:=∀(E:Value→Shared→Prop) (Q:Bool→Shared→Prop),Q true s→wpAny (model prog w) A (eqIsQuiet n v) Q E s
theorem Bk {s:Shared} {a:Addr} {items:List Value} {A:Around} {n:Nat} (hT:IsTup s.heap a items.toArray)
  (rec:∀u∈items,qE X.prog X.w A s n u):qE X.prog X.w A s (n + 1) (.ref a):=by
 intro E Q h
 obtain⟨o,ho,hc,k,hd⟩:=hT
 have hT:s.TypeIs (.ref a) "tuple":=⟨o,ho,hc⟩
 unfold eqIsQuiet
 refine Mn (wpAny_specialOf hT PySem.F.slot_tuple_eq.lookup ?_)
 show wpAny _ _ (isInstance (.ref a) (.type "tuple") >>= _) _ _ s
 refine Mn (wpAny_isInstance hT isSubtype_tuple_tuple ?_)
 simp only [Bool.not_true,Mt,if_false]
 refine Mn (wpAny_seqItems ho hd ?_)
 refine Mn ?_
 show wpAny _ _ (forIn items.toArray _ _) _ _ s
 rw [← Array.forIn_toList]
 refine wpAny_forIn_list _ (fun rest r s'=>r.1=none∧s'=s∧∀v∈rest,qE X.prog X.w A s n v) _ ?_ ?_ _ _ ⟨rfl,rfl,by simpa using rec⟩
 ·rintro v rest r s' ⟨hr,rfl,hall⟩
  refine Mn (hall v MN _ _ ?_)
  simp only [Bool.not_true,Mt,if_false]
  exact Mr ⟨rfl,rfl,fun u hu'=>hall u (ME _ hu')⟩
 ·rintro⟨r1,r2⟩ s' ⟨hr,rfl,_⟩
  simp only at hr
  subst hr
  exact Mr h
mutual
theorem nO (fh:ar F H):∀(d:D) (s:Shared) (A:Around) (n:Nat) (v:V) (u:Value),Inv X pins σ H s→a7 d=true→dep d≤n→Den X.K F d v→RelV v u→qE X.prog X.w A s n u
 | .int i,s,A,n,v,u,I,hk,hu,hd,r=>by
  simp only [Den] at hd;subst hd
  obtain⟨t,rfl⟩:=r
  intro E Q h
  rw [eqIsQuiet_byValue n (v:=.int i t) rfl]
  exact Mr h
 | .tup ds,s,A,n,v,u,I,hk,hu,hd,r=>by
  simp only [Den] at hd
  obtain⟨a,vs,rfl,q,dl⟩:=hd
  cases r
  obtain⟨its,rv,ht,hz⟩:=I.tuple (ar.cm fh q)
  simp only [dep] at hu
  cases n with
  | zero=>omega
  | succ n=>exact Bk ht (qP fh ds s A n vs its I (by simpa only [a7] using hk) (by omega) dl rv)
 | .non,s,A,n,v,u,I,hk,hu,hd,r=>by
  simp only [Den] at hd;subst hd
  cases r
  intro E Q h
  rw [eqIsQuiet_byValue n (v:=.none) rfl]
  exact Mr h
 | .bl _,_,_,_,_,_,_,hk,_,_,_=>by simp only [a7,Mt] at hk
 | .str _,_,_,_,_,_,_,hk,_,_,_=>by simp only [a7,Mt] at hk
 | .lst _,_,_,_,_,_,_,hk,_,_,_=>by simp only [a7,Mt] at hk
 | .dct _ _,_,_,_,_,_,_,hk,_,_,_=>by simp only [a7,Mt] at hk
 | .ty _,_,_,_,_,_,_,hk,_,_,_=>by simp only [a7,Mt] at hk
 | .exc _,_,_,_,_,_,_,hk,_,_,_=>by simp only [a7,Mt] at hk
 | .cls _,_,_,_,_,_,_,hk,_,_,_=>by simp only [a7,Mt] at hk
 | .obj _,_,_,_,_,_,_,hk,_,_,_=>by simp only [a7,Mt] at hk
theorem qP (fh:ar F H):∀(ds:List D) (s:Shared) (A:Around) (n:Nat) (vs:List V) (us:List Value),Inv X pins σ H s→jx ds=true→b9 ds≤n→aq X.K F ds vs→Vals vs us→∀u∈us,qE X.prog X.w A s n u
 | [],s,A,n,vs,us,I,hk,hu,dl,rv,u,hm=>by
  simp only [aq] at dl;subst dl
  cases rv;cases hm
 | d :: ds,s,A,n,vs,us,I,hk,hu,dl,rv,u,hm=>by
  simp only [aq] at dl
  obtain⟨v,r,rfl,a,b⟩:=dl
  simp only [jx,Bool.and_eq_true] at hk
  simp only [b9] at hu
  cases rv with
  | @cons _ x _ xs r1 rv' =>
   by_cases c:u∈xs
   ·exact qP fh ds s A n r xs I hk.2 (by omega) b rv' u c
   ·have:u=x:=(ML.mp hm).elim id (fun e=>absurd e c)
    rw [this]
    exact nO fh d s A n v x I hk.1 (by omega) a r1
end
end
end L2.L3
namespace L2.L3
open PySem PySem.Spec PyProof.Rows
structure bZ (kvs:List (D×D)):Prop where
 key:∀kv∈kvs,a7 kv.1=true∧dep kv.1≤8
 dif:∀(i j:Nat) (x y:D×D),kvs[i]?=some x→kvs[j]?=some y→x.1=y.1→i=j
def sq (kvs:List (D×D)) (d:D) (j:Nat):Bool:=match kvs[j]? with
 | some kv=>a6 kv.1 d
 | none=>false
section
variable {X:Cx} {pins:List (Addr×Obj)} {σ:St} {H F:Hp} {s:Shared} {kvs:List (D×D)} {us vs:List V} {p:Addr} {A:Around} {d:D} {v:V} {u:Value}
theorem iu (I:Inv X pins σ H s) {ep:Nat} {rows:List (Int×V×V)} (e:H p=some (cD p ep rows)):rows.length≤sizeLine∧(p == sysModules)=false∧∃es,bJ s.heap p es ep∧Paired yM rows es.toList:=(I.hok p _ e).1
theorem fN {α β:Type} {R:α→β→Prop}:∀{xs:List α} {ys:List β} {i:Nat} {y:β},Paired R xs ys→ys[i]?=some y→∃x,xs[i]?=some x∧R x y
 | _,_,_,_,.nil,e=>by simp at e
 | _,_,0,_,.cons r _,e=>by simp at e;subst e;exact⟨_,rfl,r⟩
 | _,_,i + 1,y,.cons _ t,e=>by
  obtain⟨x,h1,h2⟩:=fN (i:=i) (y:=y) t (by simpa using e)
  exact⟨x,by simpa using h1,h2⟩
theorem cj (d1:aq X.K F (kvs.map (·.1)) us) (d2:aq X.K F (kvs.map (·.2)) vs):(bz kvs us vs).length=kvs.length:=by
 have l1:=d1.length
 have l2:=d2.length
 simp only [MB] at l1 l2
 unfold bz
 simp only [List.length_zip,MB,← l1,← l2,Nat.min_self]
theorem uz (d1:aq X.K F (kvs.map (·.1)) us) (d2:aq X.K F (kvs.map (·.2)) vs) {es:Array DictEntry} (pr:Paired yM (bz kvs us vs) es.toList) {j:Nat} (hj:j < es.size) :
  ∃kv a b,kvs[j]?=some kv∧us[j]?=some a∧vs[j]?=some b∧Den X.K F kv.1 a∧Den X.K F kv.2 b∧es[j].hash=BI kv.1∧RelV a es[j].key∧RelV b es[j].val:=by
 have l:=cj d1 d2
 have lp:=Paired.length pr
 have hk:j < kvs.length:=by rw [← l,lp];simpa using hj
 obtain⟨row,hr,e1,e2,e3⟩:=fN pr (y:=es[j]) (i:=j) (by simp [hj])
 have g0:kvs[j]?=some kvs[j]:=Mq hk
 obtain⟨a,ha,da⟩:=d1.get (i:=j) (d:=kvs[j].1) (by rw [Mu,g0];rfl)
 obtain⟨b,hb,db⟩:=d2.get (i:=j) (d:=kvs[j].2) (by rw [Mu,g0];rfl)
 have:row=(BI kvs[j].1,a,b):=by
  unfold bz at hr
  rw [List.getElem?_zip_eq_some,List.getElem?_zip_eq_some,Mu,g0] at hr
  obtain⟨h1,h2,h3⟩:=hr
  rw [ha] at h2;rw [hb] at h3
  exact Prod.ext (My h1).symm (Prod.ext (My h2).symm (My h3).symm)
 subst this
 exact⟨_,a,b,g0,ha,hb,da,db,e1,e2,e3⟩
theorem pU (I:Inv X pins σ H s) (fh:ar F H) (ok:bZ kvs) (d1:aq X.K F (kvs.map (·.1)) us) (d2:aq X.K F (kvs.map (·.2)) vs) {es:Array DictEntry} (pr:Paired yM (bz kvs us vs) es.toList)
  (hk:a7 d=true) (hd:dep d≤8) (hu:A.units + 8 < cLine) (dd:Den X.K F d v) (rv:RelV v u):lP X.prog X.w A s es u (BI d) (sq kvs d):=by
 have at_:=fun j hj=>uz d1 d2 pr (j:=j) hj
 have mat:∀j kv,kvs[j]?=some kv→sq kvs d j=a6 kv.1 d:=fun j kv e=>by unfold sq;rw [e]
 have kk:∀(j:Nat) (kv:D×D),kvs[j]?=some kv→a7 kv.1=true∧dep kv.1≤8:=fun j kv e=>ok.key kv (MA e)
 refine⟨fun j hj=>?_,fun j hj hm=>?_,fun i j hi hj h1 h2=>?_,fun j hj he=>?_,?_,fun j hj=>?_,?_⟩
 ·obtain⟨kv,a,b,g0,g1,g2,da,db,e1,e2,e3⟩:=at_ j hj
  rw [mat j kv g0]
  have:=(kk j kv g0).2
  exact p9 I fh kv.1 d A a v _ _ (by omega) (by omega) (by omega) da dd e2 rv
 ·obtain⟨kv,a,b,g0,g1,g2,da,db,e1,e2,e3⟩:=at_ j hj
  rw [mat j kv g0] at hm
  rw [e1,c6 kv.1 d (kk j kv g0).1 hm hk]
 ·obtain⟨kv,_,_,g0,_⟩:=at_ i hi
  obtain⟨kw,_,_,f0,_⟩:=at_ j hj
  rw [mat i kv g0] at h1
  rw [mat j kw f0] at h2
  exact ok.dif i j kv kw g0 f0 (by rw [c6 kv.1 d (kk i kv g0).1 h1 hk,c6 kw.1 d (kk j kw f0).1 h2 hk])
 ·obtain⟨kv,a,b,g0,g1,g2,da,db,e1,e2,e3⟩:=at_ j hj
  rw [he] at e2
  have:=e2.inj rv
  subst this
  have k1:=(kk j kv g0).2
  rw [e1,c6 kv.1 d (kk j kv g0).1 (pJ I fh kv.1 d a (by omega) (by omega) da dd) hk]
 ·exact nO fh d s A 8 v u I hk hd dd rv
 ·obtain⟨kv,a,b,g0,g1,g2,da,db,e1,e2,e3⟩:=at_ j hj
  exact nO fh kv.1 s A 8 a _ I (kk j kv g0).1 (kk j kv g0).2 da e2
 ·cases d with
  | int i=>simp only [Den] at dd;subst dd;obtain⟨t,rfl⟩:=rv;exact .inl ⟨i,t,rfl⟩
  | tup ds=>simp only [Den] at dd;obtain⟨a,_,rfl,_⟩:=dd;cases rv;exact .inr (.inl ⟨a,rfl⟩)
  | non=>simp only [Den] at dd;subst dd;cases rv;exact .inr (.inr rfl)
  | _=>simp only [a7,Mt] at hk
def iC (kvs:List (D×D)) (d:D):Option D:=(kvs.find? fun kv=>a6 kv.1 d).map (·.2)
def putN (kvs:List (D×D)) (d x:D):List (D×D):=if (kvs.any fun kv=>a6 kv.1 d)=true then kvs.map (fun kv=>if a6 kv.1 d=true then (kv.1,x) else kv) else kvs ++ [(d,x)]
theorem E4 (ok:bZ kvs) (hk:a7 d=true) {x:D} (h:iC kvs d=some x):∃(j:Nat) (kv:D×D),kvs[j]?=some kv∧a6 kv.1 d=true∧kv.2=x:=by
 unfold iC at h
 obtain⟨kv,h1,h2⟩:=MZ.mp h
 obtain⟨j,hj⟩:=M0 (List.mem_of_find?_eq_some h1)
 have m:=List.find?_some (p:=fun kv:D×D=>a6 kv.1 d) h1
 exact⟨j,kv,hj,m,h2⟩
theorem Cm (hu:A.units + 9 < cLine) (I:Inv X pins σ H s) (fh:ar F H) (ok:bZ kvs) (d1:aq X.K F (kvs.map (·.1)) us) (d2:aq X.K F (kvs.map (·.2)) vs) {ep:Nat} (e:H p=some (cD p ep (bz kvs us vs)))
  (hk:a7 d=true) (hd:dep d≤8) (dd:Den X.K F d v) (rv:RelV v u) {x:D} (hx:iC kvs d=some x) {E:Value→Shared→Prop} {Q:Value→Shared→Prop}
  (h:∀w' u' s',Inv X pins σ H s'→Den X.K F x w'→RelV w' u'→Q u' s'):wpAny (model X.prog X.w) A (getItem (.ref p) u) Q E s:=by
 obtain⟨hz,hs,es,dh,pr⟩:=iu I e
 obtain⟨j,kv,g0,m0,rfl⟩:=E4 ok hk hx
 have lp:=Paired.length pr
 rw [cj d1 d2] at lp
 have hj:j < es.size:=by have:=(Mo.mp g0).1;simp at lp;omega
 obtain⟨kv',a,b,g0',g1,g2,da,db,e1,e2,e3⟩:=uz d1 d2 pr hj
 rw [g0] at g0';cases g0'
 refine v8 (j:=j) (jO fh d s A.in1 v u I hk (by rw [units_in1];omega) dd rv) (pU (I.tok _) fh ok d1 d2 pr hk hd (by rw [units_in1];omega) dd rv) dh hj (by unfold sq;rw [g0];exact m0) ?_
 exact h b _ _ (I.tok _) db e3
theorem Kp (hu:A.units + 9 < cLine) (I:Inv X pins σ H s) (fh:ar F H) (ok:bZ kvs) (d1:aq X.K F (kvs.map (·.1)) us) (d2:aq X.K F (kvs.map (·.2)) vs) {ep:Nat} (e:H p=some (cD p ep (bz kvs us vs)))
  (hk:a7 d=true) (hd:dep d≤8) (dd:Den X.K F d v) (rv:RelV v u) {E:Value→Shared→Prop} {Q:Bool→Shared→Prop}
  (h:∀s',Inv X pins σ H s'→Q (kvs.any fun kv=>a6 kv.1 d) s'):wpAny (model X.prog X.w) A (contains (.ref p) u) Q E s:=by
 obtain⟨hz,hs,es,dh,pr⟩:=iu I e
 have lp:=Paired.length pr
 rw [cj d1 d2] at lp
 refine uh (jO fh d s A.in1 v u I hk (by rw [units_in1];omega) dd rv) (pU (I.tok _) fh ok d1 d2 pr hk hd (by rw [units_in1];omega) dd rv) dh hs (fun hno=>?_) fun j hj hm=>?_
 ·have:(kvs.any fun kv=>a6 kv.1 d)=false:=by
   rw [List.any_eq_false]
   intro kv hm
   obtain⟨j,hj⟩:=M0 hm
   have:=hno j (by have:=(Mo.mp hj).1;simp at lp;omega)
   unfold sq at this
   rw [hj] at this
   simpa using this
  have q:=h { s with toks:=s.toks + Ef d } (I.tok _)
  rw [this] at q;exact q
 ·have:(kvs.any fun kv=>a6 kv.1 d)=true:=by
   rw [List.any_eq_true]
   unfold sq at hm
   cases g:kvs[j]? with
   | none=>rw [g] at hm;cases hm
   | some kv=>rw [g] at hm;exact⟨kv,MA g,hm⟩
  have q:=h { s with toks:=s.toks + Ef d } (I.tok _)
  rw [this] at q;exact q
end
end L2.L3
namespace L2.L3
open PySem PySem.Spec PyProof.Rows
theorem iN {α β:Type} {R:α→β→Prop}:∀{xs:List α} {ys:List β},xs.length=ys.length→(∀(i:Nat) x y,xs[i]?=some x→ys[i]?=some y→R x y)→Paired R xs ys
 | [],[],_,_=>.nil
 | [],_ :: _,h,_=>by simp at h
 | _ :: _,[],h,_=>by simp at h
 | x :: xs,y :: ys,h,f=>.cons (f 0 x y rfl rfl) (iN (by simpa using h) fun i a b h1 h2=>f (i + 1) a b (by simpa using h1) (by simpa using h2))
theorem eJ {kvs:List (D×D)} {us vs:List V} {i:Nat} {row:Int×V×V} (h:(bz kvs us vs)[i]?=some row):∃kv,kvs[i]?=some kv∧row.1=BI kv.1∧us[i]?=some row.2.1∧vs[i]?=some row.2.2:=by
 unfold bz at h
 rw [List.getElem?_zip_eq_some,List.getElem?_zip_eq_some,Mu] at h
 obtain⟨h1,h2,h3⟩:=h
 obtain⟨kv,a,b⟩:=MZ.mp h1
 exact⟨kv,a,b.symm,h2,h3⟩
theorem zy {kvs:List (D×D)} {d x:D} {j:Nat} {kv:D×D} (ok:bZ kvs) (hk:a7 d=true) (hj:kvs[j]?=some kv) (hm:a6 kv.1 d=true):kvs.map (fun kv=>if a6 kv.1 d=true then (kv.1,x) else kv)=kvs.set j (kv.1,x):=by
 apply List.ext_getElem?
 intro i
 rw [Mu]
 by_cases e:j=i
 ·subst e
  rw [Mv (Mo.mp hj).1,hj]
  simp only [Option.map_some,Mw hm]
 ·rw [Mp e]
  cases g:kvs[i]? with
  | none=>rfl
  | some kw =>
   simp only [Option.map_some]
   rw [Ms]
   intro hw
   exact e (ok.dif j i kv kw hj g (by rw [c6 kv.1 d (ok.key kv (MA hj)).1 hm hk,c6 kw.1 d (ok.key kw (MA g)).1 hw hk]))
theorem oP {kvs:List (D×D)} {j:Nat} {kv:D×D} {x:D} (hj:kvs[j]?=some kv):(kvs.set j (kv.1,x)).map (·.1)=kvs.map (·.1):=by
 apply List.ext_getElem?
 intro i
 rw [Mu,Mu]
 by_cases e:j=i
 ·subst e
  rw [Mv (Mo.mp hj).1,hj];rfl
 ·rw [Mp e]
theorem oO {kvs:List (D×D)} {j:Nat} {y x:D}:(kvs.set j (y,x)).map (·.2)=(kvs.map (·.2)).set j x:=by
 rw [List.map_set]
section
variable {X:Cx} {pins:List (Addr×Obj)} {σ:St} {H F:Hp} {s:Shared} {kvs:List (D×D)} {us vs:List V} {p:Addr} {A:Around} {d x:D} {v w:V} {u r:Value}
theorem Ie (hu:A.units + 9 < cLine) (I:Inv X pins σ H s) (fh:ar F H) (ok:bZ kvs) (d1:aq X.K F (kvs.map (·.1)) us) (d2:aq X.K F (kvs.map (·.2)) vs) {ep:Nat} (e:H p=some (cD p ep (bz kvs us vs)))
  (hk:a7 d=true) (hd:dep d≤8) (dd:Den X.K F d v) (rv:RelV v u) (dx:Den X.K F x w) (rw':RelV w r) (hl:kvs.length < sizeLine) {E:Value→Shared→Prop} {Q:Unit→Shared→Prop}
  (h:∀ep' us' vs' s',aq X.K F ((putN kvs d x).map (·.1)) us'→aq X.K F ((putN kvs d x).map (·.2)) vs'→Inv X pins σ (upd H p (cD p ep' (bz (putN kvs d x) us' vs'))) s'→Q () s'):wpAny (model X.prog X.w) A (setItem (.ref p) u r) Q E s:=by
 obtain⟨hz,hs,es,dh,pr⟩:=iu I e
 have lp:=Paired.length pr
 have l0:=cj d1 d2
 rw [l0] at lp hz
 have lp':kvs.length=es.size:=by simpa using lp
 have l1:=d1.length
 have l2:=d2.length
 simp only [MB] at l1 l2
 have ext:∀(ep':Nat) (rows:List (Int×V×V)) (h':Heap) (es':Array DictEntry),rows.length≤sizeLine→bJ h' p es' ep'→Paired yM rows es'.toList→bO X.prog X.w (upd H p (cD p ep' rows)) h' p (cD p ep' rows):=fun ep' rows h' es' z dh' pr'=>by
  refine⟨⟨z,hs,es',dh',pr'⟩,?_,?_⟩
  ·obtain⟨o,ho,_⟩:=dh';exact⟨o,ho⟩
  ·rintro h1 h2 ⟨z,hs,es,⟨o,ho,c,dd⟩,pr⟩ k
   exact⟨z,hs,es,⟨o,k _ ho,c,dd⟩,pr⟩
 have hash:=jO fh d s A.in1 v u I hk (by rw [units_in1];omega) dd rv
 have find:=pU (I.tok (s.toks + Ef d)) fh ok d1 d2 pr hk hd (A:=A.in1) (by rw [units_in1];omega) dd rv
 refine xB hash find dh (by omega) (fun hno h' dh' sb=>?_) fun j hj hm h' dh' sb=>?_
 ·have any:(kvs.any fun kv=>a6 kv.1 d)=false:=by
   rw [List.any_eq_false]
   intro kv hm
   obtain⟨j,hj⟩:=M0 hm
   have:=hno j (by have:=(Mo.mp hj).1;omega)
   unfold sq at this
   rw [hj] at this
   simpa using this
  have pe:putN kvs d x=kvs ++ [(d,x)]:=by unfold putN;rw [any];rfl
  have q1:aq X.K F ((putN kvs d x).map (·.1)) (us ++ [v]):=by rw [pe,List.map_append];exact d1.append (aO dd aU)
  have q2:aq X.K F ((putN kvs d x).map (·.2)) (vs ++ [w]):=by rw [pe,List.map_append];exact d2.append (aO dx aU)
  refine h _ _ _ _ q1 q2 (kC I (by rw [e];exact True.intro) sb (let ⟨o,ho,_⟩:=dh';⟨o,ho⟩) (ext _ _ h' _ ?_ dh' ?_))
  ·rw [cj q1 q2,pe];simp;omega
  ·refine iN (by rw [cj q1 q2,pe];simp;omega) fun i row en h1 h2=>?_
   obtain⟨kv,k1,k2,k3,k4⟩:=eJ h1
   rw [pe] at k1
   simp only [Array.toList_push] at h2
   by_cases c:i < kvs.length
   ·rw [MJ c] at k1
    rw [MJ (by omega)] at k3 k4
    rw [MJ (by simp;omega)] at h2
    obtain⟨row',g1,g2⟩:=fN pr h2
    obtain⟨kv',f1,f2,f3,f4⟩:=eJ g1
    rw [f1] at k1;cases k1
    rw [f3] at k3
    rw [f4] at k4
    have:row'=row:=Prod.ext (by rw [f2,k2]) (Prod.ext (My k3) (My k4))
    rw [← this];exact g2
   ·have hi:i=kvs.length:=by
     have:=(Mo.mp k1).1
     simp at this;omega
    rw [hi,MH (Mx _),Nat.sub_self] at k1
    rw [show i=us.length by omega,MH (Mx _),Nat.sub_self] at k3
    rw [show i=vs.length by omega,MH (Mx _),Nat.sub_self] at k4
    rw [show i=es.toList.length by simp;omega,MH (Mx _),Nat.sub_self] at h2
    cases k1;cases h2
    have a3:v=row.2.1:=My k3
    have a4:w=row.2.2:=My k4
    exact⟨k2.symm,by rw [← a3];exact rv,by rw [← a4];exact rw'⟩
 ·obtain⟨kv,a,b,g0,g1,g2,da,db,e1,e2,e3⟩:=uz d1 d2 pr hj
  unfold sq at hm
  rw [g0] at hm
  have any:(kvs.any fun kv=>a6 kv.1 d)=true:=List.any_eq_true.mpr ⟨kv,MA g0,hm⟩
  have pe:putN kvs d x=kvs.set j (kv.1,x):=by unfold putN;rw [any,Mw rfl];exact zy ok hk g0 hm
  have q1:aq X.K F ((putN kvs d x).map (·.1)) us:=by rw [pe,oP g0];exact d1
  have q2:aq X.K F ((putN kvs d x).map (·.2)) (vs.set j w):=by rw [pe,oO];exact aq.set dx j d2
  refine h _ _ _ _ q1 q2 (kC I (by rw [e];exact True.intro) sb (let ⟨o,ho,_⟩:=dh';⟨o,ho⟩) (ext _ _ h' _ ?_ dh' ?_))
  ·rw [cj q1 q2,pe];simp;omega
  ·refine iN (by rw [cj q1 q2,pe];simp;omega) fun i row en h1 h2=>?_
   obtain⟨kw,k1,k2,k3,k4⟩:=eJ h1
   rw [pe] at k1
   rw [Array.getElem?_toList,Array.getElem?_modify] at h2
   by_cases c:j=i
   ·subst c
    rw [Mw rfl,Array.getElem?_eq_getElem hj] at h2
    rw [Mv (by omega)] at k1 k4
    cases k1;cases h2
    rw [g1] at k3
    have a3:a=row.2.1:=My k3
    have a4:w=row.2.2:=My k4
    exact⟨by rw [k2];exact e1,by rw [← a3];exact e2,by rw [← a4];exact rw'⟩
   ·rw [Ms c,← Array.getElem?_toList] at h2
    rw [Mp c] at k1 k4
    obtain⟨row',f0,f1⟩:=fN pr h2
    obtain⟨kv',t1,t2,t3,t4⟩:=eJ f0
    rw [t1] at k1;cases k1
    rw [t3] at k3
    rw [t4] at k4
    have:row'=row:=Prod.ext (by rw [t2,k2]) (Prod.ext (My k3) (My k4))
    rw [← this];exact f1
end
end L2.L3
namespace L2.L3
open PySem PySem.Spec PyProof.Rows
section
variable {K:PySem.W.Frag} {B:Base} {F H F' H':Hp} {σ:St} {e:En}
theorem aZ {e:En} {i j:Nat} {l:Lo} {xs:List D} (hl:∀z,l≠.own z) (q:(e.set i (some l))[j]?=some (some (.own xs))):i≠j:=fun z=>by
 subst z
 by_cases w:i < e.length
 ·rw [Mv w] at q;cases q;exact hl _ rfl
 ·rw [MF (by simpa using w)] at q;cases q
theorem mL {e:En} {i j:Nat} {l:Lo} {x:D} (hl:∀z,l≠.d z) (q:(e.set i (some l))[j]?=some (some (.d x))):i≠j:=fun z=>by
 subst z
 by_cases w:i < e.length
 ·rw [Mv w] at q;cases q;exact hl _ rfl
 ·rw [MF (by simpa using w)] at q;cases q
theorem Rep.Hg (r:Rep K B F H σ e) {i:Nat} {p:Addr} (h:H p=none) (hl:i < σ.length) :
  Rep K B F (upd H p (cD p 0 [])) (σ.set i (some (.ref p))) (e.set i (some (.dic []))):=by
 have r1:=r.loose (o:=cD p 0 []) h
 have hb:B.H p=none:=r.h0.free h
 have old:∀(j:Nat) (ys:List (D×D)),e[j]?=some (some (.dic ys))→σ[j]?≠some (some (.ref p)):=fun j ys q z=>by
  obtain⟨q1,_,_,_,h1,h2,_⟩:=r.mv j ys q
  rw [z] at h1;cases h1;rw [h] at h2;cases h2
 refine⟨r1.f0,r1.fh,r1.h0,r1.nf,fun j y q=>?_,fun j y q=>?_,fun j k ys zs q hjk q1 q2 q3 q4=>?_,fun j y q=>?_,fun j k ys zs q hjk q1 q2 q3 q4=>?_⟩
 ·have z:=mL (fun _ w=>by cases w) q
  rw [Mp z] at q ⊢;exact r1.dv j y q
 ·have z:=aZ (fun _ w=>by cases w) q
  rw [Mp z] at q ⊢;exact r1.ov j y q
 ·have z1:=aZ (fun _ w=>by cases w) q1
  have z2:=aZ (fun _ w=>by cases w) q2
  rw [Mp z1] at q1 q3
  rw [Mp z2] at q2 q4
  exact r.ne j k ys zs q hjk q1 q2 q3 q4
 ·by_cases z:i=j
  ·subst z
   by_cases w:i < e.length
   ·rw [Mv w] at q
    cases q
    exact⟨p,0,[],[],Mv hl,aG,r.oE h,hb,aU,aU⟩
   ·rw [MF (by simpa using w)] at q;cases q
  ·rw [Mp z] at q ⊢;exact r1.mv j y q
 ·by_cases z1:i=j
  ·subst z1
   rw [Mp hjk] at q2 q4
   rw [Mv hl] at q3
   cases q3
   exact old k zs q2 q4
  ·rw [Mp z1] at q1 q3
   by_cases z2:i=k
   ·subst z2
    rw [Mv hl] at q4
    cases q4
    exact old j ys q1 q3
   ·rw [Mp z2] at q2 q4
    exact r.nm j k ys zs q hjk q1 q2 q3 q4
theorem Rep.AM (r:Rep K B F H σ e) {i:Nat} {p:Addr} (ep:Nat) {us vs:List V} {xs ys:List (D×D)} (h:e[i]?=some (some (.dic xs))) (hp:σ[i]?=some (some (.ref p))) (hd:aq K F (ys.map (·.1)) us) (hd':aq K F (ys.map (·.2)) vs) :
  Rep K B F (upd H p (cD p ep (bz ys us vs))) σ (e.set i (some (.dic ys))):=by
 obtain⟨p',_,_,_,h1,h2,h3,h4,_⟩:=r.mv i xs h
 rw [hp] at h1;cases h1
 have wl:i < e.length:=(Mo.mp h).1
 have fk:∀q o,F q=some o→q≠p:=fun q o z w=>by subst w;rw [h3] at z;cases z
 have bk:∀q o,B.H q=some o→q≠p:=fun q o z w=>by subst w;rw [h4] at z;cases z
 have dicAt:∀(j:Nat) (zs:List (D×D)),(e.set i (some (.dic ys)))[j]?=some (some (.dic zs))→∃ws,e[j]?=some (some (.dic ws)):=fun j zs q=>by
  by_cases z:i=j
  ·subst z;exact⟨xs,h⟩
  ·rw [Mp z] at q;exact⟨zs,q⟩
 refine⟨r.f0,fun b o z=>by rw [aC (fk b o z)];exact r.fh _ _ z,fun b o z=>by rw [aC (bk b o z)];exact r.h0 _ _ z,r.nf,fun j y q=>?_,fun j y q=>?_,fun j k as bs q hjk q1 q2 q3 q4=>?_,fun j y q=>?_,fun j k as bs q hjk q1 q2 q3 q4=>?_⟩
 ·have z:=mL (fun _ w=>by cases w) q
  rw [Mp z] at q;exact r.dv j y q
 ·have z:=aZ (fun _ w=>by cases w) q
  rw [Mp z] at q
  obtain⟨p2,us,g1,g2,g3,g4,g5⟩:=r.ov j y q
  have:p2≠p:=fun w=>by subst w;rw [h2] at g2;cases g2
  exact⟨p2,us,g1,by rw [aC this];exact g2,g3,g4,g5⟩
 ·have z1:=aZ (fun _ w=>by cases w) q1
  have z2:=aZ (fun _ w=>by cases w) q2
  rw [Mp z1] at q1
  rw [Mp z2] at q2
  exact r.ne j k as bs q hjk q1 q2 q3 q4
 ·by_cases z:i=j
  ·subst z
   rw [Mv wl] at q
   cases q
   exact⟨p,ep,us,vs,hp,aG,h3,h4,hd,hd'⟩
  ·rw [Mp z] at q
   obtain⟨p2,ep2,as,bs,g1,g2,g3,g4,g5⟩:=r.mv j y q
   have:p2≠p:=fun w=>by subst w;exact r.nm j i y xs p2 (Ne.symm z) q h g1 hp
   exact⟨p2,ep2,as,bs,g1,by rw [aC this];exact g2,g3,g4,g5⟩
 ·obtain⟨as',w1⟩:=dicAt j as q1
  obtain⟨bs',w2⟩:=dicAt k bs q2
  exact r.nm j k as' bs' q hjk w1 w2 q3 q4
def rX (kvs:List (D×D)):PySem.W.Frag→Hp→Addr→Prop:=fun K G a=>∃ep us vs,G a=some (cD a ep (bz kvs us vs))∧aq K G (kvs.map (·.1)) us∧aq K G (kvs.map (·.2)) vs
theorem Rep.AS (r:Rep K B F H σ e) {i:Nat} {xs:List (D×D)} (h:e[i]?=some (some (.dic xs))):∃F',ar F F'∧Rep K B F' H σ (e.set i (some (.d (.obj (rX xs))))):=by
 obtain⟨p,ep,us,vs,h1,h2,h3,h4,h5,h6⟩:=r.mv i xs h
 have wl:i < e.length:=(Mo.mp h).1
 have s1:ar F (upd F p (cD p ep (bz xs us vs))):=cB h3
 refine⟨upd F p (cD p ep (bz xs us vs)),s1,r.f0.trans s1,fun b o z=>?_,r.h0,fun q hq=>?_,fun j y q=>?_,fun j y q=>?_,fun j k as bs q hjk q1 q2 q3 q4=>?_,fun j y q=>?_,fun j k as bs q hjk q1 q2 q3 q4=>?_⟩
 ·by_cases w:b=p
  ·subst w;rw [aG] at z;cases z;exact h2
  ·rw [aC w] at z;exact r.fh _ _ z
 ·have:q≠p:=fun w=>by subst w;exact B.nb _ hq h4
  rw [aC this];exact r.nf q hq
 ·by_cases z:i=j
  ·subst z
   rw [Mv wl] at q
   cases q
   refine⟨_,h1,?_⟩
   simp only [Den]
   exact⟨p,rfl,fun G sG=>⟨ep,us,vs,sG _ _ aG,aq.mono (s1.trans sG) _ _ h5,aq.mono (s1.trans sG) _ _ h6⟩⟩
  ·rw [Mp z] at q
   obtain⟨v,a,b⟩:=r.dv j y q
   exact⟨v,a,Den.mono s1 _ _ b⟩
 ·have z:=aZ (fun _ w=>by cases w) q
  rw [Mp z] at q
  obtain⟨p2,us,g1,g2,g3,g4,g5⟩:=r.ov j y q
  have:p2≠p:=fun w=>by subst w;rw [h2] at g2;cases g2
  exact⟨p2,us,g1,g2,by rw [aC this];exact g3,g4,aq.mono s1 _ _ g5⟩
 ·have z1:=aZ (fun _ w=>by cases w) q1
  have z2:=aZ (fun _ w=>by cases w) q2
  rw [Mp z1] at q1
  rw [Mp z2] at q2
  exact r.ne j k as bs q hjk q1 q2 q3 q4
 ·have z:i≠j:=a5 (fun _ w=>by cases w) q
  rw [Mp z] at q
  obtain⟨p2,ep2,as,bs,g1,g2,g3,g4,g5,g6⟩:=r.mv j y q
  have:p2≠p:=fun w=>by subst w;exact r.nm j i y xs p2 (Ne.symm z) q h g1 h1
  exact⟨p2,ep2,as,bs,g1,g2,by rw [aC this];exact g3,g4,aq.mono s1 _ _ g5,aq.mono s1 _ _ g6⟩
 ·have z1:=a5 (fun _ w=>by cases w) q1
  have z2:=a5 (fun _ w=>by cases w) q2
  rw [Mp z1] at q1
  rw [Mp z2] at q2
  exact r.nm j k as bs q hjk q1 q2 q3 q4
end
end L2.L3
namespace L2.L3
open PySem PySem.Spec PyProof.Rows
theorem nS {P:Program} {w:World} {H:Hp} (h:Heap) (hb:sysModules < h.objs.size):bO P w H (h.push { cls:=.type "dict",data:=.dict #[] }) h.objs.size (cD h.objs.size 0 []):=by
 have dh:=bJ.new h
 refine⟨⟨MX _,beq_eq_false_iff_ne.mpr (Ne.symm (MR hb)),#[],dh,.nil⟩,?_,?_⟩
 ·obtain⟨o,ho,_⟩:=dh;exact⟨o,ho⟩
 ·rintro h1 h2 ⟨z,hs,es,⟨o,ho,c,dd⟩,pr⟩ k
  exact⟨z,hs,es,⟨o,k _ ho,c,dd⟩,pr⟩
def HM:TE:=fun _ H Q=>∀p,H p=none→Q (.ref p) (upd H p (cD p 0 []))
def Kl (X:Cx) (td ty tv:TE):TS:=fun D σ H=>tv σ H fun v H1=>td σ H1 fun x H2=>ty σ H2 fun y H3=>∃p ep F kvs us vs d z,x=.ref p∧ar F H3∧bZ kvs∧aq X.K F (kvs.map (·.1)) us∧aq X.K F (kvs.map (·.2)) vs∧H3 p=some (cD p ep (bz kvs us vs)) ∧
 a7 d=true∧dep d≤8∧Den X.K F d y∧Den X.K F z v∧kvs.length < sizeLine∧∀ep' us' vs',aq X.K F ((putN kvs d z).map (·.1)) us'→aq X.K F ((putN kvs d z).map (·.2)) vs'→D.nx σ (upd H3 p (cD p ep' (bz (putN kvs d z) us' vs')))
def Kj (X:Cx) (td ty:TE):TE:=fun σ H Q=>td σ H fun x H1=>ty σ H1 fun y H2=>∃p ep F kvs us vs d z,x=.ref p∧ar F H2∧bZ kvs∧aq X.K F (kvs.map (·.1)) us∧aq X.K F (kvs.map (·.2)) vs∧H2 p=some (cD p ep (bz kvs us vs)) ∧
 a7 d=true∧dep d≤8∧Den X.K F d y∧iC kvs d=some z∧∀w,Den X.K F z w→Q w H2
section
variable {X:Cx} {o i e value a b:Expr} {pos pos' tpos:Pos} {td ty tv:TE} {ta tb:TD}
theorem Bz:PE X (.Dict [] [] pos) HM:=fun pins s σ H Q I h =>
 wpAny_Dict_empty ⟨.ref s.heap.objs.size,_,I.laid (a:=s.heap.objs.size) (o:=cD s.heap.objs.size 0 []) (t':=s.toks) (fun _ _ q=>Mz _ q) (Mx _) (nS s.heap I.big),rfl,h _ (I.hok.fresh (Mx _))⟩
theorem Fp (hu:X.A.units + 64 < cLine) (ho:PE X o td) (hi:PE X i ty) (hv:PE X value tv) (hs:swapsWith value (some (.Subscript o i pos')) pos.line X.env=pure false) :
  PS X (.Assign [.Subscript o i pos'] value pos) (Kl X td ty tv):=by
 intro pins s σ H D I h
 refine wpAny_Assign_Subscript (bH (hv pins s σ H _ I h) fun r s1 ⟨v,H1,I1,rv,q1⟩=>bH (ho pins s1 σ H1 _ I1 q1) fun u s2 ⟨x,H2,I2,rx,q2⟩=>bH (hi pins s2 σ H2 _ I2 q2) fun iv s3 hq=>?_) hs
 obtain⟨y,H3,I3,ry,p,ep,F,kvs,us,vs,d,z,ex,fh,ok,d1,d2,e,hk,hd,dd,dz,hl,q3⟩:=hq
 subst ex
 obtain rfl:u=Value.ref p:=rx
 exact Ie (by omega) I3 fh ok d1 d2 e hk hd dd ry dz rv hl fun ep' us' vs' s4 e1 e2 I4=>⟨σ,_,I4,q3 ep' us' vs' e1 e2⟩
theorem zG (hu:X.A.units + 64 < cLine) (ho:PE X a td) (hi:PE X b ty) (hs:AY b):PE X (.Subscript a b pos) (Kj X td ty):=by
 intro pins s σ H Q I h
 refine zV PySem.F.slot_dict_getitem.lookup hs (bH (ho pins s σ H _ I h) fun u s1 ⟨x,H1,I1,rx,q1⟩=>bH (hi pins s1 σ H1 _ I1 q1) fun iv s2 hq=>?_)
 obtain⟨y,H2,I2,ry,p,ep,F,kvs,us,vs,d,z,ex,fh,ok,d1,d2,e,hk,hd,dd,hz,q2⟩:=hq
 subst ex
 obtain rfl:u=Value.ref p:=rx
 refine⟨?_,Cm (by omega) I2 fh ok d1 d2 e hk hd dd ry hz fun w' u' s3 I3 dw rw'=>⟨w',H2,I3,rw',q2 w' dw⟩⟩
 obtain⟨_,_,es,dh,_⟩:=iu I2 e
 exact dh.typeIs
def kR (i:Nat):bB:=fun D env=>D.nx (env.set i (some (.dic [])))
theorem t7 {x:Str} {pd:Pos} (i:Nat) (hN:X.N.Nodup) (hi:X.N[i]?=some x:=by rfl) (hx:Loc X.env.scope x:=by first | exact Or.inl rfl | exact Or.inr rfl) (hs:swapsWith (.Dict [] [] pd) (some (.Name x pos')) pos.line X.env=pure false:=by rfl)
  (hf:X.fn x=true∨X.env.scope.names.lookup x=some .local:=by first | exact .inl rfl | exact .inr rfl):QS X (.Assign [.Name x pos'] (.Dict [] [] pd) pos) (kR i):=by
 refine⟨fun B σ F H env D rp h pins s I=>?_⟩
 refine oq (i:=i) hN hi hx Bz hs hf pins s σ H _ I fun p hp=>?_
 exact⟨F,_,rp.Hg hp (by rw [I.len];exact (Mo.mp hi).1),h⟩
def aX (i:Nat) (tk tv:TD):bB:=fun Z env=>tv env fun v=>∃kvs,env[i]?=some (some (.dic kvs))∧tk env fun k=>a7 k=true∧dep k≤8∧bZ kvs∧kvs.length < sizeLine∧Z.nx (env.set i (some (.dic (putN kvs k v))))
theorem cg {x:Str} {px p2:Pos} (i:Nat) (hu:X.A.units + 64 < cLine) (hb:QE X b tb) (he:QE X e ta) (hN:X.N[i]?=some x:=by rfl) (hv:xA X.env.scope x:=by first | exact Or.inl rfl | exact Or.inr (Or.inl rfl) | exact Or.inr (Or.inr rfl)) (hd:(x == ("__debug__" : Str))=false:=by decide)
  (hcd:(x == ("__classdict__" : Str))=false:=by decide) (hs:swapsWith e (some (.Subscript (.Name x px) b p2)) pos.line X.env=pure false:=by rfl):QS X (.Assign [.Subscript (.Name x px) b p2] e pos) (aX i tb ta):=by
 refine⟨fun B σ F H env Z rp h=>?_⟩
 refine dG (Fp hu (eB hN hv hd hcd) bh bh hs) ?_
 refine aA (he B σ F H env _ rp h) fun y H1 hq0=>?_
 obtain⟨F1,d,r1,s1,d1,kvs,hx,q1⟩:=hq0
 obtain⟨p,ep,us,vs,g1,g2,g3,g4,g5,g6⟩:=r1.mv i kvs hx
 refine⟨.ref p,g1,?_⟩
 refine aA (hb B σ F1 H1 env _ r1 q1) fun z H2 hq0=>?_
 obtain⟨F2,d2,r2,s2,dd2,hk,hdp,ok,hl,q2⟩:=hq0
 obtain⟨p',ep',us',vs',e1,e2,e3,e4,e5,e6⟩:=r2.mv i kvs hx
 rw [g1] at e1;cases e1
 exact⟨p,ep',F2,kvs,us',vs',d2,d,rfl,r2.fh,ok,e5,e6,e2,hk,hdp,dd2,Den.mono s2 _ _ d1,hl,fun ep2 as bs f1 f2=>⟨F2,_,r2.AM ep2 hx g1 f1 f2,q2⟩⟩
def mW (i:Nat) (tk:TD):TD:=fun env Q=>∃kvs,env[i]?=some (some (.dic kvs))∧tk env fun k=>∃v,a7 k=true∧dep k≤8∧bZ kvs∧iC kvs k=some v∧Q v
theorem Cp {x:Str} {px:Pos} (i:Nat) (hu:X.A.units + 64 < cLine) (hb:QE X b tb) (hs:AY b) (hN:X.N[i]?=some x:=by rfl) (hv:xA X.env.scope x:=by first | exact Or.inl rfl | exact Or.inr (Or.inl rfl) | exact Or.inr (Or.inr rfl)) (hd:(x == ("__debug__" : Str))=false:=by decide)
  (hcd:(x == ("__classdict__" : Str))=false:=by decide):QE X (.Subscript (.Name x px) b pos) (mW i tb):=by
 refine⟨fun B σ F H env Q rp h=>?_⟩
 refine bN (zG hu (eB hN hv hd hcd) bh hs) ?_
 obtain⟨kvs,hx,h⟩:=h
 obtain⟨p,ep,us,vs,g1,g2,g3,g4,g5,g6⟩:=rp.mv i kvs hx
 refine⟨.ref p,g1,?_⟩
 refine aA (hb B σ F H env _ rp h) fun z H2 hq0=>?_
 obtain⟨F2,d2,r2,s2,dd2,v,hk,hdp,ok,hl,q2⟩:=hq0
 obtain⟨p',ep',us',vs',e1,e2,e3,e4,e5,e6⟩:=r2.mv i kvs hx
 rw [g1] at e1;cases e1
 exact⟨p,ep',F2,kvs,us',vs',d2,v,rfl,r2.fh,ok,e5,e6,e2,hk,hdp,dd2,hl,fun w dw=>⟨F2,v,r2,s2,dw,q2⟩⟩
def J1 (x y:D) (Q:D→Prop):Prop:=∃kvs v,x=.obj (rX kvs)∧a7 y=true∧dep y≤8∧bZ kvs∧iC kvs y=some v∧Q v
theorem DF (hu:X.A.units + 64 < cLine) (ha:QE X a ta) (hb:QE X b tb) (hs:AY b):QE X (.Subscript a b pos) (aB J1 ta tb):=by
 refine⟨fun B σ F H env Q rp h=>bN (zG hu bh bh hs) ?_⟩
 refine aA (ha B σ F H env _ rp h) fun x H1 hq0=>?_
 obtain⟨F1,d,r1,s1,d1,q1⟩:=hq0
 refine aA (hb B σ F1 H1 env _ r1 q1) fun y H2 hq0=>?_
 obtain⟨F2,d',r2,s2,d2,kvs,v,e1,hk,hd,ok,hv,q⟩:=hq0
 subst e1
 have d1':=Den.mono s2 _ _ d1
 simp only [Den] at d1'
 obtain⟨p,rfl,hp⟩:=d1'
 obtain⟨ep,us,vs,hg,g1,g2⟩:=hp F2 (ar.refl _)
 exact⟨p,ep,F2,kvs,us,vs,d',v,rfl,r2.fh,ok,g1,g2,r2.fh _ _ hg,hk,hd,d2,hv,fun w dw=>⟨F2,v,r2,s1.trans s2,dw,q⟩⟩
def cW (i:Nat) (t:bB):bB:=fun D env=>∃xs,env[i]?=some (some (.dic xs))∧t D (env.set i (some (.d (.obj (rX xs)))))
theorem lS {st:Stmt} {t:bB} (i:Nat) (h:QS X st t):QS X st (cW i t):=by
 refine⟨fun B σ F H env D rp hq=>?_⟩
 obtain⟨xs,hx,q⟩:=hq
 obtain⟨F',s',r'⟩:=rp.AS hx
 exact h B σ F' H _ D r' q
end
end L2.L3
namespace L2.L3
open PySem PySem.Spec PyProof.Rows
section
variable {prog:Program} {w:World} {A:Around} {E:Value→Shared→Prop} {s:Shared}
theorem Cz {d:Addr} {es:Array DictEntry} {ep:Nat} {Q:Value→Shared→Prop} (hd:(d == sysModules)=false) (x:bJ s.heap d es ep)
  (hQ:Q (.ref s.heap.objs.size) { s with heap:=s.heap.push { cls:=.type "dict_keyiterator",data:=.fields #[.ref d,.int 0 0,.int es.size 0,.int ep 0] } }) :
  wpAny (model prog w) A (pyIter (.ref d)) Q E s:=by
 have hT:s.TypeIs (.ref d) "dict":=x.typeIs
 obtain⟨o,ho,hc,hdat⟩:=x
 refine wpAny_pyIter_slot hT PySem.F.slot_dict_iter (wpAny_call_entry PySem.F.slot_dict_iter hT PySem.F.entry_dict_iter ?_ (PySem.F.args_dict_iter_1 _))
 unfold Builtin.«dict.__iter__»
 refine Mn ?_
 unfold Builtin.Dict.dictSlotNone
 refine Mn (wpAny_notOrdered_dict hT ?_)
 show wpAny _ _ (pure (Value.ref d)) _ _ s
 refine Mr ?_
 show wpAny _ _ (Builtin.Dict.showsAll d >>= _) _ _ s
 unfold Builtin.Dict.showsAll
 rw [Ms (by rw [hd];exact Bool.false_ne_true)]
 refine Mn (Mr ?_)
 refine Mn (wpAny_dictEntries ho hdat ?_)
 refine Mn (wpAny_dictEpoch ho hdat ?_)
 refine Mn (wpAny_newObj_type (Mr ⟨_,rfl,"dict_keyiterator",_,⟨_,MM _ rfl,rfl⟩,PySem.F.slot_dict_keyiterator_next.lookup,?_⟩))
 simpa [rawInt] using hQ
theorem Cr {it d:Addr} {i ep:Nat} {es:Array DictEntry} {Q:Option Value→Shared→Prop} (hit:s.heap.IsKeyIter it d i es.size ep) (x:bJ s.heap d es ep) (hlt':i < es.size)
  (hQ:∀h',h'.IsKeyIter it d (i + 1) es.size ep→Heap.SameBut it s.heap h'→Q (some es[i].key) { s with heap:=h' }) :
  wpAny (model prog w) A (pyNext (.ref it)) Q E s:=by
 obtain⟨o,ho,hc,hd⟩:=id hit
 obtain⟨od,hod,hcd,hdd⟩:=id x
 unfold pyNext
 refine Mn (wpAny_attempt (wpAny_callSpecial?_slot (name:=Str.ofString "__next__") hit.typeIs PySem.F.slot_dict_keyiterator_next
  (wpAny_call_entry PySem.F.slot_dict_keyiterator_next hit.typeIs PySem.F.entry_dict_keyiterator_next ?_ (PySem.F.args_dict_keyiterator_next_1 _))))
 refine Mn (Mr ?_)
 refine Mn ?_
 refine Mn ?_
 first | refine Mn (wpAny_typeNameOfWhole_keyiter hit.typeIs (Mr ?_)) | refine Mn (wpAny_typeNameOf_keyiter hit.typeIs (Mr ?_))
 refine Mn (wpAny_fieldsOf ho hd ?_)
 have hown:Builtin.Dict_items.ownsTuple "dict_keyiterator" = false:=by decide
 simp only [hown,Mt,if_false]
 show wpAny _ _ (if (Value.ref d == Value.none)=true then _ else _) _ _ s
 rw [Ms (show ¬ ((Value.ref d == Value.none)=true) from Bool.false_ne_true)]
 refine Mn (Mr ?_)
 refine Mn (wpAny_dictEntries hod hdd ?_)
 rw [Ms (by simp)]
 refine Mn (Mr ?_)
 refine Mn (wpAny_dictEpoch hod hdd ?_)
 rw [Ms (by simp)]
 refine Mr ?_
 simp only [show ¬ ((i:Int) < 0) from by omega,if_false,Int.toNat_natCast,Array.getElem?_eq_getElem hlt']
 refine Mn ?_
 first | refine Mn (wpAny_typeNameOfWhole_keyiter hit.typeIs (Mr ?_)) | refine Mn (wpAny_typeNameOf_keyiter hit.typeIs (Mr ?_))
 refine Mn (wpAny_isOneOf_keyiter hit.typeIs ?_)
 show wpAny _ _ (setField (.ref it) 1 (rawInt ((i:Int) + 1)) >>= _) _ _ s
 refine Mn (wpAny_setField ho hd (by simp) ?_)
 have hit':(s.heap.update it (Obj.mapFields (·.setIfInBounds 1 (rawInt ((i:Int) + 1))))).IsKeyIter it d (i + 1) es.size ep :=
  ⟨_,Heap.get?_update_self _ ho (Obj.isFreed_of_fields (Obj.data_mapFields hd _)),(Obj.cls_mapFields ..).trans hc,by rw [Obj.data_mapFields hd];simp [rawInt]⟩
 refine Mn (wpAny_holding ?_)
 refine Mn (wpAny_isOneOf_keyiter (s:={ s with heap:=s.heap.update it (Obj.mapFields (·.setIfInBounds 1 (rawInt ((i:Int) + 1)))) }) hit'.typeIs ?_)
 show wpAny _ _ (pure es[i].key) _ _ _
 exact Mr (Mr ⟨_,rfl,Mr (hQ _ hit' (Heap.SameBut.update ..))⟩)
theorem ED {it d:Addr} {i ep:Nat} {es:Array DictEntry} {Q:Option Value→Shared→Prop} (hh:A.handled=none) (hit:s.heap.IsKeyIter it d i es.size ep) (x:bJ s.heap d es ep) (hge:es.size≤i)
  (hQ:∀h',Heap.ExtBut it s.heap h'→Q none { s with heap:=h' }):wpAny (model prog w) A (pyNext (.ref it)) Q E s:=by
 obtain⟨o,ho,hc,hd⟩:=id hit
 obtain⟨od,hod,hcd,hdd⟩:=id x
 unfold pyNext
 refine Mn (wpAny_attempt (wpAny_callSpecial?_slot (name:=Str.ofString "__next__") hit.typeIs PySem.F.slot_dict_keyiterator_next
  (wpAny_call_entry PySem.F.slot_dict_keyiterator_next hit.typeIs PySem.F.entry_dict_keyiterator_next ?_ (PySem.F.args_dict_keyiterator_next_1 _))))
 refine Mn (Mr ?_)
 refine Mn ?_
 refine Mn ?_
 first | refine Mn (wpAny_typeNameOfWhole_keyiter hit.typeIs (Mr ?_)) | refine Mn (wpAny_typeNameOf_keyiter hit.typeIs (Mr ?_))
 refine Mn (wpAny_fieldsOf ho hd ?_)
 have hown:Builtin.Dict_items.ownsTuple "dict_keyiterator" = false:=by decide
 simp only [hown,Mt,if_false]
 show wpAny _ _ (if (Value.ref d == Value.none)=true then _ else _) _ _ s
 rw [Ms (show ¬ ((Value.ref d == Value.none)=true) from Bool.false_ne_true)]
 refine Mn (Mr ?_)
 refine Mn (wpAny_dictEntries hod hdd ?_)
 rw [Ms (by simp)]
 refine Mn (Mr ?_)
 refine Mn (wpAny_dictEpoch hod hdd ?_)
 rw [Ms (by simp)]
 refine Mr ?_
 simp only [show ¬ ((i:Int) < 0) from by omega,if_false,Int.toNat_natCast,Array.getElem?_eq_none hge]
 refine Mn ?_
 first | refine Mn (wpAny_typeNameOfWhole_keyiter hit.typeIs (Mr ?_)) | refine Mn (wpAny_typeNameOf_keyiter hit.typeIs (Mr ?_))
 show wpAny _ _ (setField (.ref it) 0 .none >>= _) _ _ s
 refine Mn (wpAny_setField ho hd (by simp) ?_)
 show wpAny _ _ (newExc (.type "StopIteration") [] >>= _) _ _ _
 refine Mn ?_
 simp only [newExc,newTuple]
 refine Mn (wpAny_newObj_type ?_ (by size_fits))
 refine Mn (m:=firstArgMember _ _) (wpAny_of_eq (a:=Value.none) (by first | rfl | (simp only [firstArgMember];rfl)) ?_)
 refine wpAny_newObj_type ?_ (by size_fits)
 simp only [raiseNew]
 refine Mn (wpAny_handled ?_)
 rw [show A.in1.handled=none from hh]
 refine Mn (Mr (wpAny_throw ?_))
 refine Mn (wpAny_isInstance (T:="StopIteration") (b:=true) ⟨_,MM _ rfl,rfl⟩ isSubtype_stop ?_)
 exact Mr (hQ _ (((Heap.SameBut.update ..).extBut.push _).push _))
end
def LO (p:Addr) (ep:Nat) (rows:List (Int×V×V)):It :=
 ⟨fun i H=>H p=some (cD p ep rows)∧i < rows.length,fun i H x H'=>H'=H∧∃row,rows[i]?=some row∧x=row.2.1,fun i H=>H p=some (cD p ep rows)∧rows.length≤i⟩
theorem BM {P:Program} {w:World} {K:PySem.W.Frag} {tg:Expr} (p it:Addr) (ep:Nat) (rows:List (Int×V×V)):Turn P w K tg (LO p ep rows) [it] it (fun i h=>h.IsKeyIter it p i rows.length ep) where
 mem:=by simp
 obj:=fun i h st b hb=>by
  have e:b=it:=by simpa using hb
  subst e
  obtain⟨o,e,c,d⟩:=st
  exact⟨o,e,fun v z=>by rw [d] at z;cases z⟩
 keep:=fun i h h' st k=>let ⟨o,e,c,d⟩:=st;⟨o,k it (by simp) o e,c,d⟩
 item:=by
  intro X hP hw hK hc i pins s σ H E I hf st hg
  subst hP hw hK
  obtain⟨e,hlt⟩:=hg
  obtain⟨hz,hs,es,dh,pr⟩:=iu I e
  have lp:rows.length=es.size:=by simpa using Paired.length pr
  have hlt':i < es.size:=by omega
  obtain⟨row,hr,e1,e2,e3⟩:=fN pr (y:=es[i]) (i:=i) (by simp [hlt'])
  obtain⟨f0,f1,f2,f3,f4,f5⟩:=hf it (by simp)
  rw [lp] at st
  refine Cr st dh hlt' fun h' st' sb=>?_
  have I1:Inv X pins σ H { s with heap:=h' }:=I.turned (t':=s.toks) (fun b o hb e=>(sb.2 b hb).trans e) f0 f1 f3 f4 f5
  obtain⟨o,eo,c,d⟩:=id st'
  rw [← lp] at st'
  exact⟨_,rfl,vU (s:={ s with heap:=h' }) eo c d (by decide) ⟨row.2.1,H,I1,e2,⟨rfl,row,hr,rfl⟩,st',fun b hb=>(hf b hb).1⟩⟩
 done:=by
  intro X hP hw hK hc i pins s σ H E I hf st hg
  subst hP hw hK
  obtain⟨e,hge⟩:=hg
  obtain⟨hz,hs,es,dh,pr⟩:=iu I e
  have lp:rows.length=es.size:=by simpa using Paired.length pr
  obtain⟨f0,f1,f2,f3,f4,f5⟩:=hf it (by simp)
  rw [lp] at st
  exact ED (I.ok.hd hc) st dh (by omega) fun h' eb=>⟨rfl,I.turned (t':=s.toks) (fun b o hb e=>eb b o hb e) f0 f1 f3 f4 f5⟩
 self:=fun _ _ _ _ _ st h=>wpAny_pyIter_keyiter st h
def Lr (tl:TE):TI:=fun σ H R=>tl σ H fun x H1=>∃p ep rows,x=.ref p∧H1 p=some (cD p ep rows)∧R (LO p ep rows) H1
section
variable {X:Cx} {tg:Expr}
theorem Ij {l:Expr} {tl:TE} (hl:PE X l tl):PI X tg l (Lr tl):=by
 intro pins s σ H R I h
 refine bH (hl pins s σ H _ I h) fun v s1 hq0=>?_
 obtain⟨x,H1,I1,r1,q1⟩:=hq0
 obtain⟨p,ep,rows,e,hp,q⟩:=q1
 subst e
 cases r1
 obtain⟨hz,hs,es,dh,pr⟩:=iu I1 hp
 have lp:rows.length=es.size:=by simpa using Paired.length pr
 refine Cz hs dh ?_
 refine⟨s1.heap.objs.size,[s1.heap.objs.size],_,_,H1,rfl,I1.kept (t':=s1.toks) fun b o e=>Mz _ e,BM p _ ep rows,⟨_,MM _ rfl,rfl,by rw [lp];rfl⟩,fun b hb=>?_,q⟩
 have e:b=s1.heap.objs.size:=by simpa using hb
 subst e
 exact I1.Be (Mx _) (I1.hok.fresh (Mx _))
end
section
variable {K:PySem.W.Frag} {B:Base} {F H:Hp} {σ:St} {e:En}
def HU (x:Addr):PySem.W.Frag→Hp→Addr→Prop:=fun _ _ a=>a=x
theorem CQ {i:Nat} {a:Addr} (r:Rep K B F H σ e) (h:e[i]?=some (some (.d (.obj (HU a))))):σ[i]?=some (some (.ref a)):=by
 obtain⟨v,h1,h2⟩:=r.dv i _ h
 simp only [Den] at h2
 obtain⟨b,rfl,h3⟩:=h2
 have:b=a:=h3 F (ar.refl _)
 rw [this] at h1;exact h1
theorem Rep.DR (r:Rep K B F H σ e) {i:Nat} {kvs:List (D×D)} (h:e[i]?=some (some (.dic kvs))) :
  ∃p ep us vs,σ[i]?=some (some (.ref p))∧H p=some (cD p ep (bz kvs us vs))∧B.H p=none∧aq K F (kvs.map (·.1)) us∧aq K F (kvs.map (·.2)) vs∧Rep K (B.guard p (cD p ep (bz kvs us vs))) F H σ (e.set i (some (.d (.obj (HU p))))):=by
 obtain⟨p,ep,us,vs,h1,h2,h3,h4,h5,h6⟩:=r.mv i kvs h
 have wl:i < e.length:=(Mo.mp h).1
 refine⟨p,ep,us,vs,h1,h2,h4,h5,h6,r.f0,r.fh,fun b u q=>?_,fun a q=>?_,fun j y q=>?_,fun j y q=>?_,fun j k as bs q hjk q1 q2 q3 q4=>?_,fun j y q=>?_,fun j k as bs q hjk q1 q2 q3 q4=>?_⟩
 ·have q':upd B.H p (cD p ep (bz kvs us vs)) b=some u:=q
  by_cases z:b=p
  ·subst z;rw [aG] at q';cases q';exact h2
  ·rw [aC z] at q';exact r.h0 _ _ q'
 ·rcases q with rfl | q
  ·exact h3
  ·exact r.nf a q
 ·by_cases z:i=j
  ·subst z
   rw [Mv wl] at q
   cases q
   refine⟨_,h1,?_⟩
   simp only [Den]
   exact⟨p,rfl,fun _ _=>rfl⟩
  ·rw [Mp z] at q
   exact r.dv j y q
 ·have z:=aZ (fun _ w=>by cases w) q
  rw [Mp z] at q
  obtain⟨p2,us2,g1,g2,g3,g4,g5⟩:=r.ov j y q
  have:p2≠p:=fun w=>by subst w;rw [h2] at g2;cases g2
  exact⟨p2,us2,g1,g2,g3,by show upd B.H p _ p2=none;rw [aC this];exact g4,g5⟩
 ·have z1:=aZ (fun _ w=>by cases w) q1
  have z2:=aZ (fun _ w=>by cases w) q2
  rw [Mp z1] at q1
  rw [Mp z2] at q2
  exact r.ne j k as bs q hjk q1 q2 q3 q4
 ·have z:i≠j:=a5 (fun _ w=>by cases w) q
  rw [Mp z] at q
  obtain⟨p2,ep2,as,bs,g1,g2,g3,g4,g5,g6⟩:=r.mv j y q
  have:p2≠p:=fun w=>by subst w;exact r.nm j i y kvs p2 (Ne.symm z) q h g1 h1
  exact⟨p2,ep2,as,bs,g1,g2,g3,by show upd B.H p _ p2=none;rw [aC this];exact g4,g5,g6⟩
 ·have z1:=a5 (fun _ w=>by cases w) q1
  have z2:=a5 (fun _ w=>by cases w) q2
  rw [Mp z1] at q1
  rw [Mp z2] at q2
  exact r.nm j k as bs q hjk q1 q2 q3 q4
theorem Rep.yl {p:Addr} {ep:Nat} {us vs:List V} {i:Nat} {kvs:List (D×D)} (r:Rep K (B.guard p (cD p ep (bz kvs us vs))) F H σ e) (hb:B.H p=none) (h:e[i]?=some (some (.d (.obj (HU p))))) (h5:aq K F (kvs.map (·.1)) us) (h6:aq K F (kvs.map (·.2)) vs) :
  Rep K B F H σ (e.set i (some (.dic kvs))):=by
 have wl:i < e.length:=(Mo.mp h).1
 have hs:=CQ r h
 obtain⟨r',hp,hf⟩:=r.pK hb
 have oth:∀(j:Nat) (ys:List (D×D)),e[j]?=some (some (.dic ys))→σ[j]?≠some (some (.ref p)):=fun j ys q z=>by
  obtain⟨q1,_,_,_,h1,_,_,h4,_⟩:=r.mv j ys q
  rw [z] at h1;cases h1
  have h4':upd B.H p (cD p ep (bz kvs us vs)) p=none:=h4
  rw [aG] at h4';cases h4'
 refine⟨r'.f0,r'.fh,r'.h0,r'.nf,fun j y q=>?_,fun j y q=>?_,fun j k as bs q hjk q1 q2 q3 q4=>?_,fun j y q=>?_,fun j k as bs q hjk q1 q2 q3 q4=>?_⟩
 ·have z:=mL (fun _ w=>by cases w) q
  rw [Mp z] at q;exact r'.dv j y q
 ·have z:=aZ (fun _ w=>by cases w) q
  rw [Mp z] at q;exact r'.ov j y q
 ·have z1:=aZ (fun _ w=>by cases w) q1
  have z2:=aZ (fun _ w=>by cases w) q2
  rw [Mp z1] at q1
  rw [Mp z2] at q2
  exact r'.ne j k as bs q hjk q1 q2 q3 q4
 ·by_cases z:i=j
  ·subst z
   rw [Mv wl] at q
   cases q
   exact⟨p,ep,us,vs,hs,hp,hf,hb,h5,h6⟩
  ·rw [Mp z] at q;exact r'.mv j y q
 ·by_cases z1:i=j
  ·subst z1
   rw [Mp hjk] at q2
   rw [hs] at q3;cases q3
   exact oth k bs q2 q4
  ·rw [Mp z1] at q1
   by_cases z2:i=k
   ·subst z2
    rw [hs] at q4;cases q4
    exact oth j as q1 q3
   ·rw [Mp z2] at q2
    exact r'.nm j k as bs q hjk q1 q2 q3 q4
end
end L2.L3
namespace L2.L3
open PySem PySem.Spec PyProof.Rows
section
variable {X:Cx} {a b:Expr} {ta tb:TD} {pos:Pos} {t:bB}
def pI (i:Nat) (g:rJ) (t:bB):bB:=fun Z env=>∃kvs,env[i]?=some (some (.dic kvs))∧∀p,turns g t { Z with nx:=fun e=>e[i]?=some (some (.d (.obj (HU p))))∧Z.nx (e.set i (some (.dic kvs))) } (kvs.map (·.1)) (env.set i (some (.d (.obj (HU p)))))
theorem AX {x:Str} {px:Pos} {tg:Expr} {body:List Stmt} {g:rJ} (i:Nat) (hp:PassesOwn (model X.prog X.w) X.A X.env X.xe) (hc:X.calm=true) (hg:QG X tg g) (hb:oF X body t) (hN:X.N[i]?=some x:=by rfl) (hv:xA X.env.scope x:=by first | exact Or.inl rfl | exact Or.inr (Or.inl rfl) | exact Or.inr (Or.inr rfl)) (hd:(x == ("__debug__" : Str))=false:=by decide)
  (hcd:(x == ("__classdict__" : Str))=false:=by decide) (hs:∀z,foldedSetIterable (.Name x px) X.env z=pure z:=by intro _;rfl):QS X (.For tg (.Name x px) body [] pos) (pI i g t):=by
 refine⟨fun B σ F H env Z rp h=>dG (qF hp hc (Ij (eB hN hv hd hcd)) yo eT hs) ?_⟩
 obtain⟨kvs,hx,h⟩:=h
 obtain⟨p,ep,us,vs,h1,h2,h4,h5,h6,r0⟩:=rp.DR hx
 refine⟨.ref p,h1,p,ep,bz kvs us vs,rfl,h2,?_⟩
 have q1:=h p
 generalize hB:B.guard p (cD p ep (bz kvs us vs))=B' at r0
 generalize hD:({ Z with nx:=fun e=>e[i]?=some (some (.d (.obj (HU p))))∧Z.nx (e.set i (some (.dic kvs))) }:Ends3)=Z' at q1
 have hBp:B'.H p=some (cD p ep (bz kvs us vs)):=by rw [← hB];exact aG
 have fnx:∀σ2 H2,(RS X B' Z').nx σ2 H2→ar F F→(∃F' env',Rep X.K B' F' H2 σ2 env'∧ar F F'∧Z'.nx env')→(RS X B Z).nx σ2 H2:=by
  rintro σ2 H2 _ _ ⟨F',env',r',s',q'⟩
  rw [← hD] at q'
  rw [← hB] at r'
  exact⟨F',_,r'.yl h4 q'.1 (aq.mono s' _ _ h5) (aq.mono s' _ _ h6),q'.2⟩
 have frt:∀v H2,(RS X ⟨F,B'.H,B'.N,B'.nb⟩ Z').rt v H2→(RS X B Z).rt v H2:=by
  rintro v H2 ⟨F',d,r',hd',q'⟩
  have r2:=Rep.back (B:=B') r0.f0 r'
  rw [← hB] at r2
  rw [← hD] at q'
  exact⟨F',d,(r2.pK h4).1,hd',q'⟩
 have fin:∀σ2 H2,(∃F' env',Rep X.K ⟨F,B'.H,B'.N,B'.nb⟩ F' H2 σ2 env'∧Z'.nx env')→(RS X B Z).nx σ2 H2:=by
  rintro σ2 H2 ⟨F',env',r',q'⟩
  have r2:=Rep.back (B:=B') r0.f0 r'
  exact fnx σ2 H2 ⟨F',env',r2,q'⟩ (ar.refl _) ⟨F',env',r2,r'.f0,q'⟩
 have hl:(bz kvs us vs).length=(kvs.map (·.1)).length:=by rw [cj h5 h6,MB]
 generalize hxs:kvs.map (·.1)=xs at q1 h5 hl
 refine⟨fun i m σ H=>m=xs.length - i∧i≤xs.length∧∃F2 env,Rep X.K ⟨F,B'.H,B'.N,B'.nb⟩ F2 H σ env∧turns g t Z' (xs.drop i) env,⟨xs.length,by simp,MX _,F,_,r0.now,by simpa using q1⟩,?_⟩
 rintro j m σ2 H2 ⟨rfl,hi2,F2,env2,r2,q2⟩
 have hcell:H2 p=some (cD p ep (bz kvs us vs)):=r2.h0 _ _ hBp
 by_cases hlt:j < xs.length
 ·have hxi:xs[j]?=some xs[j]:=by simp [hlt]
  rw [drop_cons hxi] at q2
  refine .inr ⟨⟨hcell,by omega⟩,fun σ' H'=>∃F3 env,Rep X.K ⟨F,B'.H,B'.N,B'.nb⟩ F3 H' σ' env∧turns g t Z' (xs.drop (j + 1)) env,fun σ' H' ⟨F',env',r',q'⟩=>⟨xs.length - (j + 1),by omega,rfl,by omega,F',env',r',q'⟩,fun z H' hz=>?_⟩
  obtain⟨rfl,row,hr,rfl⟩:=hz
  obtain⟨kv,k1,k2,k3,k4⟩:=eJ hr
  obtain⟨v,hv',dv'⟩:=h5.get hxi
  rw [k3] at hv';cases hv'
  refine gT (hg _ σ2 F2 _ env2 _ _ _ r2 (Den.mono r2.f0 _ _ dv') q2) fun σ3 H3 hq0=>?_
  obtain⟨F3,env3,r3,s3,q3⟩:=hq0
  exact gL (hb _ σ3 F3 H3 env3 _ r3 q3) (fun _ _ q=>q) (fun v H q=>frt v H q) (fun v H q=>fin v H q) (fun _ _ q=>q)
 ·have e:j=xs.length:=by omega
  subst e
  rw [M6 (Mx _)] at q2
  exact .inl ⟨⟨hcell,by omega⟩,fin _ _ ⟨F2,env2,r2,q2⟩⟩
def Ke (neg:Bool) (y x:D) (Q:D→Prop):Prop:=∃kvs,x=.obj (rX kvs)∧a7 y=true∧dep y≤8∧bZ kvs∧Q (.bl (if neg then !(kvs.any fun kv=>a6 kv.1 y) else kvs.any fun kv=>a6 kv.1 y))
def Kr (X:Cx) (neg:Bool):R2:=fun y x H Q=>∃p ep F kvs us vs d,x=.ref p∧ar F H∧bZ kvs∧aq X.K F (kvs.map (·.1)) us∧aq X.K F (kvs.map (·.2)) vs∧H p=some (cD p ep (bz kvs us vs)) ∧
 a7 d=true∧dep d≤8∧Den X.K F d y∧Q (.bl (if neg then !(kvs.any fun kv=>a6 kv.1 d) else kvs.any fun kv=>a6 kv.1 d)) H
theorem zZ (hu:X.A.units + 64 < cLine):iQ X (compareOp .NotIn) (Kr X true):=by
 intro pins s σ H x y v u Q I rx ry h
 obtain⟨p,ep,F,kvs,us,vs,d,rfl,fh,ok,d1,d2,e,hk,hd,dd,h⟩:=h
 cases ry
 show wpAny _ _ ((do return Value.bool (!(← contains (.ref p) v))):Sem Value) _ _ s
 exact Mn (Kp (by omega) I fh ok d1 d2 e hk hd dd rx fun s' I'=>Mr ⟨.bl _,H,I',rfl,h⟩)
theorem Hl (neg:Bool):sj X (Kr X neg) (Ke neg):=by
 intro B σ F H env Q d d' x y Z rp h1 h2 hz hf
 obtain⟨kvs,rfl,hk,hd,ok,q⟩:=hf
 simp only [Den] at h2
 obtain⟨p,rfl,hp⟩:=h2
 obtain⟨ep,us,vs,hg,g1,g2⟩:=hp F (ar.refl _)
 exact⟨p,ep,F,kvs,us,vs,d,rfl,rp.fh,ok,g1,g2,rp.fh _ _ hg,hk,hd,h1,hz _ H F _ rp (ar.refl _) dj q⟩
theorem IS (hu:X.A.units + 64 < cLine) (ha:QE X a ta) (hb:QE X b tb) (hm:behindInMarks .NotIn b=false:=by rfl):QT X (.Compare a [.NotIn] [b] pos) (aJ (aB (Ke true) ta tb)):=ie (zZ hu) (Hl true) ha hb hm
end
theorem bZ.nil:bZ []:=⟨fun _ h=>absurd h MT,fun i j x y h=>by simp at h⟩
theorem EE {a b:D} (ha:a7 a=true) (hb:a7 b=true):a6 a b=true↔a=b:=⟨fun h=>c6 a b ha h hb,fun h=>h▸gr a ha⟩
theorem bZ.put {kvs:List (D×D)} {k v:D} (h:bZ kvs) (hk:a7 k=true) (hd:dep k≤8):bZ (putN kvs k v):=by
 unfold putN
 by_cases c:(kvs.any fun kv=>a6 kv.1 k)=true
 ·rw [Mw c]
  refine⟨fun kv m=>?_,fun i j x y hx hy e=>?_⟩
  ·obtain⟨kw,m',rfl⟩:=M3.mp m
   split
   ·exact h.key kw m'
   ·exact h.key kw m'
  ·rw [Mu] at hx hy
   obtain⟨x',hx',rfl⟩:=MZ.mp hx
   obtain⟨y',hy',rfl⟩:=MZ.mp hy
   refine h.dif i j x' y' hx' hy' ?_
   split at e <;> split at e <;> exact e
 ·rw [Ms c]
  have no:∀(i:Nat) (x:D×D),kvs[i]?=some x→x.1≠k:=fun i x hx e=>c (List.any_eq_true.mpr ⟨x,MA hx,by rw [e];exact gr k hk⟩)
  refine⟨fun kv m=>?_,fun i j x y hx hy e=>?_⟩
  ·rcases MP.mp m with m | m
   ·exact h.key kv m
   ·rw [MK] at m;subst m;exact⟨hk,hd⟩
  ·have at_:∀(i:Nat) (x:D×D),(kvs ++ [(k,v)])[i]?=some x→kvs[i]?=some x∨(i=kvs.length∧x.1=k):=fun i x hx=>by
    by_cases l:i < kvs.length
    ·rw [MJ l] at hx;exact .inl hx
    ·have:=(Mo.mp hx).1
     have e:i=kvs.length:=by simp at this;omega
     subst e
     rw [MH (Mx _),Nat.sub_self] at hx
     cases hx
     exact .inr ⟨rfl,rfl⟩
   rcases at_ i x hx with a | ⟨a,a'⟩ <;> rcases at_ j y hy with b | ⟨b,b'⟩
   ·exact h.dif i j x y a b e
   ·exact absurd (e.trans b') (no i x a)
   ·exact absurd (e.symm.trans a') (no j y b)
   ·omega
theorem qC {kvs:List (D×D)} {k k' v:D} (h:bZ kvs) (hk:a7 k=true) (hk':a7 k'=true):iC (putN kvs k v) k'=if a6 k k'=true then some v else iC kvs k':=by
 have find:∀(l:List (D×D)),(∀kv∈l,a7 kv.1=true)→iC (l.map (fun kv=>if a6 kv.1 k=true then (kv.1,v) else kv)) k'=if a6 k k'=true∧(l.any fun kv=>a6 kv.1 k)=true then some v else iC l k':=fun l=>by
  induction l with
  | nil=>intro _;simp [iC]
  | cons x r ih =>
   intro hl
   have ih':=ih fun kv m=>hl kv (ME _ m)
   have hx:=hl x (MN ..)
   unfold iC at ih' ⊢
   rw [MQ,List.find?_cons,List.find?_cons]
   by_cases c1:a6 x.1 k=true
   ·rw [Mw c1]
    have e:=c6 _ _ hx c1 hk
    by_cases c2:a6 x.1 k'=true
    ·simp only [c2,Option.map_some]
     rw [Mw ⟨e▸c2,by rw [List.any_cons,c1];rfl⟩]
    ·have c3:¬ a6 k k'=true:=fun q=>c2 (e▸q)
     simp only [c2]
     rw [ih',Ms (fun q=>c3 q.1),Ms (fun q=>c3 q.1)]
   ·rw [Ms c1]
    by_cases c2:a6 x.1 k'=true
    ·have c3:¬ a6 k k'=true:=fun q=>c1 (by
      have e1:=c6 _ _ hx c2 hk'
      have e2:=c6 _ _ hk q hk'
      rw [e1,← e2];exact gr k hk)
     simp only [c2,Option.map_some]
     rw [Ms (fun q=>c3 q.1)]
    ·simp only [c2]
     rw [ih',List.any_cons]
     have:a6 x.1 k=false:=by simpa using c1
     rw [this,Bool.false_or]
 unfold putN
 by_cases c:(kvs.any fun kv=>a6 kv.1 k)=true
 ·rw [Mw c,find kvs fun kv m=>(h.key kv m).1]
  simp only [c,and_true]
 ·rw [Ms c]
  unfold iC
  rw [List.find?_append]
  by_cases c2:a6 k k'=true
  ·rw [Mw c2]
   have none:kvs.find? (fun kv=>a6 kv.1 k')=none:=by
    rw [List.find?_eq_none]
    intro kv m q
    refine c (List.any_eq_true.mpr ⟨kv,m,?_⟩)
    have e1:=c6 _ _ (h.key kv m).1 q hk'
    have e2:=c6 _ _ hk c2 hk'
    rw [e1,← e2];exact gr k hk
   rw [none]
   simp [c2]
  ·rw [Ms c2]
   cases kvs.find? (fun kv=>a6 kv.1 k') with
   | some z=>rfl
   | none=>simp [c2]
theorem Dt {kvs:List (D×D)} {k:D}:(kvs.any fun kv=>a6 kv.1 k)=(iC kvs k).isSome:=by
 unfold iC
 rw [Option.isSome_map,Bool.eq_iff_iff,List.find?_isSome,List.any_eq_true]
theorem dC {kvs:List (D×D)} {k v:D}:(putN kvs k v).length≤kvs.length + 1:=by
 unfold putN
 split
 ·simp
 ·simp
end L2.L3
namespace L2.L3
open PySem PySem.Spec PyProof.Rows
section
variable {X:Cx} {a e o:Expr} {ta te to:TD} {pos apos cpos:Pos}
def LK (X:Cx) (neg:Bool):R2:=fun x y H Q=>∃(F:Hp) (d:D) (ds:List D) (vs:List V) (p:Addr),ar F H∧Den X.K F d x∧y=.ref p∧fL X.K H p vs∧aq X.K F ds vs∧X.A.units + 64 < cLine∧b9 ds≤60∧dep d≤60∧Q (.bl (if neg then !ds.any (fun e=>a6 e d) else ds.any fun e=>a6 e d)) H
theorem Ey:iQ X (compareOp .NotIn) (LK X true):=by
 intro pins s σ H x y v u Q I rx ry h
 obtain⟨F,d,ds,vs,p,fh,dx,rfl,hq,dl,hu,h1,h2,q⟩:=h
 cases ry
 obtain⟨its,r,pl,hz⟩:=I.list hq
 refine SeqAt.notIn_listAt (jE its ds d) pl.isList (fun w hw=>p0 I fh hu h1 h2 dl r dx rx w (by simpa using hw)) ⟨.bl _,H,I,rfl,?_⟩
 rw [show its.toArray.any (jE its ds d)=its.any (jE its ds d) by simp,any_map',m7 I fh (by omega) dl r,← any_map']
 exact q
def zl (neg:Bool) (i:Nat) (ta:TD):TB:=fun env Q=>ta env fun x=>∃xs,env[i]?=some (some (.own xs))∧b9 xs≤60∧dep x≤60∧Q (if neg then !xs.any (fun e=>a6 e x) else xs.any fun e=>a6 e x)
theorem C9 {x:Str} {px:Pos} (i:Nat) (hu:X.A.units + 64 < cLine) (ha:QE X a ta) (hN:X.N[i]?=some x:=by rfl) (hv:xA X.env.scope x:=by first | exact Or.inl rfl | exact Or.inr (Or.inl rfl) | exact Or.inr (Or.inr rfl)) (hd:(x == ("__debug__" : Str))=false:=by decide)
  (hcd:(x == ("__classdict__" : Str))=false:=by decide) (hm:behindInMarks .NotIn (.Name x px)=false:=by rfl):QT X (.Compare a [.NotIn] [.Name x px] pos) (zl true i ta):=by
 refine⟨fun B σ F H env Q rp h=>tU (pN Ey bh (eB hN hv hd hcd) hm) ?_⟩
 refine aA (ha B σ F H env _ rp h) fun y H1 hq0=>?_
 obtain⟨F1,d,r1,s1,d1,xs,hx,l1,l2,q1⟩:=hq0
 obtain⟨p,vs,g1,g2,g3,g4,g5⟩:=r1.ov i xs hx
 exact⟨.ref p,g1,F1,d,xs,vs,p,r1.fh,d1,rfl,fL.of g2,g5,hu,l1,l2,_,rfl,F1,r1,s1,q1⟩
def l8 (to te:TD):TD:=fun env Q=>to env fun x=>∃ds,x=.lst ds∧b9 ds≤60∧te env fun y=>dep y≤60∧∃j:Nat,(ds[j]?.map fun d=>a6 d y)=some true∧(∀m,m < j→(ds[m]?.map fun d=>a6 d y)=some false)∧Q (.int j)
theorem uf (hu:X.A.units + 64 < cLine) (ho:QE X o to) (he:QE X e te) (m:M1 X o "index" apos e cpos:=by exact⟨rfl,rfl,rfl,rfl⟩):QE X (.Call (.Attribute o "index" apos) [e] [] cpos) (l8 to te):=by
 refine⟨fun B σ F H env Q rp h pins s I=>?_⟩
 refine wpAny_Call_method m.base m.few m.line PySem.F.plainAttrs_list PySem.F.slot_list_index PySem.F.type_list_index (bH (ho B σ F H env _ rp h pins s I) fun u s1 hq0=>?_)
 obtain⟨x,H1,I1,rx,F1,d,r1,z1,d1,ds,e1,hds,q1⟩:=hq0
 subst e1
 simp only [Den] at d1
 obtain⟨p,vs,rfl,hq,dl⟩:=d1
 cases rx
 obtain⟨its0,_,⟨o0,n0,g0,c0,nd0,_⟩,_⟩:=I1.list (r1.fh.seq hq)
 refine⟨⟨o0,g0,c0⟩,fun b eb=>by cases eb;exact⟨o0,g0,nd0⟩,?_⟩
 rw [m.trees]
 refine Calls.callWith_builtin rfl (Calls.evalArgs_plain (Nq (bH (he B σ F1 H1 env _ r1 q1 pins s1 I1) fun iv s2 ⟨y,H2,I2,ry,F2,d',r2,z2,d2,hy,j,hj,hno,q2⟩=>Calls.spliced_nil ?_)))
 have hq2:=z2.seq hq
 have dl2:=aq.mono z2 _ _ dl
 obtain⟨its,rv,⟨⟨oc,od,odt,osl⟩,n,g,c,nd,dd⟩,hz⟩:=I2.list (r2.fh.seq hq2)
 replace c:oc=.type "list":=c
 replace dd:odt=.seq its.toArray n:=dd
 subst c dd
 have l1:=dl2.length
 have l2:=rv.length
 have at_:∀(k:Nat) (b:Bool),(ds[k]?.map fun d=>a6 d d')=some b→∃hk:k < its.length,jE its ds d' its[k]=b:=fun k b hb=>by
  obtain⟨w,hw,rfl⟩:=MZ.mp hb
  have hk:k < its.length:=by have:=(Mo.mp hw).1;omega
  exact⟨hk,pL I2 r2.fh (by omega) dl2 rv hw (Mq hk)⟩
 obtain⟨hjl,hit⟩:=at_ j true hj
 have hsz:(j:Int) < 2 ^ 63 - 1:=by
  have:j < sizeLine:=by omega
  rw [PySem.sizeLine_eq] at this;omega
 refine call_meets PySem.F.slot_list_index ⟨_,g,rfl⟩ PySem.F.entry_list_index (PySem.F.args_list_index_2 _ _) (SeqAt.list_indexAt p its.toArray n od osl iv (jE its ds d') j (by simpa using hjl) hsz (by simpa using hit) (fun k hk hkj=>by
  obtain⟨hkl,z⟩:=at_ k false (hno k hkj)
  simpa using z)) ⟨g,fun w hw=>tI I2 r2.fh _ (by simp only [units_in1];omega) hds hy dl2 rv d2 ry w (by simpa using hw),?_⟩
 exact⟨.int _,H2,I2.tok _,⟨_,rfl⟩,F2,_,r2,z1.trans z2,bo,q2⟩
end
end L2.L3
namespace L2.L3
open PySem PySem.Spec PyProof.Rows
end L2.L3
namespace L2.L3
open PySem PySem.Spec PyProof.Rows
section
variable {X:Cx} {a e:Expr} {es:List Expr} {ta te:TD} {ts:eQ} {p pos apos cpos:Pos}
def zi (neg:Bool) (i:Nat) (ta:TD):TB:=fun env Q=>ta env fun x=>∃kvs,env[i]?=some (some (.dic kvs))∧a7 x=true∧dep x≤8∧bZ kvs∧Q (if neg then !(kvs.any fun kv=>a6 kv.1 x) else kvs.any fun kv=>a6 kv.1 x)
theorem BA {x:Str} {px:Pos} (i:Nat) (hu:X.A.units + 64 < cLine) (ha:QE X a ta) (hN:X.N[i]?=some x:=by rfl) (hv:xA X.env.scope x:=by first | exact Or.inl rfl | exact Or.inr (Or.inl rfl) | exact Or.inr (Or.inr rfl)) (hd:(x == ("__debug__" : Str))=false:=by decide)
  (hcd:(x == ("__classdict__" : Str))=false:=by decide) (hm:behindInMarks .NotIn (.Name x px)=false:=by rfl):QT X (.Compare a [.NotIn] [.Name x px] pos) (zi true i ta):=by
 refine⟨fun B σ F H env Q rp h=>tU (pN (zZ hu) bh (eB hN hv hd hcd) hm) ?_⟩
 refine aA (ha B σ F H env _ rp h) fun y H1 hq0=>?_
 obtain⟨F1,d,r1,s1,d1,kvs,hx,l1,l2,ok,q1⟩:=hq0
 obtain⟨p,ep,us,vs,g1,g2,g3,g4,g5,g6⟩:=r1.mv i kvs hx
 exact⟨.ref p,g1,p,ep,F1,kvs,us,vs,d,rfl,r1.fh,ok,g5,g6,g2,l1,l2,d1,_,rfl,F1,r1,s1,q1⟩
theorem pW {K:PySem.W.Frag} {F:Hp}:∀(is:List Int) {us:List V},aq K F (is.map D.int) us→us=is.map V.int
 | [],us,h=>by simpa [aq] using h
 | i :: is,us,h=>by
  simp only [MQ,aq,Den] at h
  obtain⟨v,r,rfl,rfl,h2⟩:=h
  rw [pW is h2];rfl
end
section
variable {P:Program} {w:World} {K:PySem.W.Frag} {mg:Str→Option Value} {base:Heap}
end
end L2.L3
namespace L2.L3
open PySem PySem.Spec PyProof.Rows
def oJ (a:Addr):HO:=.ext fun h=>∃(r:Int) (t:Tok) (n:Nat),h.get? a=some { cls:=.type "list",data:=.seq #[.int r t] n }
def dE:PySem.W.Frag→Hp→Addr→Prop:=fun _ G a=>G a=some (oJ a)
theorem zJ {P:Program} {w:World} {H:Hp} {h:Heap} {a:Addr} {r:Int} {t:Tok} {n:Nat} (e:h.get? a=some { cls:=.type "list",data:=.seq #[.int r t] n }):bO P w H h a (oJ a):=by
 refine⟨⟨r,t,n,e⟩,⟨_,e⟩,?_⟩
 rintro h1 h2 ⟨r,t,n,e⟩ k
 exact⟨r,t,n,k _ e⟩
section
variable {X:Cx} {a b e:Expr} {ta te:TD} {pos:Pos}
theorem Cn {H:Hp} {p:Addr} {o:HO} (h:H p=some o):upd H p o=H:=by
 funext b
 by_cases e:b=p
 ·subst e;rw [aG,h]
 ·rw [aC e]
def qa (i:Nat) (te:TD):bB:=fun Z env=>te env fun x=>∃r:Int,x=.int r∧Z.nx (env.set i (some (.d (.obj dE))))
theorem yg {x:Str} {pos' pl:Pos} (i:Nat) (hN:X.N.Nodup) (he:QE X e te) (hi:X.N[i]?=some x:=by rfl) (hx:Loc X.env.scope x:=by first | exact Or.inl rfl | exact Or.inr rfl) (hs:swapsWith (.List [e] pl) (some (.Name x pos')) pos.line X.env=pure false:=by rfl)
  (hf:X.fn x=true∨X.env.scope.names.lookup x=some .local:=by first | exact .inl rfl | exact .inr rfl) (hst:starEach [e] X.env=(false,eval e X.env) :: starEach [] X.env:=by exact aT rfl):QS X (.Assign [.Name x pos'] (.List [e] pl) pos) (qa i te):=by
 refine⟨fun B σ F H env Z rp h pins s I=>?_⟩
 refine wpAny_Assign_Name ?_ hs
 refine wpAny_List_spliced (bH (cT bh gz hst pl pins s σ H (fun vs H1=>∃r,vs=[.int r]∧∃F1,Rep X.K B F1 H1 σ env∧Z.nx (env.set i (some (.d (.obj dE))))) I ?_) fun us s1 ⟨vs,H1,I1,rv,r,ev,F1,r1,q⟩=>?_)
 ·refine aA (he B σ F H env _ rp h) fun v H1 hq0=>?_
  obtain⟨F1,d,r1,s1,d1,r,ed,q⟩:=hq0
  subst ed
  simp only [Den] at d1
  subst d1
  exact⟨r,rfl,F1,r1,q⟩
 ·subst ev
  obtain⟨u,rfl,ru⟩:=rv.one
  obtain⟨t,rfl⟩:=ru
  refine⟨by show 1≤sizeLine;simp [PySem.sizeLine_eq],?_⟩
  have hfr:H1 s1.heap.objs.size=none:=I1.hok.fresh (Mx _)
  have I2:=I1.laid (a:=s1.heap.objs.size) (o:=oJ s1.heap.objs.size) (h':=s1.heap.push { cls:=.type "list",data:=.seq [Value.int r t].toArray }) (t':=s1.toks) (fun b u e=>Mz _ e) (Mx _) (zJ (r:=r) (t:=t) (n:=0) (MM _ rfl))
  refine j3 I2 hN hi hx (v:=.ref s1.heap.objs.size) rfl (fun s2 I3=>⟨_,_,I3,?_⟩) hf
  obtain⟨r2,s2'⟩:=r1.laid (o:=oJ s1.heap.objs.size) hfr
  refine⟨_,_,r2.set (i:=i) (x:=.obj dE) ?_ ?_,q⟩
  ·simp only [Den]
   exact⟨_,rfl,fun G sG=>sG _ _ aG⟩
  ·rw [I.len];exact (Mo.mp hi).1
def JD:R2:=fun x y H Q=>∃p,x=.ref p∧y=.int 0∧H p=some (oJ p)∧∀r:Int,Q (.int r) H
theorem Ak {pins:List (Addr×Obj)} {σ:St} {H:Hp} {s:Shared} {p:Addr} (I:Inv X pins σ H s) (h:H p=some (oJ p)):∃(r:Int) (t:Tok) (n:Nat),s.heap.get? p=some { cls:=.type "list",data:=.seq #[.int r t] n }:=(I.hok p _ h).1
theorem EB:BQ X JD:=by
 intro value slice pins s σ H x y v u Q I rx ry h hs
 obtain⟨p,rfl,rfl,hp,q⟩:=h
 cases rx
 obtain⟨t,rfl⟩:=ry
 obtain⟨r,t',n,e⟩:=Ak I hp
 have fin:EP X pins σ Q (.int r t') s:=⟨.int r,H,I,⟨_,rfl⟩,q r⟩
 exact item_listR ⟨_,e,rfl,n,rfl⟩ (by omega) (by simp) (by simp) fin hs
def Af (ta:TD):TD:=fun env Q=>ta env fun x=>x=.obj dE∧∀r:Int,Q (.int r)
theorem Dp {p1:Pos} {j1:_} (ha:QE X a ta) (hs:mj (.Constant (.int 0) j1 p1):=by intro _ _;rfl):QE X (.Subscript a (.Constant (.int 0) j1 p1) pos) (Af ta):=by
 refine⟨fun B σ F H env Q rp h=>bN (zp EB bh yU hs) ?_⟩
 refine aA (ha B σ F H env _ rp h) fun x H1 hq0=>?_
 obtain⟨F1,d,r1,s1,d1,ed,q⟩:=hq0
 subst ed
 simp only [Den] at d1
 obtain⟨p,rfl,hp⟩:=d1
 exact⟨p,rfl,rfl,r1.fh _ _ (hp F1 (ar.refl _)),fun r=>⟨F1,_,r1,s1,bo,q r⟩⟩
def Jp:V→V→V→Hp→(Hp→Prop)→Prop:=fun o i v H Q=>∃p r,o=.ref p∧i=.int 0∧v=.int r∧H p=some (oJ p)∧Q H
theorem BO:Hx X Jp:=by
 intro pins s σ H o i v ov iv u Q I ro ri rv h
 obtain⟨p,r,rfl,rfl,rfl,hp,q⟩:=h
 cases ro
 obtain⟨t,rfl⟩:=ri
 obtain⟨t2,rfl⟩:=rv
 obtain⟨r0,t0,n,e⟩:=Ak I hp
 have e2:(s.heap.update p (Obj.mapSeq (·.setIfInBounds 0 (.int r t2)))).get? p=some { cls:=.type "list",data:=.seq #[.int r t2] n }:=by
  rw [Heap.get?_update_self _ e (by rfl)];rfl
 have I':Inv X pins σ (upd H p (oJ p)) { s with heap:=s.heap.update p (Obj.mapSeq (·.setIfInBounds 0 (.int r t2))),toks:=s.toks } :=
  I.write (x:=p) (e:=p) (by rw [hp];trivial) (.inl rfl) (fun b u hb q=>(Heap.get?_update_other _ _ (Ne.symm hb)).trans q) ⟨_,e2⟩ (zJ e2)
 rw [Cn hp] at I'
 exact PySem.W.ki_setAt e (by omega) (by decide) (by simp) ⟨_,I',q⟩
def qR (ta te:TD):bB:=fun Z env=>te env fun y=>∃r:Int,y=.int r∧ta env fun x=>x=.obj dE∧Z.nx env
theorem y2 {p1 p2:Pos} {j1:_} (ha:QE X a ta) (he:QE X e te) (hs:swapsWithSole [.Subscript a (.Constant (.int 0) j1 p1) p2] e pos.line X.env=pure false:=by rfl) (hw:swappedStores [.Subscript a (.Constant (.int 0) j1 p1) p2] e X.env=pure none:=by rfl)
  (h1:(assignEach [.Subscript a (.Constant (.int 0) j1 p1) p2] X.env).map (·.2)=[assign (.Subscript a (.Constant (.int 0) j1 p1) p2) X.env]:=by rfl)
  (hg:∀v,assign (.Subscript a (.Constant (.int 0) j1 p1) p2) X.env v=(do
   let ov ← holding [v] (eval a X.env)
   let iv ← holding [v,ov] (eval (.Constant (.int 0) j1 p1) X.env)
   standAt p2
   holding [v,ov,iv] (setItem ov iv v)
   release [v,ov,iv] []):=by intro _;rfl):QS X (.Assign [.Subscript a (.Constant (.int 0) j1 p1) p2] e pos) (qR ta te):=by
 refine⟨fun B σ F H env Z rp h=>?_⟩
 refine dG (zh bh (Dd bh yU BO hg) hs hw h1) ?_
 refine aA (he B σ F H env _ rp h) fun y H1 hq0=>?_
 obtain⟨F1,d,r1,s1,d1,r,ed,q1⟩:=hq0
 subst ed
 simp only [Den] at d1
 subst d1
 refine aA (ha B σ F1 H1 env _ r1 q1) fun x H2 hq0=>?_
 obtain⟨F2,d2,r2,s2,dd2,ed,q2⟩:=hq0
 subst ed
 simp only [Den] at dd2
 obtain⟨p,rfl,hp⟩:=dd2
 exact⟨p,r,rfl,rfl,rfl,r2.fh _ _ (hp F2 (ar.refl _)),F2,env,r2,q2⟩
end
end L2.L3
namespace L2.L3
open PySem PySem.Spec PyProof.Rows
theorem Fb {prog:Program} {w:World} {A:Around} {E:Value→Shared→Prop} {s:Shared} {value slice:Expr} {o i:Value} {T id:String} {Q:Value→Shared→Prop}
  (hT:s.TypeIs o T) (hl:typeLookup (.type T) "__getitem__" = pure (some (.builtin id))) (hs:subscripted slice false o i=operate [o,i] (getItem o i)) (h:wpAny (model prog w) A (getItem o i) Q E s) :
  wpAny (model prog w) A (subscriptTail value slice o i) Q E s:=by
 unfold subscriptTail
 refine Mn ?_
 rw [getitemInPython_of_ne hT.not_modules]
 refine Mn (wpAny_specialOf hT hl ?_)
 have fin:wpAny (model prog w) A (subscripted slice false o i) (fun r s₃=>wpAny (model prog w) A (letTemporaryGo value o r >>= fun _=>pure r) Q E s₃) E s:=by
  rw [hs]
  exact wpAny_operating (MO h (fun r s₃ h₃=>Mn (wpAny_letTemporaryGo (Mr h₃))) fun _ _ x=>x)
 first
  | exact Mr (Mn fin)
  | exact Mn (Mr (Mn fin))
  | exact Mn fin
section
variable {X:Cx} {a b:Expr} {ta tb:TD} {pos:Pos}
def GF (X:Cx):R2:=fun x y H Q=>∃p ep F kvs us vs d z,x=.ref p∧ar F H∧bZ kvs∧aq X.K F (kvs.map (·.1)) us∧aq X.K F (kvs.map (·.2)) vs∧H p=some (cD p ep (bz kvs us vs)) ∧
 a7 d=true∧dep d≤8∧Den X.K F d y∧iC kvs d=some z∧∀w,Den X.K F z w→Q w H
theorem Et (hu:X.A.units + 64 < cLine):BQ X (GF X):=by
 intro value slice pins s σ H x y v u Q I rx ry h hs
 obtain⟨p,ep,F,kvs,us,vs,d,z,rfl,fh,ok,d1,d2,e,hk,hd,dd,hz,q⟩:=h
 cases rx
 obtain⟨_,_,es,dh,_⟩:=iu I e
 exact Fb dh.typeIs PySem.F.slot_dict_getitem.lookup hs (Cm (by omega) I fh ok d1 d2 e hk hd dd ry hz fun w' u' s3 I3 dw rw'=>⟨w',H,I3,rw',q w' dw⟩)
def GA (x y:D) (Q:D→Prop):Prop:=J1 x y Q∨bP x y Q
theorem Ig:sj X (fun x y H Q=>GF X x y H Q∨Lz X.K x y H Q) GA:=by
 intro B σ F H env Q d d' x y Z rp h1 h2 hz hf
 rcases hf with hf | hf
 ·obtain⟨kvs,v,rfl,hk,hd,ok,hv,q⟩:=hf
  simp only [Den] at h1
  obtain⟨p,rfl,hp⟩:=h1
  obtain⟨ep,us,vs,hg,g1,g2⟩:=hp F (ar.refl _)
  exact .inl ⟨p,ep,F,kvs,us,vs,d',v,rfl,rp.fh,ok,g1,g2,rp.fh _ _ hg,hk,hd,h2,hv,fun w dw=>hz w H F v rp (ar.refl _) dw q⟩
 ·exact .inr (FY B σ F H env Q d d' x y Z rp h1 h2 hz hf)
theorem t9 (hu:X.A.units + 64 < cLine) (ha:QE X a ta) (hb:QE X b tb) (hs:mj b):QE X (.Subscript a b pos) (aB GA ta tb):=⟨fun B σ F H env Q rp h=>bN (zp ((Et hu).or B6) bh bh hs) (two Ig ha hb rp Kh h)⟩
end
end L2.L3
namespace L2.L3
open PySem PySem.Spec PyProof.Rows
section
variable {X:Cx} {a b:Expr} {ta tb:TD} {p pos:Pos}
theorem Rep.sL {K:PySem.W.Frag} {B:Base} {F H:Hp} {σ:St} {e:En} (r:Rep K B F H σ e) {i:Nat} {p:Addr} (ep:Nat) {kvs:List (D×D)} {us vs:List V} (h:H p=none) (hl:i < σ.length) (hd1:aq K F (kvs.map (·.1)) us) (hd2:aq K F (kvs.map (·.2)) vs) :
  Rep K B F (upd H p (cD p ep (bz kvs us vs))) (σ.set i (some (.ref p))) (e.set i (some (.dic kvs))):=by
 have r1:=r.loose (o:=cD p ep (bz kvs us vs)) h
 have hb:B.H p=none:=r.h0.free h
 have old:∀(j:Nat) (ys:List (D×D)),e[j]?=some (some (.dic ys))→σ[j]?≠some (some (.ref p)):=fun j ys q z=>by
  obtain⟨q1,_,_,_,h1,h2,_⟩:=r.mv j ys q
  rw [z] at h1;cases h1;rw [h] at h2;cases h2
 refine⟨r1.f0,r1.fh,r1.h0,r1.nf,fun j y q=>?_,fun j y q=>?_,fun j k ys zs q hjk q1 q2 q3 q4=>?_,fun j y q=>?_,fun j k ys zs q hjk q1 q2 q3 q4=>?_⟩
 ·have z:=mL (fun _ w=>by cases w) q
  rw [Mp z] at q ⊢;exact r1.dv j y q
 ·have z:=aZ (fun _ w=>by cases w) q
  rw [Mp z] at q ⊢;exact r1.ov j y q
 ·have z1:=aZ (fun _ w=>by cases w) q1
  have z2:=aZ (fun _ w=>by cases w) q2
  rw [Mp z1] at q1 q3
  rw [Mp z2] at q2 q4
  exact r.ne j k ys zs q hjk q1 q2 q3 q4
 ·by_cases z:i=j
  ·subst z
   by_cases w:i < e.length
   ·rw [Mv w] at q
    cases q
    exact⟨p,ep,us,vs,Mv hl,aG,r.oE h,hb,hd1,hd2⟩
   ·rw [MF (by simpa using w)] at q;cases q
  ·rw [Mp z] at q ⊢;exact r1.mv j y q
 ·by_cases z1:i=j
  ·subst z1
   rw [Mp hjk] at q2 q4
   rw [Mv hl] at q3
   cases q3
   exact old k zs q2 q4
  ·rw [Mp z1] at q1 q3
   by_cases z2:i=k
   ·subst z2
    rw [Mv hl] at q4
    cases q4
    exact old j ys q1 q3
   ·rw [Mp z2] at q2 q4
    exact r.nm j k ys zs q hjk q1 q2 q3 q4
end
end L2.L3
namespace L2.L3
open PySem PySem.Spec PyProof.Rows
def tu:Option Int→Value→Bool
 | some i,v=>Value.isInt i v
 | none,.none=>true
 | none,_=>false
theorem dO {k:Option Int} {v:Value} (h:tu k v=true):(∃i t,k=some i∧v=.int i t)∨(k=none∧v=.none):=by
 cases k with
 | some i =>
  left
  have h':Value.isInt i v=true:=h
  cases v with
  | int a t =>
   have:a=i:=by simp only [Value.isInt,beq_iff_eq] at h';first | exact h' | exact h'.symm
   subst this;exact⟨a,t,rfl,rfl⟩
  | _=>simp [Value.isInt] at h'
 | none =>
  right
  cases v <;> first | exact⟨rfl,rfl⟩ | (simp [tu] at h)
def GK:Option Int→Int
 | some i=>hashInt i
 | none=>4238894112
theorem Bf {prog:Program} {w:World} {A:Around} {E:Value→Shared→Prop} {s:Shared} {Q:Int→Shared→Prop} (h:Q 4238894112 { s with toks:=s.toks + 1 }):wpAny (model prog w) A (pyHash .none) Q E s:=by
 have hT:s.TypeIs .none "NoneType":=rfl
 unfold PySem.pyHash
 first | unfold pyHashByItsType | skip
 refine Mn (wpAny_cRoomFor_or (.inl rfl) ?_)
 refine Mn (wpAny_specialOf hT PySem.F.slot_NoneType_hash.lookup ?_)
 show wpAny _ _ (if (some (Value.builtin "NoneType.__hash__") == some Value.none)=true then _ else _) Q E s
 rw [Ms (by rw [beq_builtin_none];exact Bool.false_ne_true)]
 refine Mn (wpAny_specialOf hT PySem.F.slot_NoneType_hash.lookup ?_)
 show wpAny _ _ (callSpecialIfBoundUnlessNone? .none "__hash__" _ >>= _) Q E s
 refine Mn (wpAny_callSpecialIfBoundUnlessNone?_slot hT PySem.F.slot_NoneType_hash (wpAny_call_entry PySem.F.slot_NoneType_hash hT PySem.F.entry_NoneType_hash ?_ (PySem.F.args_NoneType_hash_1 _)))
 show wpAny _ _ (retInt 4238894112) _ _ _
 refine wpAny_ret_mkInt ?_
 exact Mr h
theorem FZ {prog:Program} {w:World} {A:Around} {E:Value→Shared→Prop} {s:Shared} {Q:Bool→Shared→Prop} {u v:Value} (hne:u≠v) (k:SeqAt.RcAt A s u v false) (nf:∀b t,u≠.float b t) (hq:Q false s):wpAny (model prog w) A (eqBool u v) Q E s:=by
 unfold eqBool
 refine wpAny_holding ?_
 refine wpAny_ite_split (fun hab=>absurd (eq_of_beq hab) hne) (fun _=>?_)
 cases u <;> cases v <;> first | exact absurd rfl (nf _ _) | exact Mn (k prog w E _ (wpAny_truthy_bool hq))
def optKind (prog:Program) (w:World):KeyKind prog w (Option Int) where
 is:=tu
 hash:=GK
 inj:=fun v a b h1 h2=>by
  rcases dO h1 with ⟨i,t,rfl,e⟩ | ⟨rfl,e⟩ <;> rcases dO h2 with ⟨j,t',rfl,e'⟩ | ⟨rfl,e'⟩
  ·rw [e] at e';cases e';rfl
  ·rw [e] at e';cases e'
  ·rw [e] at e';cases e'
  ·rfl
 byValue:=fun k v h=>by
  rcases dO h with ⟨i,t,rfl,rfl⟩ | ⟨rfl,rfl⟩ <;> rfl
 pyHash:=fun {A E s k v Q} h q=>by
  rcases dO h with ⟨i,t,rfl,rfl⟩ | ⟨rfl,rfl⟩
  ·exact (intKind prog w).pyHash (k:=i) (intKind_is prog w i t) q
  ·exact Bf q
 eqBool:=fun {A E s a b u v Q} h1 h2 q=>by
  rcases dO h1 with ⟨i,t,rfl,rfl⟩ | ⟨rfl,rfl⟩ <;> rcases dO h2 with ⟨j,t',rfl,rfl⟩ | ⟨rfl,rfl⟩
  ·refine (intKind prog w).eqBool (intKind_is prog w i t) (intKind_is prog w j t') ?_
   have:decide ((some i:Option Int)=some j)=decide (i=j):=by rw [Bool.eq_iff_iff];simp
   rw [this] at q;exact q
  ·exact FZ (by intro z;cases z) (SeqAt.RcAt.int_none i t) (by intro _ _ z;cases z) (by simpa using q)
  ·exact FZ (by intro z;cases z) (SeqAt.RcAt.none_int j t') (by intro _ _ z;cases z) (by simpa using q)
  ·exact SeqAt.EqAt.same _ prog w E Q (by simpa using q)
 «strs»:=fun k x t v h=>by
  rcases dO h with ⟨i,t',rfl,e⟩ | ⟨rfl,e⟩ <;> cases e
end L2.L3
namespace L2.L3
open PySem PySem.Spec PyProof.Rows
def A2:Option Int→V
 | some i=>.int i
 | none=>.non
def xK (kvs:List (Option Int×V)):List (Int×V×V):=kvs.map fun kv=>(GK kv.1,A2 kv.1,kv.2)
theorem Fx {k:Option Int} {u:Value} (r:RelV (A2 k) u):tu k u=true:=by
 cases k with
 | some i=>obtain⟨t,rfl⟩:=r;simp [tu,Value.isInt]
 | none=>cases r;rfl
theorem Fz {k:Option Int} {u:Value} (h:tu k u=true):RelV (A2 k) u:=by
 rcases dO h with ⟨i,t,rfl,rfl⟩ | ⟨rfl,rfl⟩
 ·exact⟨t,rfl⟩
 ·rfl
abbrev KO:List (Option Int×V)→List (Option Int×Value)→Prop:=Paired fun p q=>p.1=q.1∧RelV p.2 q.2
theorem xZ {P:Program} {w:World}:∀{kvs:List (Option Int×V)} {ws:List (Value×Value)},VV (kvs.map fun kv=>(A2 kv.1,kv.2)) ws→∃rs,Carries (optKind P w) ws rs∧KO kvs rs
 | [],_,r=>by rw [List.map_nil] at r;cases r;exact⟨[],True.intro,.nil⟩
 | p :: kvs,_,r=>by
  rw [MQ] at r
  cases r with
  | @cons a b as bs h t =>
   obtain⟨rs,c,q⟩:=xZ (P:=P) (w:=w) t
   obtain⟨b1,b2⟩:=b
   exact⟨(p.1,b2) :: rs,⟨Fx h.1,rfl,c⟩,.cons ⟨rfl,h.2⟩ q⟩
theorem Fs {kvs:List (Option Int×V)} {rs:List (Option Int×Value)} (h:KO kvs rs):rs.map (·.1)=kvs.map (·.1):=by
 unfold KO at h
 induction h with
 | nil=>rfl
 | cons h t ih=>rw [MQ,MQ,ih,h.1]
theorem si {P:Program} {w:World} {es:List DictEntry} (hk:∀e∈es,∃k,(optKind P w).is k e.key=true∧e.hash=(optKind P w).hash k):∀{kvs:List (Option Int×V)} {rs:List (Option Int×Value)},KO kvs rs→Pairs (optKind P w) es rs→Paired yM (xK kvs) es:=by
 intro kvs rs r
 unfold KO at r
 induction r generalizing es with
 | nil=>intro p;cases p;exact .nil
 | @cons x y xs ys h t ih =>
  intro p
  cases p with
  | @cons e _ es' _ h1 h2 h3 =>
   obtain⟨k,k1,k2⟩:=hk e MN
   have ek:k=y.1:=(optKind P w).inj _ _ _ k1 h1
   subst ek
   refine .cons ⟨?_,?_,?_⟩ (ih (fun e he=>hk e (ME _ he)) h3)
   ·show e.hash=GK x.1
    rw [h.1];exact k2
   ·show RelV (A2 x.1) e.key
    rw [h.1];exact Fz h1
   ·rw [h2];exact h.2
def Ih (trs:List (TE×TE)):TE:=fun σ H Q=>∀p,H p=none→lK trs σ (upd H p (cD p 0 [])) fun ps H2=>H2 p=some (cD p 0 [])∧∃kvs:List (Option Int×V),ps=kvs.map (fun kv=>(A2 kv.1,kv.2))∧(kvs.map (·.1)).Nodup∧kvs.length≤15∧∀ep,Q (.ref p) (upd H2 p (cD p ep (xK kvs)))
theorem DH {X:Cx} {pos:Pos} {keys:List (Option Expr)} {values:List Expr} {trs:List (TE×TE)} (h:Jl X pos keys values trs) (hall:keys.all (·.isSome)=true) (hl:keys.length=values.length) (h0:keys≠[])
  (h15:keys.length≤15):PE X (.Dict keys values pos) (Ih trs):=by
 intro pins s σ H Q I q
 have hn:=I.hok.fresh (Mx s.heap.objs.size)
 have I1:=I.laid (a:=s.heap.objs.size) (o:=cD s.heap.objs.size 0 []) (h':=s.heap.push { cls:=.type "dict",data:=.dict #[] }) (t':=s.toks) (fun _ _ q=>Mz _ q) (Mx _) (nS s.heap I.big)
 refine wpAny_Dict_walk (knd:=optKind X.prog X.w) hall hl h0 h15 (bH (h pins _ σ _ _ I1 (q _ hn)) fun ws s2 hq0=>?_)
 obtain⟨ps,H2,I2,rel,e,kvs,ep,nd,lk,q2⟩:=hq0
 subst ep
 obtain⟨rs,cr,ko⟩:=xZ (P:=X.prog) (w:=X.w) rel
 obtain⟨hz,hs,es,⟨o,g,c,dd⟩,pr⟩:=iu I2 e
 have es0:es=#[]:=by
  have:=Paired.length pr
  apply Array.eq_empty_of_size_eq_zero
  simpa using this.symm
 subst es0
 refine⟨rs,cr,⟨o,#[],0,g,c,dd,fun e he=>by simp at he,.nil,by simp⟩,fun h' dh sb=>?_⟩
 have nk:(rs.map (·.1)).Nodup:=by rw [Fs ko];exact nd
 rw [merged_nil_of_nodup rs nk] at dh
 obtain⟨o2,es2,ep2,g2,c2,dd2,kk2,pp2,_⟩:=dh
 have pr2:=si (fun e he=>kk2 e (by simpa using he)) ko pp2
 refine⟨.ref s.heap.objs.size,_,kC (ob:=cD s.heap.objs.size ep2 (xK kvs)) I2 (by rw [e];exact True.intro) sb ⟨o2,g2⟩ ⟨⟨by unfold xK;rw [MB,PySem.sizeLine_eq];omega,hs,es2,⟨o2,g2,c2,dd2⟩,pr2⟩,⟨o2,g2⟩,?_⟩,rfl,q2 ep2⟩
 rintro h1 h2 ⟨z,hs,es,⟨o,ho,c,dd⟩,pr⟩ k
 exact⟨z,hs,es,⟨o,k _ ho,c,dd⟩,pr⟩
end L2.L3
namespace L2.L3
open PySem PySem.Spec PyProof.Rows
section
variable {X:Cx} {a b b' e:Expr} {ta tb tb' te:TD} {p pos:Pos}
def vC (i:Nat) (tk tv tw:TD):bB:=fun Z env=>tk env fun k=>∃n:Int,k=.int n∧tv env fun v=>tw env fun w=>Z.nx (env.set i (some (.dic [(.int n,v),(.non,w)])))
theorem Bm {x:Str} {pos' pd pn:Pos} {jn} (i:Nat) (hN:X.N.Nodup) (ha:QE X a ta) (hb:QE X b tb) (hb':QE X b' tb') (hi:X.N[i]?=some x:=by rfl) (hx:Loc X.env.scope x:=by first | exact Or.inl rfl | exact Or.inr rfl)
  (hs:swapsWith (.Dict [some a,some (.Constant .none jn pn)] [b,b'] pd) (some (.Name x pos')) pos.line X.env=pure false:=by rfl)
  (hf:X.fn x=true∨X.env.scope.names.lookup x=some .local:=by first | exact .inl rfl | exact .inr rfl):QS X (.Assign [.Name x pos'] (.Dict [some a,some (.Constant .none jn pn)] [b,b'] pd) pos) (vC i ta tb tb'):=by
 refine⟨fun B σ F H env Z rp h pins s I=>?_⟩
 have hl:i < σ.length:=by rw [I.len];exact (Mo.mp hi).1
 refine oq (i:=i) hN hi hx (DH (qO bh bh (qO Bu bh zz)) rfl rfl (by simp) (by simp)) hs hf pins s σ H _ I fun p hp=>?_
 have hb0:B.H p=none:=rp.h0.free hp
 refine aA (ha (B.guard p (cD p 0 [])) σ F (upd H p (cD p 0 [])) env _ (rp.guarded hp) h) fun k H1 hq0=>?_
 obtain⟨F1,d1,r1,s1,e1,n,ed,q1⟩:=hq0
 subst ed
 simp only [Den] at e1
 subst e1
 refine aA (hb _ σ F1 H1 env _ r1 q1) fun v H2 hq0=>?_
 obtain⟨F2,d2,r2,s2,e2,q2⟩:=hq0
 refine aA (hb' _ σ F2 H2 env _ r2 q2) fun w H3 hq0=>?_
 obtain⟨F3,d3,r3,s3,e3,q3⟩:=hq0
 obtain⟨r4,hp2,hf2⟩:=r3.pK hb0
 refine⟨hp2,[(some n,v),(none,w)],rfl,by simp,by simp,fun ep=>?_⟩
 have h0:(fun b=>if b=p then none else H3 b) p=none:=Mw rfl
 have ee:upd H3 p (cD p ep (xK [(some n,v),(none,w)]))=upd (fun b=>if b=p then none else H3 b) p (cD p ep (bz [(D.int n,d2),(D.non,d3)] [V.int n,V.non] [v,w])):=by
  funext b
  by_cases z:b=p
  ·subst z;rw [aG,aG];rfl
  ·rw [aC z,aC z,Ms z]
 have r5:Rep X.K B F3 (fun b=>if b=p then none else H3 b) σ env:=by
  refine⟨r4.f0,fun b o z=>?_,fun b o z=>?_,r4.nf,r4.dv,fun j xs hj=>?_,r4.ne,fun j xs hj=>?_,r4.nm⟩
  ·have:b≠p:=fun w=>by subst w;rw [hf2] at z;cases z
   rw [Ms this];exact r4.fh _ _ z
  ·have:b≠p:=fun w=>by subst w;rw [hb0] at z;cases z
   rw [Ms this];exact r4.h0 _ _ z
  ·obtain⟨p2,us,g1,g2,g3,g4,g5⟩:=r4.ov j xs hj
   have:p2≠p:=fun w=>by subst w;rw [hp2] at g2;cases g2
   exact⟨p2,us,g1,by rw [Ms this];exact g2,g3,g4,g5⟩
  ·obtain⟨p2,ep,us,vs,g1,g2,g3,g4,g5,g6⟩:=r4.mv j xs hj
   obtain⟨p3,_,_,_,k1,_,_,k4,_,_⟩:=r3.mv j xs hj
   have e3:p3=p2:=by rw [k1] at g1;cases g1;rfl
   subst e3
   have:p3≠p:=fun w=>by subst w;rw [show (B.guard p3 (cD p3 0 [])).H p3=some (cD p3 0 []) from aG] at k4;cases k4
   exact⟨p3,ep,us,vs,g1,by rw [Ms this];exact g2,g3,g4,g5,g6⟩
 rw [ee]
 exact⟨F3,_,r5.sL (i:=i) ep h0 hl (aO bo (aO jd aU)) (aO (Den.mono s3 _ _ e2) (aO e3 aU)),q3⟩
theorem EF:LP X .Add (fun x y H Q=>∃i j,x=.int i∧y=.int j∧Q (.int (i + j)) H):=by
 intro pins s σ H x y v u Q I rx ry h
 obtain⟨i,j,rfl,rfl,q⟩:=h
 obtain⟨t,rfl⟩:=rx
 obtain⟨t',rfl⟩:=ry
 exact iadd_int ⟨.int _,H,I.tok _,⟨_,rfl⟩,q⟩
def Dx (i:Nat) (te:TD):bB:=fun Z env=>∃x:Int,env[i]?=some (some (.d (.int x)))∧te env fun y=>∃z:Int,y=.int z∧Z.nx (env.set i (some (.d (.int (x + z)))))
theorem ES {x:Str} {pos':Pos} (i:Nat) (nd:X.N.Nodup) (he:QE X e te) (hi:X.N[i]?=some x:=by rfl) (hx:Loc X.env.scope x:=by first | exact Or.inl rfl | exact Or.inr rfl) (hf:X.fn x=true∨X.env.scope.names.lookup x=some .local:=by first | exact .inl rfl | exact .inr rfl) :
  QS X (.AugAssign (.Name x pos') .Add e pos) (Dx i te):=by
 refine⟨fun B σ F H env D rp h pins s I=>?_⟩
 refine HN (i:=i) nd hi hx bh EF hf pins s σ H _ I ?_
 obtain⟨d,hd,h⟩:=h
 obtain⟨v,hv,dv⟩:=rp.dv i _ hd
 refine⟨v,hv,aA (he B σ F H env _ rp h) fun y H1 ⟨F1,d',r1,s1,d1,z,ez,q1⟩=>?_⟩
 subst ez
 simp only [Den] at dv d1
 subst dv d1
 refine⟨_,_,rfl,rfl,F1,_,r1.set bo ?_,q1⟩
 rw [I.len];exact (Mo.mp hi).1
end
end L2.L3
namespace L2.L3
open PySem PySem.Spec PyProof.Rows
section
variable {X:Cx} {pins:List (Addr×Obj)} {σ:St} {H F:Hp} {s:Shared} {kvs:List (D×D)} {us vs:List V} {p:Addr} {A:Around} {d x:D} {v w:V} {u r:Value}
theorem G9 (hu:A.units + 9 < cLine) (I:Inv X pins σ H s) (fh:ar F H) (ok:bZ kvs) (d1:aq X.K F (kvs.map (·.1)) us) (d2:aq X.K F (kvs.map (·.2)) vs) {ep:Nat} (e:H p=some (cD p ep (bz kvs us vs)))
  (hk:a7 d=true) (hd:dep d≤8) (dd:Den X.K F d v) (rv:RelV v u) (dx:Den X.K F x w) (rw':RelV w r) (hl:kvs.length < sizeLine) {E:Value→Shared→Prop} {Q:Unit→Shared→Prop}
  (h:∀ep' us' vs' s',aq X.K F ((putN kvs d x).map (·.1)) us'→aq X.K F ((putN kvs d x).map (·.2)) vs'→Inv X pins σ (upd H p (cD p ep' (bz (putN kvs d x) us' vs'))) s'→Q () s'):wpAny (model X.prog X.w) A (dictSet p u r) Q E s:=by
 obtain⟨hz,hs,es,dh,pr⟩:=iu I e
 have lp:=Paired.length pr
 have l0:=cj d1 d2
 rw [l0] at lp hz
 have lp':kvs.length=es.size:=by simpa using lp
 have l1:=d1.length
 have l2:=d2.length
 simp only [MB] at l1 l2
 have ext:∀(ep':Nat) (rows:List (Int×V×V)) (h':Heap) (es':Array DictEntry),rows.length≤sizeLine→bJ h' p es' ep'→Paired yM rows es'.toList→bO X.prog X.w (upd H p (cD p ep' rows)) h' p (cD p ep' rows):=fun ep' rows h' es' z dh' pr'=>by
  refine⟨⟨z,hs,es',dh',pr'⟩,?_,?_⟩
  ·obtain⟨o,ho,_⟩:=dh';exact⟨o,ho⟩
  ·rintro h1 h2 ⟨z,hs,es,⟨o,ho,c,dd⟩,pr⟩ k
   exact⟨z,hs,es,⟨o,k _ ho,c,dd⟩,pr⟩
 have hash:=jO fh d s A v u I hk (by omega) dd rv
 have find:=pU (I.tok (s.toks + Ef d)) fh ok d1 d2 pr hk hd (A:=A) (by omega) dd rv
 refine xu hash find dh (by omega) (fun hno h' dh' sb=>?_) fun j hj hm h' dh' sb=>?_
 ·have any:(kvs.any fun kv=>a6 kv.1 d)=false:=by
   rw [List.any_eq_false]
   intro kv hm
   obtain⟨j,hj⟩:=M0 hm
   have:=hno j (by have:=(Mo.mp hj).1;omega)
   unfold sq at this
   rw [hj] at this
   simpa using this
  have pe:putN kvs d x=kvs ++ [(d,x)]:=by unfold putN;rw [any];rfl
  have q1:aq X.K F ((putN kvs d x).map (·.1)) (us ++ [v]):=by rw [pe,List.map_append];exact d1.append (aO dd aU)
  have q2:aq X.K F ((putN kvs d x).map (·.2)) (vs ++ [w]):=by rw [pe,List.map_append];exact d2.append (aO dx aU)
  refine h _ _ _ _ q1 q2 (kC I (by rw [e];exact True.intro) sb (let ⟨o,ho,_⟩:=dh';⟨o,ho⟩) (ext _ _ h' _ ?_ dh' ?_))
  ·rw [cj q1 q2,pe];simp;omega
  ·refine iN (by rw [cj q1 q2,pe];simp;omega) fun i row en h1 h2=>?_
   obtain⟨kv,k1,k2,k3,k4⟩:=eJ h1
   rw [pe] at k1
   simp only [Array.toList_push] at h2
   by_cases c:i < kvs.length
   ·rw [MJ c] at k1
    rw [MJ (by omega)] at k3 k4
    rw [MJ (by simp;omega)] at h2
    obtain⟨row',g1,g2⟩:=fN pr h2
    obtain⟨kv',f1,f2,f3,f4⟩:=eJ g1
    rw [f1] at k1;cases k1
    rw [f3] at k3
    rw [f4] at k4
    have:row'=row:=Prod.ext (by rw [f2,k2]) (Prod.ext (My k3) (My k4))
    rw [← this];exact g2
   ·have hi:i=kvs.length:=by
     have:=(Mo.mp k1).1
     simp at this;omega
    rw [hi,MH (Mx _),Nat.sub_self] at k1
    rw [show i=us.length by omega,MH (Mx _),Nat.sub_self] at k3
    rw [show i=vs.length by omega,MH (Mx _),Nat.sub_self] at k4
    rw [show i=es.toList.length by simp;omega,MH (Mx _),Nat.sub_self] at h2
    cases k1;cases h2
    have a3:v=row.2.1:=My k3
    have a4:w=row.2.2:=My k4
    exact⟨k2.symm,by rw [← a3];exact rv,by rw [← a4];exact rw'⟩
 ·obtain⟨kv,a,b,g0,g1,g2,da,db,e1,e2,e3⟩:=uz d1 d2 pr hj
  unfold sq at hm
  rw [g0] at hm
  have any:(kvs.any fun kv=>a6 kv.1 d)=true:=List.any_eq_true.mpr ⟨kv,MA g0,hm⟩
  have pe:putN kvs d x=kvs.set j (kv.1,x):=by unfold putN;rw [any,Mw rfl];exact zy ok hk g0 hm
  have q1:aq X.K F ((putN kvs d x).map (·.1)) us:=by rw [pe,oP g0];exact d1
  have q2:aq X.K F ((putN kvs d x).map (·.2)) (vs.set j w):=by rw [pe,oO];exact aq.set dx j d2
  refine h _ _ _ _ q1 q2 (kC I (by rw [e];exact True.intro) sb (let ⟨o,ho,_⟩:=dh';⟨o,ho⟩) (ext _ _ h' _ ?_ dh' ?_))
  ·rw [cj q1 q2,pe];simp;omega
  ·refine iN (by rw [cj q1 q2,pe];simp;omega) fun i row en h1 h2=>?_
   obtain⟨kw,k1,k2,k3,k4⟩:=eJ h1
   rw [pe] at k1
   rw [Array.getElem?_toList,Array.getElem?_modify] at h2
   by_cases c:j=i
   ·subst c
    rw [Mw rfl,Array.getElem?_eq_getElem hj] at h2
    rw [Mv (by omega)] at k1 k4
    cases k1;cases h2
    rw [g1] at k3
    have a3:a=row.2.1:=My k3
    have a4:w=row.2.2:=My k4
    exact⟨by rw [k2];exact e1,by rw [← a3];exact e2,by rw [← a4];exact rw'⟩
   ·rw [Ms c,← Array.getElem?_toList] at h2
    rw [Mp c] at k1 k4
    obtain⟨row',f0,f1⟩:=fN pr h2
    obtain⟨kv',t1,t2,t3,t4⟩:=eJ f0
    rw [t1] at k1;cases k1
    rw [t3] at k3
    rw [t4] at k4
    have:row'=row:=Prod.ext (by rw [t2,k2]) (Prod.ext (My k3) (My k4))
    rw [← this];exact f1
end
section
variable {prog:Program} {w:World} {A:Around} {R:Result→Shared→Prop} {s:Shared}
theorem r9 {kx vx target iter:Expr} {ifs:List Expr} {scope:Scope} {pos:Pos} {it:Value} {D:Addr} {env:Env} (I:Nat→Shared→Prop)
  (turn:∀n s,I n s→wpAny (model prog w) A (pyNext it) (fun r s₁=>match r with
   | none=>R (.ok .next) s₁
   | some v=>wpAny (model prog w) A (letOwnedTupleGo target it v) (fun _ s₁'=>wpAny (model prog w) A (assign target env v) (fun _ s₂ =>
     wpAny (model prog w) A (forIn ifs true fun c r=>if r=true then do let ok ← isTrue c env (eval c env);pure (ForInStep.yield ok) else pure (ForInStep.yield r)) (fun ok s₃ =>
      if ok=true then wpAny (model prog w) A (eval kx env) (fun kv s₄=>wpAny (model prog w) A (eval vx env) (fun vv s₅ =>
       wpAny (model prog w) A (dictSet D kv vv) (fun _ s₆=>∃m,m < n∧I m s₆) (fun _ _=>False) s₅) (fun _ _=>False) s₄) (fun _ _=>False) s₃
      else ∃m,m < n∧I m s₃) (fun _ _=>False) s₂) (fun _ _=>False) s₁') (fun _ _=>False) s₁) (fun _ _=>False) s)
  (n:Nat) (h:I n s) :
  codeAny (model prog w) A (.compLoop (.DictComp kx vx [⟨target,iter,ifs,0⟩] scope pos) 0 it (.ref D) env) R s:=by
 refine codeAny_loop rfl I (fun n s hI=>?_) n h
 show wpAny _ A ((compTurn (.DictComp kx vx [⟨target,iter,ifs,0⟩] scope pos) 0 it (.ref D) env).onRaise (fun x=>do noteFrame x env;theTreesLotGoes x)) _ _ s
 refine wpAny_noted ?_
 rw [compTurn_dict]
 refine Mn (wpAny_standAt (Mn (MO (turn n s hI) (fun r s₁ h₁=>?_) fun _ _ h'=>h'.elim)))
 cases r with
 | none=>exact Mr h₁
 | some v =>
  refine Mn (MO h₁ (fun _ s₁' h₁'=>?_) fun _ _ h'=>h'.elim)
  refine Mn (MO h₁' (fun _ s₂ h₂=>Mn (MO h₂ (fun ok s₃ h₃=>?_) fun _ _ h'=>h'.elim)) fun _ _ h'=>h'.elim)
  cases ok with
  | false=>exact Mr ⟨rfl,h₃⟩
  | true =>
   exact Mn (Mn (MO h₃ (fun kv s₄ h₄=>Mn (wpAny_holding (MO h₄ (fun vv s₅ h₅=>Mn (wpAny_standAt (wpAny_holding (MO h₅ (fun _ s₆ h₆=>Mr ⟨rfl,h₆⟩) fun _ _ h'=>h'.elim)))) fun _ _ h'=>h'.elim))) fun _ _ h'=>h'.elim))
end
def HY (X:Cx) (a:Addr) (k v:V) (σ:St) (H:Hp) (Q:Hp→Prop):Prop:=∀(pins:List (Addr×Obj)) (s:Shared) (u r:Value),Inv X pins σ H s→RelV k u→RelV v r →
 wpAny (model X.prog X.w) X.A (dictSet a u r) (fun _ s'=>∃H',Inv X pins σ H' s'∧Q H') (fun _ _=>False) s
def DD (X:Cx) (N':List Str) (nt:Nat) (ix:List Nat) (scope:Scope) (kx vx target:Expr) (ifs:List Expr) (wi:TI):TE:=fun σ H Q=>wi σ H fun J H1=>∀(a C:Addr) (s:Shared) (fp:List Addr) (pins:List (Addr×Obj)),H1 a=none →
 ∃W:Nat→Nat→St→Hp→Prop,(∃m,W 0 m (rj nt ix σ) (upd H1 a (cD a 0 [])))∧∀i m σ' H',W i m σ' H'→(J.stop i H'∧Q (.ref a) H')∨(J.go i H'∧∀x H2,J.yld i H' x H2 →
  wG (aP X N' scope C s (upd H1 a (cD a 0 [])) fp pins) target x σ' H2 fun σ2 H3=>xR (aP X N' scope C s (upd H1 a (cD a 0 [])) fp pins) ifs σ2 H3 fun ok H4=>if ok=true then
   wE (aP X N' scope C s (upd H1 a (cD a 0 [])) fp pins) kx σ2 H4 fun k H5=>wE (aP X N' scope C s (upd H1 a (cD a 0 [])) fp pins) vx σ2 H5 fun v H6=>HY (aP X N' scope C s (upd H1 a (cD a 0 [])) fp pins) a k v σ2 H6 fun H7=>∃m',m' < m∧W (i + 1) m' σ2 H7
   else ∃m',m' < m∧W (i + 1) m' σ2 H4)
section
variable {X:Cx} {N':List Str} {nt:Nat} {ix:List Nat} {scope:Scope}
theorem A7 {kx vx target iter:Expr} {ifs:List Expr} {pos:Pos} {pins:List (Addr×Obj)} {σ:St} {s2:Shared} {Q:VK} {R:It→Hp→Prop} {itv:Value} {RR:Value→Addr→Result→Shared→Prop} (hc:X.calm=true) (O:bM X N' nt ix scope)
  (h2:JP X pins σ target R itv s2)
  (hR:∀J H1,R J H1→∀(a C:Addr) (s:Shared) (fp:List Addr) (pins:List (Addr×Obj)),H1 a=none →
   ∃W:Nat→Nat→St→Hp→Prop,(∃m,W 0 m (rj nt ix σ) (upd H1 a (cD a 0 [])))∧∀i m σ' H',W i m σ' H'→(J.stop i H'∧Q (.ref a) H')∨(J.go i H'∧∀x H2,J.yld i H' x H2 →
    wG (aP X N' scope C s (upd H1 a (cD a 0 [])) fp pins) target x σ' H2 fun σ2 H3=>xR (aP X N' scope C s (upd H1 a (cD a 0 [])) fp pins) ifs σ2 H3 fun ok H4=>if ok=true then
     wE (aP X N' scope C s (upd H1 a (cD a 0 [])) fp pins) kx σ2 H4 fun k H5=>wE (aP X N' scope C s (upd H1 a (cD a 0 [])) fp pins) vx σ2 H5 fun v H6=>HY (aP X N' scope C s (upd H1 a (cD a 0 [])) fp pins) a k v σ2 H6 fun H7=>∃m',m' < m∧W (i + 1) m' σ2 H7
     else ∃m',m' < m∧W (i + 1) m' σ2 H4))
  (hRR:∀(a C:Addr) (H':Hp) (s6:Shared) (m:Str→Option Value),Q (.ref a) H'→s6.heap.Ns C m→H' C=none→C≠X.env.locals→X.s₀.heap.objs.size≤C→(∀x c,X.env.cells.lookup x=some c→c≠C)→(∀p∈X.pn ++ pins,p.1≠C) →
   (∀h',Heap.SameBut C s6.heap h'→Inv X pins σ H' { s6 with heap:=h' })→RR (.ref a) C (.ok .next) s6) :
  wpAny (model X.prog X.w) X.A newDict (fun acc s3=>wpAny (model X.prog X.w) X.A (newFunctionEnv scope X.env.globals (gK scope.names X.env.cells []) [] X.env.qual none .none (some X.env)) (fun cenv s4 =>
   codeAny (model X.prog X.w) X.A (.compStart (.DictComp kx vx [⟨target,iter,ifs,0⟩] scope pos) 0 itv acc { cenv with scope:=relabel scope X.env }) (RR acc cenv.locals) s4) X.xe s3) X.xe s2:=by
 obtain⟨it,fp,tn,J,H2,e,I2,T,st2,f2,hq0⟩:=h2
 have hq:=hR J H2 hq0
 subst e
 have hlt2:∀b∈fp,b < s2.heap.objs.size:=fun b hb=>let ⟨o,e,_⟩:=T.obj _ _ st2 b hb;MI e
 refine wpAny_newObj_type ?_
 generalize hs3:({ s2 with heap:=s2.heap.push { cls:=.type "dict",dict:=none,data:=.dict #[] } }:Shared)=s3
 have k3:∀b o,s2.heap.get? b=some o→s3.heap.get? b=some o:=fun b o e=>by rw [← hs3];exact Mz _ e
 have ha:H2 s2.heap.objs.size=none:=I2.hok.fresh (Mx _)
 have I3:Inv X pins σ (upd H2 s2.heap.objs.size (cD s2.heap.objs.size 0 [])) s3:=by
  rw [← hs3]
  exact I2.laid (t':=s2.toks) (fun b u e=>Mz _ e) (Mx _) (nS s2.heap I2.big)
 have f3:∀b∈fp,lZ X pins (upd H2 s2.heap.objs.size (cD s2.heap.objs.size 0 [])) b:=fun b hb=>⟨by rw [aC (MR (hlt2 b hb))];exact (f2 b hb).1,(f2 b hb).2⟩
 have st3:tn 0 s3.heap:=T.keep _ _ _ st2 fun b hb o e=>k3 b o e
 have hlt3:∀b∈fp,b < s3.heap.objs.size:=fun b hb=>let ⟨o,e,_⟩:=T.obj _ _ st3 b hb;MI e
 refine wpAny_newFunctionEnv O.nocell (by intro y hy;simp at hy) (fun h1 hns hsb=>?_) O.kind
 have k4:∀b o,s3.heap.get? b=some o→h1.get? b=some o:=fun b o e=>(hsb.2 b (MR (MI e))).trans (Mz _ e)
 have I4:=p4 (tk:=s3.toks + ([]:List (Str×Value)).length) I3 O f3 hlt3 hns k4
 have st4:tn 0 h1:=T.keep _ _ _ st3 fun b hb o e=>k4 b o e
 obtain⟨W,⟨m0,w0⟩,turn⟩:=hq s2.heap.objs.size s3.heap.objs.size s3 fp pins ha
 have fr3:∀b∈fp,(upd H2 s2.heap.objs.size (cD s2.heap.objs.size 0 [])) b=none:=fun b hb=>(f3 b hb).1
 have stat:∀{H':Hp},(∀b∈fp,H' b=none)→∀b∈fp,lZ (aP X N' scope s3.heap.objs.size s3 (upd H2 s2.heap.objs.size (cD s2.heap.objs.size 0 [])) fp pins) [] H' b:=fun {H'} hn b hb=>by
  refine⟨hn b hb,MR (hlt3 b hb),fun z=>?_,.inl hb,fun x c e=>(f3 b hb).2.2.2.2.1 x c (iG scope.names [] (fun y d w=>by simp at w) x c e),fun p hp=>?_⟩
  ·rcases ML.mp (I3.oi b z) with q | q
   ·exact (f3 b hb).2.1 q
   ·exact (f3 b hb).2.2.1 q
  ·rw [MV] at hp
   exact (f3 b hb).2.2.2.2.2 p hp
 generalize hX:aP X N' scope s3.heap.objs.size s3 (upd H2 s2.heap.objs.size (cD s2.heap.objs.size 0 [])) fp pins=X' at I4 turn stat
 have eP:X'.prog=X.prog:=by rw [← hX];rfl
 have eW:X'.w=X.w:=by rw [← hX];rfl
 have eK:X'.K=X.K:=by rw [← hX];rfl
 have eA:X'.A=X.A:=by rw [← hX];rfl
 have eC:X'.calm=true:=by rw [← hX];exact hc
 have eE:X'.env=compEnvC scope (gK scope.names X.env.cells []) s3.heap.objs.size X.env:=by rw [← hX];rfl
 have eX:X'.xe=fun _ _=>False:=by rw [← hX];rfl
 have loop:codeAny (model X.prog X.w) X.A (.compLoop (.DictComp kx vx [⟨target,iter,ifs,0⟩] scope pos) 0 (.ref it) (.ref s2.heap.objs.size) (compEnvC scope (gK scope.names X.env.cells []) s3.heap.objs.size X.env))
   (RR (.ref s2.heap.objs.size) s3.heap.objs.size) { s3 with heap:=h1,toks:=s3.toks + ([]:List (Str×Value)).length }:=by
  refine r9 (fun n s'=>∃i σ' H',Inv X' [] σ' H' s'∧tn i s'.heap∧(∀b∈fp,H' b=none)∧W i n σ' H') ?_ m0 ⟨0,_,_,I4,st4,fr3,w0⟩
  rintro n s5 ⟨i,σ5,H5,I5,st5,fr5,w5⟩
  rcases turn i n σ5 H5 w5 with ⟨stop,q⟩ | ⟨go,step⟩
  ·have:=T.done X' eP eW eK eC i [] s5 σ5 H5 (fun _ _=>False) I5 (stat fr5) st5 stop
   rw [eA] at this
   refine bH this fun r s6 ⟨hr,I6⟩=>?_
   subst hr
   obtain⟨m,hm,_⟩:=id I6.loc
   rw [eE] at hm
   have fre:H5 s3.heap.objs.size=none:=by have z:=I6.free;rw [eE] at z;exact z
   refine hRR _ _ H5 s6 m q hm fre (Nat.ne_of_gt I3.lt) I3.sz (fun x c e z=>?_) (fun p hp z=>?_) fun h' hsb'=>?_
   ·obtain⟨v,w⟩:=I3.cell x c e
    exact absurd w.lt (by rw [z];exact Nat.lt_irrefl _)
   ·exact absurd (MI (I3.pin p hp).1) (by rw [z];exact Nat.lt_irrefl _)
   ·rw [← hX] at I6
    exact xP I3 f3 I6 hsb'
  ·have:=T.item X' eP eW eK eC i [] s5 σ5 H5 (fun _ _=>False) I5 (stat fr5) st5 go
   rw [eA] at this
   refine bH this fun r s6 ⟨u,hr,h6⟩=>?_
   subst hr
   refine bH h6 fun _ s7 hq0=>?_
   obtain⟨x,H7,I7,r7,y7,st7,fr7⟩:=hq0
   have I7':=I7.pinned (stat fr7) (T.obj _ _ st7)
   have g7:=step x H7 y7 _ s7 u I7' r7
   rw [eP,eW,eA,eE,eX] at g7
   refine bH g7 fun _ s8 ⟨σ8,H8,I8,q8⟩=>?_
   have t8:=q8 _ s8 I8
   rw [eP,eW,eA,eE] at t8
   refine bH t8 fun ok s9 ⟨H9,I9,q9⟩=>?_
   have back:∀{σz:St} {Hz:Hp} {sz:Shared} {m':Nat},Inv X' ([] ++ n5 fp s7.heap) σz Hz sz→m' < n→W (i + 1) m' σz Hz→∃m,m < n∧∃i σ' H',Inv X' [] σ' H' sz∧tn i sz.heap∧(∀b∈fp,H' b=none)∧W i m σ' H':=fun {σz Hz sz m'} Iz hm wz=>by
    refine⟨m',hm,i + 1,σz,Hz,Iz.kf,T.keep _ _ _ st7 fun b hb o e=>(Iz.pin (b,o) (List.mem_append_right _ (List.mem_append_right _ (ft hb e)))).1,fun b hb=>?_,wz⟩
    obtain⟨o,e,d⟩:=T.obj _ _ st7 b hb
    exact (Iz.pin (b,o) (List.mem_append_right _ (List.mem_append_right _ (ft hb e)))).2.1
   cases ok with
   | false =>
    obtain⟨m',hm,w9⟩:=q9
    exact back I9 hm w9
   | true =>
    have e9:=q9 _ s9 I9
    rw [eP,eW,eA,eE,eX] at e9
    refine bH e9 fun uk s10 hq0=>?_
    obtain⟨k,H10,I10,r10,q10⟩:=hq0
    have e10:=q10 _ s10 I10
    rw [eP,eW,eA,eE,eX] at e10
    refine bH e10 fun uv s11 hq0=>?_
    obtain⟨v,H11,I11,r11,q11⟩:=hq0
    have e11:=q11 _ s11 uk uv I11 r10 r11
    rw [eP,eW,eA] at e11
    refine bH e11 fun _ s12 hq0=>?_
    obtain⟨H12,I12,m',hm,w12⟩:=hq0
    exact back I12 hm w12
 exact codeAny_compStart_dict loop (T.self _ _ _ _ _ st4 loop)
theorem Dh {kx vx target iter:Expr} {ifs:List Expr} {pos:Pos} {wi:TI} (hc:X.calm=true) (hi:PI X target iter wi) (O:bM X N' nt ix scope) (hs:∀x,foldedSetIterable iter X.env x=pure x:=by intro _;rfl) :
  PE X (.DictComp kx vx [⟨target,iter,ifs,0⟩] scope pos) (DD X N' nt ix scope kx vx target ifs wi):=by
 intro pins s σ H Q I h
 rw [arm_eval_DictComp]
 refine wpAny_comprehension_free (use:=none) rfl hs (O.G6 I) O.kind O.names ?_
 refine bH (hi pins s σ H _ I h) fun v s1 h1=>bH h1 fun itv s2 h2=>?_
 refine A7 (Q:=Q) (RR:=fun acc C=>compPost (model X.prog X.w) X.A X.xe none (EP X pins σ Q) acc C) hc O h2 (fun J H1 z=>z) ?_
 intro a C H' s6 m q hm _ _ _ _ _ hI
 exact⟨m,hm,fun h' hsb=>⟨.ref a,H',hI h' hsb,rfl,q⟩⟩
end
end L2.L3
namespace L2.L3
open PySem PySem.Spec PyProof.Rows
def js (tt:TB) (tk tv:TD) (fS:En) (Q:List (D×D)→Prop):List D→List (D×D)→Prop
 | [],acc=>Q acc
 | x :: xs,acc=>∃a b,x=.tup [a,b]∧tt ((fS.set 0 (some (.d a))).set 1 (some (.d b))) fun ok=>if ok=true then tk ((fS.set 0 (some (.d a))).set 1 (some (.d b))) fun k=>tv ((fS.set 0 (some (.d a))).set 1 (some (.d b))) fun v=>a7 k=true∧dep k≤8∧bZ acc∧acc.length < sizeLine∧js tt tk tv fS Q xs (putN acc k v) else js tt tk tv fS Q xs acc
def RD (X:Cx) (B:Base) (σ:St) (env:En) (F:Hp) (Q:List (D×D)→Prop):VK:=fun v H'=>∃F' H1 p ep us vs kvs,v=.ref p∧H1 p=none∧H'=upd H1 p (cD p ep (bz kvs us vs))∧Rep X.K B F' H1 σ env∧ar F F'∧aq X.K F' (kvs.map (·.1)) us∧aq X.K F' (kvs.map (·.2)) vs∧Q kvs
section
variable {X:Cx} {N':List Str} {ix:List Nat} {scope:Scope} {kx vx iter a b:Expr} {ifs:List Expr} {x y:Str} {px py tp pos:Pos} {c:Nat} {tt:TB} {tk tv ti:TD} {ts:eQ}
theorem xN (hc:X.calm=true) (hN:N'.Nodup) (h0:N'[0]?=some x) (h1:N'[1]?=some y) (hx:(relabel scope X.env).names.lookup x=some .local) (hy:(relabel scope X.env).names.lookup y=some .local)
  (ht:∀C s H fp pins,rS (aP X N' scope C s H fp pins) ifs tt) (hk:∀C s H fp pins,QE (aP X N' scope C s H fp pins) kx tk) (hv:∀C s H fp pins,QE (aP X N' scope C s H fp pins) vx tv) (hu:X.A.units + 64 < cLine)
  {B:Base} {σ:St} {F F1 H1:Hp} {env:En} {Q:List (D×D)→Prop} {J:It} {xs:List D} (sF:ar F F1) (r1:Rep X.K B F1 H1 σ env) (S:uX X.K J F1 xs) (q1:js tt tk tv (cb 2 ix env) Q xs []) :
  ∀(a C:Addr) (s:Shared) (fp:List Addr) (pins:List (Addr×Obj)),H1 a=none →
   ∃W:Nat→Nat→St→Hp→Prop,(∃m,W 0 m (rj 2 ix σ) (upd H1 a (cD a 0 [])))∧∀i m σ' H',W i m σ' H'→(J.stop i H'∧RD X B σ env F Q (.ref a) H')∨(J.go i H'∧∀z H2,J.yld i H' z H2 →
    wG (aP X N' scope C s (upd H1 a (cD a 0 [])) fp pins) (.Tuple [.Name x px,.Name y py] c tp) z σ' H2 fun σ2 H3=>xR (aP X N' scope C s (upd H1 a (cD a 0 [])) fp pins) ifs σ2 H3 fun ok H4=>if ok=true then
     wE (aP X N' scope C s (upd H1 a (cD a 0 [])) fp pins) kx σ2 H4 fun k H5=>wE (aP X N' scope C s (upd H1 a (cD a 0 [])) fp pins) vx σ2 H5 fun v H6=>HY (aP X N' scope C s (upd H1 a (cD a 0 [])) fp pins) a k v σ2 H6 fun H7=>∃m',m' < m∧W (i + 1) m' σ2 H7
     else ∃m',m' < m∧W (i + 1) m' σ2 H4):=by
 intro a C s fp pins ha
 have hF1a:F1 a=none:=r1.oE ha
 refine⟨fun i m σ' H'=>m=xs.length - i∧i≤xs.length∧∃(F':Hp) (acc:List (D×D)) (ep:Nat) (us vs:List V),Rep X.K (Base.here F1 H1) F' H' σ' (cb 2 ix env)∧H' a=some (cD a ep (bz acc us vs))∧F' a=none∧aq X.K F' (acc.map (·.1)) us∧aq X.K F' (acc.map (·.2)) vs∧js tt tk tv (cb 2 ix env) Q (xs.drop i) acc,
  ⟨xs.length,by simp,MX _,F1,[],0,[],[],zE r1 ha,aG,hF1a,aU,aU,by simpa using q1⟩,?_⟩
 rintro i m σ2 H2 ⟨rfl,hi2,F2,acc,ep,us,vs,r2,hys,hFa,hd,hd2,q2⟩
 have sH:ar H1 H2:=r2.h0
 by_cases hlt:i < xs.length
 ·have hxi:xs[i]?=some xs[i]:=by simp [hlt]
  rw [drop_cons hxi] at q2
  refine .inr ⟨S.go i F2 H2 r2.f0 r2.fh hlt,fun z H3 hz=>?_⟩
  obtain⟨da,db,exy,q2⟩:=q2
  obtain⟨G,rG,sG,dz⟩:=S.yld i F2 H2 z H3 xs[i] (Base.here F2 H2) σ2 (cb 2 ix env) r2.f0 (r2.here cp cu) hxi hz
  rw [exy] at dz
  have g1:=aD (X:=aP X N' scope C s (upd H1 a (cD a 0 [])) fp pins) (pos:=px) 0 hN h0 (.inl hx) (.inr hx)
  have g2:=aD (X:=aP X N' scope C s (upd H1 a (cD a 0 [])) fp pins) (pos:=py) 1 hN h1 (.inl hy) (.inr hy)
  have g:=fc (X:=aP X N' scope C s (upd H1 a (cD a 0 [])) fp pins) (pos:=tp) (k:=c) (n:=2) hc (aL g1 (aL g2 c4))
  refine gT (g (Base.here F2 H2) σ2 G H3 (cb 2 ix env) (fun e=>e=((cb 2 ix env).set 0 (some (.d da))).set 1 (some (.d db))) (.tup [da,db]) z rG dz ⟨_,rfl,rfl,_,_,rfl,_,_,rfl,rfl,rfl⟩) fun σ3 H4 hq0=>?_
  obtain⟨F4,env4,r4,s4,q4⟩:=hq0
  subst q4
  intro pins' s' I'
  refine MO (ht C s (upd H1 a (cD a 0 [])) fp pins (Base.here F2 H2) σ3 F4 H4 _ _ r4 q2 pins' s' I') (fun ok s5 ⟨H5,I5,F5,r5,s5',q5⟩=>⟨H5,I5,?_⟩) fun _ _ e=>e
  have weak':∀(j:Nat) l,(cb 2 ix env)[j]?=some (some l)→(((cb 2 ix env).set 0 (some (.d da))).set 1 (some (.d db)))[j]?=some (some l):=fun j l hj=>by
   have hj0:j≠0:=fun w=>by
    subst w
    simp [cb] at hj
   have hj1:j≠1:=fun w=>by
    subst w
    simp [cb] at hj
   rw [Mp (Ne.symm hj1),Mp (Ne.symm hj0)];exact hj
  cases ok with
  | false =>
   have q5':js tt tk tv (cb 2 ix env) Q (xs.drop (i + 1)) acc:=q5
   refine⟨xs.length - (i + 1),by omega,rfl,by omega,F5,acc,ep,us,vs,r5.there r2.f0 sH (fun p hp=>r2.nf p hp) weak' cp cu,r5.h0 _ _ hys,r5.nf a ⟨by rw [hys];simp,hFa⟩,aq.mono r5.f0 _ _ hd,aq.mono r5.f0 _ _ hd2,q5'⟩
  | true =>
   have q5':tk (((cb 2 ix env).set 0 (some (.d da))).set 1 (some (.d db))) fun k=>tv (((cb 2 ix env).set 0 (some (.d da))).set 1 (some (.d db))) fun v=>a7 k=true∧dep k≤8∧bZ acc∧acc.length < sizeLine∧js tt tk tv (cb 2 ix env) Q (xs.drop (i + 1)) (putN acc k v):=q5
   refine aA (hk C s (upd H1 a (cD a 0 [])) fp pins (Base.here F2 H2) σ3 F5 H5 _ _ r5 q5') fun u H6' hq0=>?_
   obtain⟨F6',d,r6',s6',d6,q6⟩:=hq0
   refine aA (hv C s (upd H1 a (cD a 0 [])) fp pins (Base.here F2 H2) σ3 F6' H6' _ _ r6' q6) fun w H6 hq0=>?_
   obtain⟨F6,d',r6,s7,d7,k1,k2,ok,hl,q7⟩:=hq0
   have ha6:H6 a=some (cD a ep (bz acc us vs)):=r6.h0 _ _ hys
   have hF6:F6 a=none:=r6.nf a ⟨by rw [hys];simp,hFa⟩
   intro pins' s' uu rr I' ru rr'
   refine G9 (X:=aP X N' scope C s (upd H1 a (cD a 0 [])) fp pins) (show X.A.units + 9 < cLine by omega) I' r6.fh ok (aq.mono r6.f0 _ _ hd) (aq.mono r6.f0 _ _ hd2) ha6 k1 k2 (Den.mono s7 _ _ d6) ru d7 rr' hl fun ep' us' vs' s'' e1 e2 I2=>⟨_,I2,xs.length - (i + 1),by omega,rfl,by omega,F6,putN acc d d',ep',us',vs',?_,aG,hF6,e1,e2,q7⟩
   have r7:Rep X.K (Base.here F1 H1) F6 H6 σ3 (cb 2 ix env):=r6.there r2.f0 sH (fun p hp=>r2.nf p hp) weak' cp cu
   refine⟨r7.f0,fun b o hb=>?_,fun b o hb=>?_,r7.nf,r7.dv,fun j zs q=>(cp j zs q).elim,r7.ne,fun j zs q=>(cu j zs q).elim,r7.nm⟩
   ·have:b≠a:=fun w=>by subst w;rw [hF6] at hb;cases hb
    rw [aC this];exact r7.fh _ _ hb
   ·have:b≠a:=fun w=>by subst w;have hb':H1 b=some o:=hb;rw [ha] at hb';cases hb'
    rw [aC this];exact r7.h0 _ _ hb
 ·have e:i=xs.length:=by omega
  subst e
  rw [M6 (Mx _)] at q2
  refine .inl ⟨S.stop F2 H2 r2.f0 r2.fh,F2,fun b=>if b=a then none else H2 b,a,ep,us,vs,acc,rfl,Mw rfl,?_,?_,sF.trans r2.f0,hd,hd2,q2⟩
  ·funext b
   unfold upd
   by_cases z:b=a
   ·rw [Mw z,z];exact hys
   ·rw [Ms z]
    show H2 b=if b=a then none else H2 b
    rw [Ms z]
  ·refine r1.ext r2.f0 (fun b o hb=>?_) (fun b o hb=>?_) fun p h1 h2=>r2.nf p ⟨h1,h2⟩
   ·have:b≠a:=fun w=>by subst w;rw [hFa] at hb;cases hb
    show (if b=a then none else H2 b)=_
    rw [Ms this];exact r2.fh _ _ hb
   ·have:b≠a:=fun w=>by subst w;rw [ha] at hb;cases hb
    show (if b=a then none else H2 b)=_
    rw [Ms this];exact sH _ _ hb
def ou (i:Nat) (ix:List Nat) (ts:eQ) (tt:TB) (tk tv:TD):bB:=fun Z env=>ts env fun ds=>∃d xs,ds=[d]∧B3 d=some xs∧js tt tk tv (cb 2 ix env) (fun kvs=>Z.nx (env.set i (some (.dic kvs)))) (kj xs) []
theorem v5 {n:Str} {p pos2 pn spos:Pos} (i:Nat) (nd:X.N.Nodup) (hu:X.A.units + 64 < cLine) (hc:X.calm=true) (O:bM X N' 2 ix scope) (hN:N'.Nodup) (h0:N'[0]?=some x) (h1:N'[1]?=some y) (hx:(relabel scope X.env).names.lookup x=some .local) (hy:(relabel scope X.env).names.lookup y=some .local) (hgl:Gl X "enumerate") (hm:X.mg "enumerate" = none) (ha:QA X [a] ts)
  (ht:∀C s H fp pins,rS (aP X N' scope C s H fp pins) ifs tt) (hk:∀C s H fp pins,QE (aP X N' scope C s H fp pins) kx tk) (hv:∀C s H fp pins,QE (aP X N' scope C s H fp pins) vx tv)
  (hi:X.N[i]?=some n:=by rfl) (hn:Loc X.env.scope n:=by first | exact Or.inl rfl | exact Or.inr rfl)
  (hsw:swapsWith (.DictComp kx vx [⟨.Tuple [.Name x px,.Name y py] c tp,.Call (.Name "enumerate" p) [a] [] pos2,ifs,0⟩] scope pos) (some (.Name n pn)) spos.line X.env=pure false:=by rfl)
  (hf:X.fn n=true∨X.env.scope.names.lookup n=some .local:=by first | exact .inl rfl | exact .inr rfl) (hst:starEach [a] X.env=[(false,eval a X.env)]:=by rfl)
  (hs:∀x,foldedSetIterable (.Call (.Name "enumerate" p) [a] [] pos2) X.env x=pure x:=by intro _;rfl) :
  QS X (.Assign [.Name n pn] (.DictComp kx vx [⟨.Tuple [.Name x px,.Name y py] c tp,.Call (.Name "enumerate" p) [a] [] pos2,ifs,0⟩] scope pos) spos) (ou i ix ts tt tk tv):=by
 refine⟨fun B σ F H env Z rp h pins s I=>?_⟩
 have hl:i < σ.length:=by rw [I.len];exact (Mo.mp hi).1
 refine oq (i:=i) nd hi hn (Dh hc (Gg hgl hm jF hst) O hs) hsw hf pins s σ H _ I ?_
 unfold Hn DD
 refine Cw (P:=fun xs=>js tt tk tv (cb 2 ix env) (fun kvs=>Z.nx (env.set i (some (.dic kvs)))) xs []) ha rp h ?_
 intro J F1 H1 xs r1 s1 S q a C s fp pins hA
 obtain⟨W,w0,turn⟩:=xN (px:=px) (py:=py) (tp:=tp) (c:=c) hc hN h0 h1 hx hy ht hk hv hu s1 r1 S q a C s fp pins hA
 refine⟨W,w0,fun i' m σ' H' w=>?_⟩
 rcases turn i' m σ' H' w with ⟨st,F',H2,p,ep,us,vs,kvs,e1,e2,e3,r3,s3,d1,d2,q3⟩ | t
 ·refine .inl ⟨st,?_⟩
  rw [e1,e3]
  exact⟨F',_,r3.sL (i:=i) ep e2 hl d1 d2,q3⟩
 ·exact .inr t
end
end L2.L3
namespace L2.L3
open PySem PySem.Spec PyProof.Rows
def KP (f:Fw) (i:Int):Fw:=fun ds Q=>f (ds ++ [.int i]) Q
structure rh (P:Program) (w:World) (K:PySem.W.Frag) (mg:Str→Option Value) (base:Heap) (k:Nat) (x:Str) (f:Fw) (i:Int):Prop where
 ex:∃(fa:Addr) (fd:FuncData) (ps:List Str) (t:Tok),nV P w K mg base tH k fa fd ps (Ep K f)∧mg x=some (.ref fa)∧PySem.W.keepIn K (.ref fa)=true∧Binds K fd ps [.int i t]
structure ux (K:PySem.W.Frag) (x qual:Str) (st:Stmt) (f:Addr) (fd:FuncData):Prop where
 ex:∃(oc:Value) (od:Option Addr) (dV kV doc pm:Value) (an:Option Addr) (cdv ct:Value) (osl:Array (Option Value)),
  fd=PySem.W.fnOf x qual (dN st) (bp st) (ak st) dV kV doc pm an cdv ct∧K.lookup f=some ⟨oc,od,.func fd,osl⟩∧PySem.W.codeIn K cdv qual=true
 kp:PySem.W.keepIn K (.ref f)=true
section
variable {P:Program} {w:World} {K:PySem.W.Frag} {mg:Str→Option Value} {base:Heap}
theorem E6 {x qual:Str} {st:Stmt} {f:Addr} {oc:Value} {od an:Option Addr} {osl:Array (Option Value)} {dV kV doc pm cdv ct:Value} (l:K.lookup f=some ⟨oc,od,.func (PySem.W.fnOf x qual (dN st) (bp st) (ak st) dV kV doc pm an cdv ct),osl⟩)
  (c:PySem.W.codeIn K cdv qual=true) (k:PySem.W.keepIn K (.ref f)=true):ux K x qual st f (PySem.W.fnOf x qual (dN st) (bp st) (ak st) dV kV doc pm an cdv ct):=⟨⟨oc,od,dV,kV,doc,pm,an,cdv,ct,osl,rfl,l,c⟩,k⟩
theorem ux.Fe {x qual:Str} {st:Stmt} {fa:Addr} {fd:FuncData} {N ps:List Str} {k:Nat} {f:Fw} (F:ux K x qual st fa fd) (S:aH N ps (ak st))
  (hl:∀ds Q,f ds Q→ds.length=ps.length)
  (hbody:∀(cdv:Value) (A:Around) (outer:List Env) (s:Shared) (H:Hp) (E:XK),di k (A.deeper (envOfC qual (ak st) s.heap.objs.size fa cdv)) →
   ∃t,oF (gO tH P w K mg base N qual (ak st) fa cdv A outer s H E).oZ (bp st) t∧∀ds (Q:D→Prop),f ds Q→t { nx:=fun _=>Q .non,rt:=Q } (aF N ds)) :
  nV P w K mg base tH (k + 1) fa fd ps (Ep K f):=by
 obtain⟨oc,od,dV,kV,doc,pm,an,cdv,ct,osl,rfl,lk,hcd⟩:=F.ex
 refine An lk hcd S (fun vs H Q E h=>?_) fun A outer s H vs Q E hr h=>?_
 ·obtain⟨F0,ds,P,_,hd,hf,_⟩:=h
  rw [← hd.length];exact hl ds _ hf
 ·obtain⟨F0,ds,P,fh,hd,hf,kk⟩:=h
  obtain⟨t,ht,hq⟩:=hbody cdv A outer s H E hr
  refine⟨_,xD.oZ eT,?_⟩
  have core:=ht _ (start N vs) F0 H (aF N ds) _ (gE fh hd) (hq ds P hf)
  refine gL core (fun σ' H' ⟨F',env',r,q⟩=>?_) (fun v H' ⟨F',d',r,dd,q⟩=>?_) (fun _ _ ⟨_,_,_,q⟩=>q) (fun _ _ ⟨_,_,_,q⟩=>q)
  ·exact kk .non .non F' H' r.f0 r.h0 r.fh (fun p h1 h2=>r.nf p ⟨h1,h2⟩) jd q
  ·exact kk d' v F' H' r.f0 r.h0 r.fh (fun p h1 h2=>r.nf p ⟨h1,h2⟩) dd q
theorem ux.known {x qual:Str} {st:Stmt} {fa:Addr} {fd:FuncData} {N ps:List Str} {k:Nat} {f:Fw} {i:Int} {t:Tok} (F:ux K x qual st fa fd) (S:aH N ps (ak st)) (hmg:mg x=some (.ref fa)) (hb:Binds K fd ps [.int i t])
  (hl:∀ds Q,f ds Q→ds.length=ps.length)
  (hbody:∀(cdv:Value) (A:Around) (outer:List Env) (s:Shared) (H:Hp) (E:XK),di k (A.deeper (envOfC qual (ak st) s.heap.objs.size fa cdv)) →
   ∃t,oF (gO tH P w K mg base N qual (ak st) fa cdv A outer s H E).oZ (bp st) t∧∀ds (Q:D→Prop),f ds Q→t { nx:=fun _=>Q .non,rt:=Q } (aF N ds)) :
  rh P w K mg base (k + 1) x f i:=⟨fa,fd,ps,t,ux.Fe F S hl hbody,hmg,F.kp,hb⟩
end
end L2.L3
namespace L2.L3
open PySem PySem.Spec PyProof.Rows
section
variable {X:Cx} {a e o:Expr} {ta te to:TD} {pos apos cpos:Pos}
def vf (to te:TD):TD:=fun env Q=>to env fun x=>∃ds,x=.lst ds∧b9 ds≤60∧te env fun y=>dep y≤60∧Q (.int (ds.countP fun d=>a6 d y))
theorem BB (hu:X.A.units + 64 < cLine) (ho:QE X o to) (he:QE X e te) (m:M1 X o "count" apos e cpos:=by exact⟨rfl,rfl,rfl,rfl⟩):QE X (.Call (.Attribute o "count" apos) [e] [] cpos) (vf to te):=by
 refine⟨fun B σ F H env Q rp h pins s I=>?_⟩
 refine wpAny_Call_method m.base m.few m.line PySem.F.plainAttrs_list PySem.F.slot_list_count PySem.F.type_list_count (bH (ho B σ F H env _ rp h pins s I) fun u s1 hq0=>?_)
 obtain⟨x,H1,I1,rx,F1,d,r1,z1,d1,ds,e1,hds,q1⟩:=hq0
 subst e1
 simp only [Den] at d1
 obtain⟨p,vs,rfl,hq,dl⟩:=d1
 cases rx
 obtain⟨its0,_,⟨o0,n0,g0,c0,nd0,_⟩,_⟩:=I1.list (r1.fh.seq hq)
 refine⟨⟨o0,g0,c0⟩,fun b eb=>by cases eb;exact⟨o0,g0,nd0⟩,?_⟩
 rw [m.trees]
 refine Calls.callWith_builtin rfl (Calls.evalArgs_plain (Nq (bH (he B σ F1 H1 env _ r1 q1 pins s1 I1) fun iv s2 ⟨y,H2,I2,ry,F2,d',r2,z2,d2,hy,q2⟩=>Calls.spliced_nil ?_)))
 have hq2:=z2.seq hq
 have dl2:=aq.mono z2 _ _ dl
 obtain⟨its,rv,⟨⟨oc,od,odt,osl⟩,n,g,c,nd,dd⟩,hz⟩:=I2.list (r2.fh.seq hq2)
 replace c:oc=.type "list":=c
 replace dd:odt=.seq its.toArray n:=dd
 subst c dd
 refine call_meets PySem.F.slot_list_count ⟨_,g,rfl⟩ PySem.F.entry_list_count (PySem.F.args_list_count_2 _ _) (SeqAt.list_countAt p its.toArray n od osl iv (jE its ds d')) ⟨g,fun w hw=>tI I2 r2.fh _ (by simp only [units_in1];omega) hds hy dl2 rv d2 ry w (by simpa using hw),?_⟩
 refine⟨.int _,H2,I2.tok _,⟨_,rfl⟩,F2,_,r2,z1.trans z2,?_,q2⟩
 rw [show its.toArray.toList.countP (jE its ds d')=ds.countP fun d=>a6 d d' by
  rw [show its.toArray.toList=its by simp,oC,m7 I2 r2.fh (by omega) dl2 rv,← oC]]
 exact bo
end
end L2.L3
namespace L2.L3
open PySem PySem.Spec PyProof.Rows
def Dz (f:Fw) (ta:TD) (tx:TX):sv:=fun D env=>ta env fun d=>tx env (fun y=>f [d,y] D.rt) D.xc
section
variable {X:Cx} {a e:Expr} {ta:TD} {tx:TX} {p pos pos':Pos} {x:Str} {k:Nat} {f:Fw} {i:Int}
theorem EI (h:rh X.prog X.w X.K X.mg X.base k x f i) (hr:di k X.A) (ha:QE X.oZ a ta) (hx:QX X e tx) (hg:Gl X x:=by rfl) (hdb:(x == ("__debug__" : Str))=false:=by decide)
  (he:starEach [a,e] X.env=(false,eval a X.env) :: starEach [e] X.env:=by exact aT rfl) (he2:starEach [e] X.env=(false,eval e X.env) :: starEach [] X.env:=by exact aT rfl) (hpl:(backTo pos (starEach [e] X.env)).any (·.1)=false:=by rfl) :
  QZ X (.Return (some (.Call (.Name x p) [a,e] [] pos)) pos') (Dz (KP f i) ta tx):=by
 obtain⟨fa,fd,ps,t,G,hm,hk,hb⟩:=h.ex
 refine⟨fun B σ F H env D rp hq=>dG (u9 (uU (X:=X.cw (XZ X B D.xc)) G hr hg hm hk hb (dvs:=[.int i]) (.cons ⟨_,rfl⟩ .nil) Aq (cT bh (cT bh gz he2) he) hdb he hpl)) ?_⟩
 refine aA (ym (ha B σ F H env _ rp hq)) fun v H1 hq0=>?_
 obtain⟨F1,d,r1,s1,d1,q1⟩:=hq0
 refine aA (hx.w r1 q1) fun v2 H2 hq0=>?_
 obtain⟨F2,d',r2,s2,d2,q2⟩:=hq0
 exact⟨F2,[d,d'] ++ [L3.D.int i],D.rt,r2.fh,(aO (Den.mono s2 _ _ d1) (aO d2 aU)).append (aO (d:=.int i) (by simp only [Den]) aU),q2,fun d v F' H' a b c n hd q=>⟨F',d,(r2.ext a c b n).bare,hd,q⟩⟩
end
end L2.L3
namespace L2.L3
open PySem PySem.Spec PyProof.Rows
structure C3 (K:PySem.W.Frag) (C S:Addr):Prop where
 ty:PySem.W.typeIn K (.ref S)=some (.type "type")
 dct:PySem.W.hasDictIn K S=true
 be:PySem.W.subIn K (.ref S) (.type "BaseException")=some true
 sub:PySem.W.subIn K (.ref C) (.ref S)=some true
theorem su {K:PySem.W.Frag}:PySem.W.subIn K (.type "type") (.type "tuple")=some false:=by
 show Option.map (fun x=>x.contains (Value.type "tuple")) (fastBuiltinMro "type")=some false
 decide +kernel
theorem Cq {M:Model} {A:Around} {E:Value→Shared→Prop} {K:PySem.W.Frag} {h:Heap} {g:Array GenState} {d:Drawn} {t:Nat} {os:OsState} {e C S:Addr} {Q:Bool→Shared→Prop} (X:K.In h) (O:C3 K C S)
  (ht:PySem.W.Looks M h (typeOf (.ref e)) (.ref C)) (hq:Q true ⟨h,g,d,t,os⟩):wpAny M A (excMatches (.ref e) (.ref S)) Q E ⟨h,g,d,t,os⟩:=by
 have L1:PySem.W.Looks M h (isInstance (.ref S) (.type "tuple")) false:=(PySem.W.looks_typeIn X O.ty).andThen (PySem.W.looks_subIn X su)
 have L2:=PySem.W.looks_subIn (M:=M) X O.be
 have L3:=PySem.W.looks_subIn (M:=M) X O.sub
 obtain⟨c,dd,cd,sl,lk⟩:=u5 O.dct
 have hS:=X _ _ lk
 have LT:PySem.W.Looks M h (isType (.ref S)) true:=fun A Q E s keep q=>Mn (wpAny_loadPart (keep _ _ hS) (Mr q))
 have LE:PySem.W.Looks M h (isExcClass (.ref S)) true:=LT.andThen L2
 unfold excMatches
 refine Mn (L1.at ?_)
 rw [Ms (by decide)]
 refine Mn (Mr ?_)
 simp only [List.forIn_cons,List.forIn_nil]
 refine Mn (Mn (Mn (LE.at (Mr (Mr ?_)))))
 refine Mn (ht.at (Mn (Mn (Mn (L3.at (Mr (Mr ?_)))))))
 exact Mr hq
def DY (i:Nat) (cls:Str) (tx:TX) (tb:bB):bB:=fun D env=>tx env D.rt fun c=>c=cls∧tb { nx:=fun _=>False,rt:=D.rt } (env.set i (some (.d (.exc cls))))
section
variable {X:Cx} {e:Expr} {tx:TX} {cls sup n:Str} {C S:Addr} {np epos hpos pos:Pos} {b0:Stmt} {body:List Stmt} {tb:bB}
theorem FE (i:Nat) (hN:X.N.Nodup) (hst:X.stack=X.env :: X.outer) (hf:X.env.frame=some X.env.locals) (as:PySem.W.nsIn X.K mainGlobals sup=some (some (.ref S))) (ac:PySem.W.nsIn X.K mainGlobals cls=some (some (.ref C))) (O:C3 X.K C S)
  (h:QX X e tx) (hb:∀x,oF (Cx.hand X x) (b0 :: body) tb) (hg:Gl X sup:=by rfl) (hdb:(sup == ("__debug__" : Str))=false:=by decide) (hi:X.N[i]?=some n:=by rfl)
  (hx:X.env.scope.names.lookup n=some .local:=by rfl) :
  QS X (.Try [.Return (some e) epos] [.ExceptHandler (some (.Name sup np)) (some n) (b0 :: body) hpos] [] [] pos) (DY i cls tx tb):=by
 refine⟨fun B σ F H env D rp ht pins s I=>?_⟩
 have hcls:(X.env.scope.kind == .class || (X.env.scope.kind == .module && X.env.locals != X.env.globals))=false:=by rw [I.ok.kind];rfl
 have hmg:X.mg cls=some (.ref C):=Ni I.ok.mod.kin I.ok.mod.glob ac
 have hms:X.mg sup=some (.ref S):=Ni I.ok.mod.kin I.ok.mod.glob as
 have core:=h.run B σ F H env _ _ rp ht pins s I
 refine wpAny_Try_except (wpAny_execs_cons (wpAny_Return_some (MO core (fun v s1 ⟨x,H1,I1,r1,F1,d1,rp1,_,hd1,q1⟩=>?_) fun ex s1 z=>?_)))
 ·exact⟨x,σ,H1,I1,r1,F1,d1,rp1.bare,hd1,q1⟩
 ·obtain⟨a,c,C',H1,F1,rfl,th,r1,hm,hce,hq1⟩:=z
  rw [hce,hmg] at hm
  cases hm
  refine th.note hst hf fun s2 th2=>?_
  have I2:=Inv.hand th2.inv a
  refine wpAny_handleBy_cons (codeAny_handlers_test (iV (X:=Cx.hand X a) I2 hg hms ?_ hdb)) (by intro q;cases q)
  have flc:∃ox,PySem.W.InstAt s2.heap a ox C none:=by
   obtain⟨_,_,_,_,_,_,_,_,_,oe,vs,he,hc,hdc,hd,_⟩:=th2
   refine⟨oe,he,hc,?_,?_⟩
   ·unfold PySem.W.notCls;rw [hd]
   ·rw [hdc];exact True.intro
  obtain⟨ob,hob⟩:=flc
  have kin:=I2.tD
  obtain⟨h2,g2,d2,t2,o2⟩:=s2
  refine Cq kin O hob.type (codeAny_handlers_suite_as ?_)
  refine dI.land th2 fun s3 th3=>?_
  obtain⟨na,I3⟩:=km.Ir th3
  obtain⟨rp3,sm⟩:=r1.laid (o:=.ext (excAt a C)) na
  refine j3 (X:=Cx.hand X a) (i:=i) (v:=.ref a) (Inv.hand I3 a) hN hi (.inl hx) rfl (fun s4 I4=>?_) (.inr hx)
  have hden:Den X.K (upd F1 a (.ext (excAt a C))) (.exc cls) (.ref a):=by
   simp only [Den];exact⟨a,C,rfl,ac,aG⟩
  have run:=(hb a).run B _ _ _ _ { nx:=fun _=>False,rt:=D.rt } (rp3.set hden (by rw [I3.len];exact (Mo.mp hi).1)) hq1 pins s4 I4
  refine MO run (fun f s5 z=>?_) fun _ _ z=>False.elim z
  cases f with
  | next=>obtain⟨σ',H',_,F',env',_,q⟩:=z;exact q.elim
  | brk=>obtain⟨σ',H',_,F',env',_,q⟩:=z;exact q.elim
  | cont=>obtain⟨σ',H',_,F',env',_,q⟩:=z;exact q.elim
  | ret u =>
   obtain⟨v,σ',H',I5,rv,q⟩:=z
   have I5':=Inv.Iu I.ok I5
   obtain⟨m,hn,_⟩:=I5'.loc
   refine wpAny_nameGoes (show X.env.kindOf n=some .local from hx) hn hcls fun h' m' hn' hs'=>?_
   exact⟨v,_,H',Inv.LG I5' hn' hs',rv,q⟩
end
def CT (f:Fw) (ta tb:TD) (tx:TX):sv:=fun D env=>ta env fun d=>tb env fun d'=>tx env (fun y=>f [d,d',y] D.rt) D.xc
section
variable {X:Cx} {a b e:Expr} {ta tb:TD} {tx:TX} {p pos pos':Pos} {x:Str} {k:Nat} {f:Fw}
theorem Es (h:Known X.prog X.w X.K X.mg X.base k x f) (hr:di k X.A) (ha:QE X.oZ a ta) (hb':QE X.oZ b tb) (hx:QX X e tx) (hg:Gl X x:=by rfl) (hdb:(x == ("__debug__" : Str))=false:=by decide)
  (he:starEach [a,b,e] X.env=(false,eval a X.env) :: starEach [b,e] X.env:=by exact aT rfl) (he1:starEach [b,e] X.env=(false,eval b X.env) :: starEach [e] X.env:=by exact aT rfl) (he2:starEach [e] X.env=(false,eval e X.env) :: starEach [] X.env:=by exact aT rfl) (hpl:(backTo pos (starEach [b,e] X.env)).any (·.1)=false:=by rfl) :
  QZ X (.Return (some (.Call (.Name x p) [a,b,e] [] pos)) pos') (CT f ta tb tx):=by
 obtain⟨fa,fd,ps,G,hm,hk,hb⟩:=h.ex
 refine⟨fun B σ F H env D rp hq=>dG (u9 (uU (X:=X.cw (XZ X B D.xc)) G hr hg hm hk hb .nil Aq (cT bh (cT bh (cT bh gz he2) he1) he) hdb he hpl)) ?_⟩
 refine aA (ym (ha B σ F H env _ rp hq)) fun v H1 hq0=>?_
 obtain⟨F1,d,r1,s1,d1,q1⟩:=hq0
 refine aA (ym (hb' B σ F1 H1 env _ r1 q1)) fun v2 H2 hq0=>?_
 obtain⟨F2,d',r2,s2,d2,q2⟩:=hq0
 refine aA (hx.w r2 q2) fun v3 H3 hq0=>?_
 obtain⟨F3,d'',r3,s3,d3,q3⟩:=hq0
 exact⟨F3,[d,d',d''],D.rt,r3.fh,aO (Den.mono (s2.trans s3) _ _ d1) (aO (Den.mono s3 _ _ d2) (aO d3 aU)),q3,fun d v F' H' a b c n hd q=>⟨F',d,(r3.ext a c b n).bare,hd,q⟩⟩
end
end L2.L3
namespace L2.L3
open PySem PySem.Spec PyProof.Rows
def Aa (ds:List D) (Q:D→Prop):Prop:=match ds with
 | [.lst xs]=>∃ns:List Int,xs=ns.map D.int∧ns≠[]∧∀M:Int,M∈ns→(∀n∈ns,n≤M)→Q (.int M)
 | _=>False
section
variable {X:Cx} {e:Expr} {ts:eQ} {p pos:Pos}
theorem Bh (hc:X.calm=true):dB X (.builtin "max") (fun xs H Q=>∃(p:Addr) (ns:List Int),xs=[.ref p]∧fL X.K H p (ns.map V.int)∧ns≠[]∧∀M:Int,M∈ns→(∀n∈ns,n≤M)→Q (.int M) H):=by
 intro pins s σ H xs us Q I r h
 obtain⟨p,ns,rfl,hq,h0,q⟩:=h
 obtain⟨u,rfl,rx⟩:=vals1 r
 cases rx
 obtain⟨its,r',pl,hz⟩:=I.list hq
 have hl:=pl.isList
 have ll:=r'.length
 rw [MB] at ll
 have hn:0 < ns.length:=List.length_pos_iff.mpr h0
 have hlt:p < s.heap.objs.size:=by obtain⟨_,e,_⟩:=hl;exact MI e
 have psz:(s.heap.push { cls:=.type "list_iterator",data:=.fields #[.ref p,.int 0 0] }).objs.size=s.heap.objs.size + 1:=by simp [Heap.push]
 have at_:∀(i:Nat) (v:Value),its.toArray[i]?=some v→∃t,v=.int (ns.getD i 0) t:=fun i v hP=>by
  obtain⟨y,h1,h2⟩:=fN r' (by simpa using hP:its[i]?=some v)
  rw [Mu] at h1
  obtain⟨n,h3,rfl⟩:=MZ.mp h1
  obtain⟨t,rfl⟩:=h2
  exact⟨t,by show Value.int n t=Value.int (ns.getD i 0) t;rw [MU,h3];rfl⟩
 refine call_max_walk (wpAny_pyIter_list hl ?_)
 refine⟨s.heap.objs.size,[s.heap.objs.size,p],[s.heap.objs.size],its.toArray.size,_,_,fun i j=>decide (ns.getD i 0 > ns.getD j 0),rfl,Walks.list (A:=X.A.in1) (I.ok.hd hc) _ p (MR hlt) its.toArray,
  ⟨⟨_,MM _ rfl,rfl,rfl⟩,hl.push _⟩,fun b hb=>?_,by simp;omega,CmpOf.ints_gt (fun i=>ns.getD i 0) at_,fun v h' tk hv hk=>?_⟩
 ·show b < (s.heap.push _).objs.size
  rw [psz]
  simp only [ML,MT,or_false] at hb
  rcases hb with rfl | rfl
  ·exact Nat.lt_succ_self _
  ·exact Nat.lt_succ_of_lt hlt
 ·obtain⟨t,rfl⟩:=at_ _ _ hv
  have hb:=argBest_gt (fun i=>ns.getD i 0) (its.toArray.size - 1)
  have hs:its.toArray.size=ns.length:=by simp;omega
  rw [hs] at hb ⊢
  have hlt2:argBest (fun i j=>decide (ns.getD i 0 > ns.getD j 0)) (ns.length - 1) < ns.length:=by have:=hb.1;omega
  refine⟨.int _,H,I.kept (t':=tk) (qB hk),⟨_,rfl⟩,q _ ?_ fun n hn'=>?_⟩
  ·rw [MU,Mq hlt2];exact Nc hlt2
  ·obtain⟨j,hj,rfl⟩:=List.getElem_of_mem hn'
   have:=hb.2 j (by omega)
   rw [MU (l:=ns) (i:=j),Mq hj] at this
   exact this
theorem Fu:Call3 X (fun xs H Q=>∃(p:Addr) (ns:List Int),xs=[.ref p]∧fL X.K H p (ns.map V.int)∧ns≠[]∧∀M:Int,M∈ns→(∀n∈ns,n≤M)→Q (.int M) H) Aa:=by
 intro B σ F H env Q ds vs Z rp h hz hf
 unfold Aa at hf
 split at hf
 ·obtain⟨ns,rfl,h0,q⟩:=hf
  simp only [aq,Den] at h
  obtain⟨v,r,rfl,⟨p,ys,rfl,q',r⟩,rfl⟩:=h
  have:=pW ns r
  subst this
  exact⟨p,ns,rfl,rp.fh.seq q',h0,fun M h1 h2=>hz _ _ F _ rp (ar.refl _) bo (q M h1 h2)⟩
 ·exact hf.elim
theorem HI (hm:X.mg "max" = none) (ha:QA X [e] ts) (hg:Gl X "max":=by rfl) (hc:X.calm=true:=by rfl) (he:starEach [e] X.env=(false,eval e X.env) :: starEach [] X.env:=by exact aT rfl):QE X (.Call (.Name "max" p) [e] [] pos) (aw Aa ts) :=
 gY (Bh hc) Fu hg hm sZ ha (he:=he)
end
end L2.L3
namespace L2.L3
open PySem PySem.Spec PyProof.Rows
structure gX (k:Nat) (A:Around):Prop where
 dp:A.depth + 3 * k + 5 < recursionLimit
 un:A.units + 16 * k + 200 < cLine
theorem gX.deeper {k:Nat} {A:Around} (r:gX (k + 1) A) (env:Env):gX k (A.deeper env) :=
 ⟨by have:=r.dp;show A.depth + 1 + 3 * k + 5 < _;omega,by have:=r.un;show A.units + 3 + 16 * k + 200 < _;omega⟩
theorem gX.depth {k:Nat} {A:Around} (r:gX k A):A.depth < recursionLimit:=by have:=r.dp;omega
theorem gX.units {k:Nat} {A:Around} (r:gX k A):A.units + 64 < cLine:=by have:=r.un;omega
theorem _root_.L2.di.hand {k:Nat} {A:Around} (r:di k A) (v:Option Value):gX k (A.mark v):=⟨r.dp,r.un⟩
structure Lk (P:Program) (w:World) (K:PySem.W.Frag) (mg:Str→Option Value) (base:Heap) (k:Nat) (f:Addr) (fd:FuncData) (ps:List Str) (sp:Sp):Prop where
 len:∀vs H Q E,sp vs H Q E→vs.length=ps.length
 run:∀(A:Around) (outer:List Env) (s:Shared) (H:Hp) (args:Args) (us:List Value) (vs:List V) (Q:VK) (E:XK),gX k A→A9 P w K mg base A outer s H→BindsTo s fd args (ps.zip us)→Vals vs us→sp vs H Q E →
  codeAny (model P w) A (.call (.ref f) args) (CR tH outer P w H s Q E) s
def Jk (P:Program) (w:World) (K:PySem.W.Frag) (mg:Str→Option Value) (base:Heap) (N:List Str) (qual:Str) (scope:Scope) (f:Addr) (cd:Value) (A:Around) (outer:List Env) (s:Shared) (H:Hp) (E:XK):Cx :=
 { gO tH P w K mg base N qual scope f cd A outer s H E with calm:=false,xe:=fun _ _=>False }
section
variable {P:Program} {w:World} {K:PySem.W.Frag} {mg:Str→Option Value} {base:Heap}
theorem yN {N ps:List Str} {qual:Str} {scope:Scope} {f:Addr} {cd:Value} {A:Around} {outer:List Env} {s s1:Shared} {H:Hp} {E:XK} {us:List Value} {vs:List V}
  (S:aH N ps scope) (e0:A9 P w K mg base A outer s H) (hl:vs.length=ps.length) (r:Vals vs us)
  (x:InCallC s s.heap.objs.size (bindL (envOfC qual scope s.heap.objs.size f cd).kindOf (ps.zip us) fun _=>none) (cellsFrom (s.heap.objs.size + 1) scope.names []) (bindC (envOfC qual scope s.heap.objs.size f cd).kindOf (ps.zip us) fun _=>none) s1) :
  Inv (Jk P w K mg base N qual scope f cd A outer s H E) [] (start N vs) H s1:=by
 have I:Inv (gO tH P w K mg base N qual scope f cd { A with handled:=none } outer s H E) [] (start N vs) H s1 :=
  tX S rfl ⟨e0.frames,e0.mod,e0.bs,e0.bsz,e0.nc,e0.frf,e0.hok,e0.bare⟩ hl r x
 exact⟨⟨I.ok.mod,I.ok.kind,I.ok.glob,I.ok.blt,I.ok.above,I.ok.inj,I.ok.has,I.ok.cab,(fun z=>by cases z),I.ok.frames,I.ok.stk,I.ok.exf,I.ok.bs,I.ok.bsz,I.ok.noex,I.ok.exfs,I.ok.nc,I.ok.frf⟩,I.os,I.bare,I.base,I.loc,I.cell,I.free,I.freeC,I.pin,I.hok,I.len⟩
theorem HA {k:Nat} {f:Addr} {name qual:Str} {params:Arguments} {body:List Stmt} {scope:Scope} {dV kV doc pm cdv ct oc:Value} {an od:Option Addr}
  {osl:Array (Option Value)} {N ps:List Str} {sp:Sp} (lk:K.lookup f=some ⟨oc,od,.func (PySem.W.fnOf name qual params body scope dV kV doc pm an cdv ct),osl⟩) (hcd:PySem.W.codeIn K cdv qual=true) (S:aH N ps scope)
  (len:∀vs H Q E,sp vs H Q E→vs.length=ps.length)
  (hbody:∀(A:Around) (outer:List Env) (s:Shared) (H:Hp) (vs:List V) (Q:VK) (E:XK),gX k (A.deeper (envOfC qual scope s.heap.objs.size f cdv))→sp vs H Q E →
   ∃t,xD (Jk P w K mg base N qual scope f cdv A outer s H E) body t∧t { nx:=fun _ H'=>Q .non H',rt:=Q } (start N vs) H) :
  Lk P w K mg base (k + 1) f (PySem.W.fnOf name qual params body scope dV kV doc pm an cdv ct) ps sp:=by
 refine⟨len,fun A outer s H args us vs Q E hr e0 hb r hsp=>?_⟩
 have hl:=len _ _ _ _ hsp
 have KX:K.In s.heap:=e0.mod.kin.keeps fun b o e=>(e0.bs b o e).1
 have lim:s.heap.NoLimit:=e0.mod.nolimit.keeps fun b o e=>(e0.bs b o e).1
 have hkind:∀y∈ps.zip us,scope.names.lookup y.1=some .local∨(scope.names.lookup y.1=some .cell∧((cellsFrom (s.heap.objs.size + 1) scope.names []).lookup y.1).isSome=true):=fun⟨n,v⟩ hy=>by
  rcases S.par n (List.of_mem_zip hy).1 with q | q
  ·exact .inl q
  ·exact .inr ⟨q,PySem.W.cellsFrom_some _ _ _ (.inl q)⟩
 refine codeAny_call_function hr.depth (KX _ _ lk) rfl S.co S.gen rfl (PySem.W.codeRec_of KX hcd) (hb _ _ _ _ ?_)
 refine wpAny_newFunctionEnv_cells S.kind hkind fun env he s1 x=>?_
 subst he
 refine⟨lim.keeps x.toInCall.keep,codeAny_func ?_⟩
 obtain⟨t,ht,hq⟩:=hbody A outer s H vs Q E (hr.deeper _) hsp
 have I:Inv (Jk P w K mg base N qual scope f cdv A outer s H E) [] (start N vs) H s1:=yN S e0 hl r x
 refine MO (ht [] s1 (start N vs) H _ I hq) (fun fl s' hs=>?_) fun e s' hs=>False.elim hs
 have fin:∀{σ':St} {H':Hp} {v:V} {u:Value},Inv (Jk P w K mg base N qual scope f cdv A outer s H E) [] σ' H' s'→RelV v u→Q v H'→CE outer P w H s Q u s' :=
  fun {σ' H' v u} J rv q=>⟨v,H',J.os,J.bare,J.base,J.hok,rv,q⟩
 cases fl with
 | ret u =>
  obtain⟨v,σ',H',J,rv,q⟩:=hs
  exact fin J rv q
 | next =>
  obtain⟨σ',H',J,q⟩:=hs
  exact fin (v:=V.non) (u:=Value.none) J rfl q
 | brk =>
  obtain⟨_,_,_,q⟩:=hs
  exact False.elim q
 | cont =>
  obtain⟨_,_,_,q⟩:=hs
  exact False.elim q
structure rd (P:Program) (w:World) (K:PySem.W.Frag) (mg:Str→Option Value) (base:Heap) (k:Nat) (x:Str) (f:Fw):Prop where
 ex:∃(fa:Addr) (fd:FuncData) (ps:List Str),Lk P w K mg base k fa fd ps (Ep K f)∧mg x=some (.ref fa)∧PySem.W.keepIn K (.ref fa)=true∧Binds K fd ps []
theorem pz.zg {x qual:Str} {st:Stmt} {fa:Addr} {fd:FuncData} {N ps:List Str} {k:Nat} {f:Fw} (F:pz K x qual st fa fd) (S:aH N ps (ak st)) (hmg:mg x=some (.ref fa)) (hb:Binds K fd ps [])
  (hl:∀ds Q,f ds Q→ds.length=ps.length)
  (hbody:∀(cdv:Value) (A:Around) (outer:List Env) (s:Shared) (H:Hp) (E:XK),gX k (A.deeper (envOfC qual (ak st) s.heap.objs.size fa cdv)) →
   ∃t,oF (Jk P w K mg base N qual (ak st) fa cdv A outer s H E) (bp st) t∧∀ds (Q:D→Prop),f ds Q→t { nx:=fun _=>Q .non,rt:=Q } (aF N ds)) :
  rd P w K mg base (k + 1) x f:=by
 refine⟨fa,fd,ps,?_,hmg,F.kp,hb⟩
 obtain⟨oc,od,kV,doc,pm,an,cdv,ct,osl,rfl,lk,hcd⟩:=F.ex
 refine HA lk hcd S (fun vs H Q E h=>?_) fun A outer s H vs Q E hr h=>?_
 ·obtain⟨F0,ds,P,_,hd,hf,_⟩:=h
  rw [← hd.length];exact hl ds _ hf
 ·obtain⟨F0,ds,P,fh,hd,hf,kk⟩:=h
  obtain⟨t,ht,hq⟩:=hbody cdv A outer s H E hr
  refine⟨_,eT,?_⟩
  have core:=ht _ (start N vs) F0 H (aF N ds) _ (gE fh hd) (hq ds P hf)
  refine gL core (fun σ' H' ⟨F',env',r,q⟩=>?_) (fun v H' ⟨F',d',r,dd,q⟩=>?_) (fun _ _ ⟨_,_,_,q⟩=>q) (fun _ _ ⟨_,_,_,q⟩=>q)
  ·exact kk .non .non F' H' r.f0 r.h0 r.fh (fun p h1 h2=>r.nf p ⟨h1,h2⟩) jd q
  ·exact kk d' v F' H' r.f0 r.h0 r.fh (fun p h1 h2=>r.nf p ⟨h1,h2⟩) dd q
end
section
variable {X:Cx} {e:Expr} {es:List Expr} {t:TA} {ts:eQ} {p pos:Pos} {x:Str} {k:Nat} {f:Fw} {fa:Addr} {fd:FuncData} {ps:List Str} {sp:Sp} {E:XK}
theorem Ec (F:Lk X.prog X.w X.K X.mg X.base k fa fd ps sp) (hr:gX k X.A) (hg:Gl X x) (hm:X.mg x=some (.ref fa)) (hk:PySem.W.keepIn X.K (.ref fa)=true) (hb:Binds X.K fd ps []) (hx:Passes tH X E)
  (ha:PA X (e :: es) t) (hdb:(x == ("__debug__" : Str))=false:=by decide) (he:starEach (e :: es) X.env=(false,eval e X.env) :: starEach es X.env:=by rfl) (hpl:(backTo pos (starEach es X.env)).any (·.1)=false:=by rfl) :
  PE X (.Call (.Name x p) (e :: es) [] pos) (Ge sp [] E t):=by
 intro pins s σ H Q I h
 refine wpAny_Call_Name_kw (iV I hg hm ?_ hdb)
 refine PySem.W.callWith_K (h₀:=X.base) I.ok.mod.kin hk (bH (ha pos pins s σ H _ I h) fun us s1 ⟨vs,H1,I1,r,q⟩=>⟨I1.tD,?_⟩) he hpl
 have r2:Vals (vs ++ []) (us ++ []):=r.append .nil
 have hl:(us ++ []).length=ps.length:=by rw [← r2.length];exact F.len _ _ _ _ q
 refine wpAny_call (codeAny_mono (F.run X.A X.stack s1 H1 ⟨us,[]⟩ (us ++ []) (vs ++ []) Q E hr I1.fS (hb s1 us I1.tD hl) r2 q) fun r s' hq=>?_)
 cases r with
 | error e=>exact hx pins σ H1 s1 e s' I1 hq
 | ok fl =>
  cases fl with
  | ret u=>exact I1.after hq
  | next=>exact False.elim hq
  | brk=>exact False.elim hq
  | cont=>exact False.elim hq
theorem E1 (h:rd X.prog X.w X.K X.mg X.base k x f) (hr:gX k X.A) (ha:QA X (e :: es) ts) (hg:Gl X x:=by rfl) (hdb:(x == ("__debug__" : Str))=false:=by decide)
  (he:starEach (e :: es) X.env=(false,eval e X.env) :: starEach es X.env:=by exact aT rfl) (hpl:(backTo pos (starEach es X.env)).any (·.1)=false:=by rfl):QE X (.Call (.Name x p) (e :: es) [] pos) (aw f ts):=by
 refine⟨?_⟩
 intro B σ F H env Q rp hq
 obtain⟨fa,fd,ps,G,hm,hk,hb⟩:=h.ex
 refine bN (Ec G hr hg hm hk hb Aq jF hdb he hpl) ?_
 refine cy (ha B σ F H env _ rp hq) fun vs H1 hq0=>?_
 obtain⟨F1,ds,r1,s1,d1,hf⟩:=hq0
 rw [MV]
 exact⟨F1,ds,Q,r1.fh,d1,hf,fun d v F' H' a b c n hd q=>⟨F',d,r1.ext a c b n,s1.trans a,hd,q⟩⟩
end
end L2.L3
namespace L2.L3
open PySem PySem.Spec PyProof.Rows
structure bt (K:PySem.W.Frag) (x:Str) (st:Stmt):Prop where
 ex:∃(f:Addr) (oc:Value) (od an:Option Addr) (sl:Array (Option Value)) (kV dc pm cd ct:Value),PySem.W.nsIn K mainGlobals x=some (some (.ref f)) ∧
  K.lookup f=some ⟨oc,od,.func (PySem.W.fnOf x x (dN st) (bp st) (ak st) .none kV dc pm an cd ct),sl⟩∧PySem.W.codeIn K cd x=true∧PySem.W.keepIn K (.ref f)=true
structure yp (K:PySem.W.Frag) (x:Str) (st:Stmt) (i:Int):Prop where
 ex:∃(f:Addr) (oc:Value) (od an:Option Addr) (sl:Array (Option Value)) (ta:Addr) (kV dc pm cd ct:Value) (tn:Nat) (ts:Array (Option Value)) (tt:Tok),PySem.W.nsIn K mainGlobals x=some (some (.ref f)) ∧
  K.lookup f=some ⟨oc,od,.func (PySem.W.fnOf x x (dN st) (bp st) (ak st) (.ref ta) kV dc pm an cd ct),sl⟩∧PySem.W.codeIn K cd x=true∧PySem.W.keepIn K (.ref f)=true ∧
  K.lookup ta=some ⟨.type "tuple",none,.seq #[.int i tt] tn,ts⟩
section
variable {K:PySem.W.Frag} {h:Heap} {mg:Str→Option Value} {x:Str} {st:Stmt} {i:Int}
theorem bt.get {ps:List Str} (D:bt K x st) (X:K.In h) (G:h.Ns mainGlobals mg)
  (hb:∀(kV doc pm:Value) (an:Option Addr) (cdv ct:Value) (us:List Value),us.length=ps.length→bindArgs (PySem.W.fnOf x x (dN st) (bp st) (ak st) .none kV doc pm an cdv ct) ⟨us,[]⟩=pure (ps.zip us)) :
  ∃fa fd,pz K x x st fa fd∧mg x=some (.ref fa)∧Binds K fd ps []:=by
 obtain⟨f,oc,od,an,sl,kV,dc,pm,cd,ct,a,l,c,k⟩:=D.ex
 have F:=CJ l c k
 exact⟨f,_,F,Ni X G a,F.binds hb⟩
theorem yp.get {ps:List Str} (D:yp K x st i) (X:K.In h) (G:h.Ns mainGlobals mg)
  (hb:∀(ta:Addr) (tn:Nat) (ts:Array (Option Value)) (tt:Tok) (kV doc pm:Value) (an:Option Addr) (cdv ct:Value),K.lookup ta=some ⟨.type "tuple",none,.seq #[.int i tt] tn,ts⟩→Binds K (PySem.W.fnOf x x (dN st) (bp st) (ak st) (.ref ta) kV doc pm an cdv ct) ps [.int i tt]) :
  ∃fa fd tt,ux K x x st fa fd∧mg x=some (.ref fa)∧Binds K fd ps [.int i tt]:=by
 obtain⟨f,oc,od,an,sl,ta,kV,dc,pm,cd,ct,tn,ts,tt,a,l,c,k,dl⟩:=D.ex
 exact⟨f,_,tt,E6 l c k,Ni X G a,hb ta tn ts tt _ _ _ _ _ _ dl⟩
theorem bt.Mm {fa:Addr} {p:Str} (D:bt K x st) (X:K.In h) (G:h.Ns mainGlobals mg) (hfa:mg x=some (.ref fa))
  (hb:∀(kV doc pm:Value) (an:Option Addr) (cdv ct:Value) (v:Value),bindArgs (PySem.W.fnOf x x (dN st) (bp st) (ak st) .none kV doc pm an cdv ct) ⟨[v],[]⟩=pure [(p,v)]) :
  ∃fd,pz K x x st fa fd∧∀(s:Shared) (v:Value),BindsTo s fd ⟨[v],[]⟩ [(p,v)]:=by
 obtain⟨f,oc,od,an,sl,kV,dc,pm,cd,ct,a,l,c,k⟩:=D.ex
 have e:=hfa.symm.trans (Ni X G a)
 cases e
 exact⟨_,CJ l c k,fun s v=>.of_eq (hb kV dc pm an cd ct v)⟩
end
theorem Mc {P:List Value→Prop} (h:P []) (us:List Value) (hu:us.length=0):P us:=by
 cases us with
 | nil=>exact h
 | cons a l=>simp at hu
theorem AO {P:List Value→Prop} (h:∀a,P [a]) (us:List Value) (hu:us.length=1):P us:=by
 cases us with
 | nil=>simp at hu
 | cons a l=>exact Mc (P:=fun l=>P (a :: l)) (h a) l (by simpa using hu)
theorem vK {P:List Value→Prop} (h:∀a b,P [a,b]) (us:List Value) (hu:us.length=2):P us:=by
 cases us with
 | nil=>simp at hu
 | cons a l=>exact AO (P:=fun l=>P (a :: l)) (h a) l (by simpa using hu)
theorem Hi {P:List Value→Prop} (h:∀a b c,P [a,b,c]) (us:List Value) (hu:us.length=3):P us:=by
 cases us with
 | nil=>simp at hu
 | cons a l=>exact vK (P:=fun l=>P (a :: l)) (h a) l (by simpa using hu)
structure Df (K:PySem.W.Frag) (mg:Str→Option Value) (x:Str) (st:Stmt) (ps:List Str):Prop where
 ex:∃fa fd,pz K x x st fa fd∧mg x=some (.ref fa)∧Binds K fd ps []
structure KC (K:PySem.W.Frag) (mg:Str→Option Value) (x:Str) (st:Stmt) (ps:List Str) (i:Int):Prop where
 ex:∃fa fd tt,ux K x x st fa fd∧mg x=some (.ref fa)∧Binds K fd ps [.int i tt]
section
variable {P:Program} {w:World} {K:PySem.W.Frag} {mg:Str→Option Value} {base:Heap} {x:Str} {st:Stmt} {N ps:List Str} {k:Nat} {f:Fw} {fx:A4} {i:Int}
theorem Df.known (F:Df K mg x st ps) (S:aH N ps (ak st)) (hl:∀ds Q,f ds Q→ds.length=ps.length)
  (hbody:∀(fa:Addr) (cdv:Value) (A:Around) (outer:List Env) (s:Shared) (H:Hp) (E:XK),di k (A.deeper (envOfC x (ak st) s.heap.objs.size fa cdv)) →
   ∃t,oF (gO tH P w K mg base N x (ak st) fa cdv A outer s H E).oZ (bp st) t∧∀ds (Q:D→Prop),f ds Q→t { nx:=fun _=>Q .non,rt:=Q } (aF N ds)):Known P w K mg base (k + 1) x f :=
 let ⟨fa,_,F,m,b⟩:=F.ex;pz.known F S m b hl (hbody fa)
theorem KC.known (F:KC K mg x st ps i) (S:aH N ps (ak st)) (hl:∀ds Q,f ds Q→ds.length=ps.length)
  (hbody:∀(fa:Addr) (cdv:Value) (A:Around) (outer:List Env) (s:Shared) (H:Hp) (E:XK),di k (A.deeper (envOfC x (ak st) s.heap.objs.size fa cdv)) →
   ∃t,oF (gO tH P w K mg base N x (ak st) fa cdv A outer s H E).oZ (bp st) t∧∀ds (Q:D→Prop),f ds Q→t { nx:=fun _=>Q .non,rt:=Q } (aF N ds)):rh P w K mg base (k + 1) x f i :=
 let ⟨fa,_,_,F,m,b⟩:=F.ex;ux.known F S m b hl (hbody fa)
theorem Df.zg (F:Df K mg x st ps) (S:aH N ps (ak st)) (hl:∀ds Q,f ds Q→ds.length=ps.length)
  (hbody:∀(fa:Addr) (cdv:Value) (A:Around) (outer:List Env) (s:Shared) (H:Hp) (E:XK),gX k (A.deeper (envOfC x (ak st) s.heap.objs.size fa cdv)) →
   ∃t,oF (Jk P w K mg base N x (ak st) fa cdv A outer s H E) (bp st) t∧∀ds (Q:D→Prop),f ds Q→t { nx:=fun _=>Q .non,rt:=Q } (aF N ds)):rd P w K mg base (k + 1) x f :=
 let ⟨fa,_,F,m,b⟩:=F.ex;pz.zg F S m b hl (hbody fa)
theorem Df.rF (F:Df K mg x st ps) (S:aH N ps (ak st)) (hl:∀ds Q R,fx ds Q R→ds.length=ps.length)
  (hbody:∀(fa:Addr) (cdv:Value) (A:Around) (outer:List Env) (s:Shared) (H:Hp) (E:XK),di k (A.deeper (envOfC x (ak st) s.heap.objs.size fa cdv)) →
   ∃t,Ji (gO (Fg P w) P w K mg base N x (ak st) fa cdv A outer s H E) (bp st) t∧∀ds (Q:D→Prop) (R:Str→Prop),fx ds Q R→t { nx:=fun _=>Q .non,rt:=Q,xc:=R } (aF N ds)):fv P w K mg base (k + 1) x fx :=
 let ⟨fa,_,F,m,b⟩:=F.ex;pz.rF F S m b hl (hbody fa)
theorem Df.zf (F:Df K mg x st ps) (S:aH N ps (ak st)) (hl:∀ds Q R,fx ds Q R→ds.length=ps.length)
  (hbody:∀(fa:Addr) (cdv:Value) (A:Around) (outer:List Env) (s:Shared) (H:Hp) (E:XK),di k (A.deeper (envOfC x (ak st) s.heap.objs.size fa cdv)) →
   ∃t,Jf (gO (Fg P w) P w K mg base N x (ak st) fa cdv A outer s H E) (bp st) t∧∀ds (Q:D→Prop) (R:Str→Prop),fx ds Q R→t { nx:=fun _=>Q .non,rt:=Q,xc:=R } (aF N ds)):fv P w K mg base (k + 1) x fx :=
 let ⟨fa,_,F,m,b⟩:=F.ex;pz.zf F S m b hl (hbody fa)
end
end L2.L3
namespace L2.L3
open PySem
structure M4 where
 a:Int
 b:Int
 c:Int
 d:Int
 deriving DecidableEq
namespace M4
def toD (m:M4):D:=.tup [.int m.a,.int m.b,.int m.c,.int m.d]
def mul (m k:M4):M4:=⟨m.a * k.a + m.b * k.c,m.a * k.b + m.b * k.d,m.c * k.a + m.d * k.c,m.c * k.b + m.d * k.d⟩
def neg (m:M4):M4:=⟨-m.a,-m.b,-m.c,-m.d⟩
def det (m:M4):Int:=m.a * m.d - m.b * m.c
def Ee (m:M4):Prop:=m.c < 0∨(m.c=0∧m.d < 0)
instance (m:M4):Decidable m.Ee:=inferInstanceAs (Decidable (_∨_))
def up (m:M4):M4:=if m.Ee then m.neg else m
def B (n:Nat) (m:M4):Prop:=dg n m.a∧dg n m.b∧dg n m.c∧dg n m.d
def one:M4:=⟨1,0,0,1⟩
theorem B.mul {n k:Nat} {m l:M4} (h:m.B n) (g:l.B k):(m.mul l).B (n + k + 1):=by
 obtain⟨h1,h2,h3,h4⟩:=h
 obtain⟨g1,g2,g3,g4⟩:=g
 have two:∀{x y u v:Int},dg n x→dg k y→dg n u→dg k v→dg (n + k + 1) (x * y + u * v):=fun hx hy hu hv=>by
  have:=bits_add (bits_mul hx hy) (bits_mul hu hv)
  rwa [Nat.max_self] at this
 exact⟨two h1 g1 h2 g3,two h1 g2 h2 g4,two h3 g1 h4 g3,two h3 g2 h4 g4⟩
theorem B.neg {n:Nat} {m:M4} (h:m.B n):m.neg.B n:=⟨bits_neg h.1,bits_neg h.2.1,bits_neg h.2.2.1,bits_neg h.2.2.2⟩
theorem CL {m:M4} (h:m.Ee):m.up=m.neg:=Mw h
theorem CG {m:M4} (h:¬ m.Ee):m.up=m:=Ms h
theorem B.up {n:Nat} {m:M4} (h:m.B n):m.up.B n:=by
 unfold M4.up;split
 ·exact h.neg
 ·exact h
theorem B.le {n k:Nat} {m:M4} (h:m.B n) (hk:n≤k):m.B k:=⟨bits_le h.1 hk,bits_le h.2.1 hk,bits_le h.2.2.1 hk,bits_le h.2.2.2 hk⟩
theorem zO (m k:M4):(m.mul k).det=m.det * k.det:=by
 simp only [det,mul]
 grind
end M4
def FH (x y:D) (Q:D→Prop):Prop:=∃(m k:M4) (n j:Nat),x=m.toD∧y=k.toD∧m.B n∧k.B j∧n + j≤1000000∧Q (m.mul k).up.toD
def dP:Fw:=F2 FH
def jY:bB:=(aE (kT (ag 0) (iw 4 (ba (aR 2) (ba (aR 3) (ba (aR 4) (ba (aR 5) h7)))))) (aE (kT (ag 1) (iw 4 (ba (aR 6) (ba (aR 7) (ba (aR 8) (ba (aR 9) h7)))))) (aE (aV 10 (bQ (af (aB bK (aB gF (ag 2) (ag 6)) (aB gF (ag 3) (ag 8))) (af (aB bK (aB gF (ag 2) (ag 7)) (aB gF (ag 3) (ag 9))) (af (aB bK (aB gF (ag 4) (ag 6)) (aB gF (ag 5) (ag 8))) (af (aB bK (aB gF (ag 4) (ag 7)) (aB gF (ag 5) (ag 9))) au)))))) (aE (eR (ya (aJ (aB yb (aB bP (ag 10) (cC (.int 2))) (cC (.int 0)))) (n8 (aJ (aB gN (aB bP (ag 10) (cC (.int 2))) (cC (.int 0)))) (aJ (aB yb (aB bP (ag 10) (cC (.int 3))) (cC (.int 0)))))) (bb (aw f7 (af (cY (hJ [] (ag 10) cJ (aB fW (cC (.int 0)) (ag 0)))) au))) a8) (bb (ag 10))))))
theorem rT:∀ds Q,dP ds Q→ds.length=2:=iE
theorem uI:∀ds (Q:D→Prop),dP ds Q→jY { nx:=fun _=>Q .non,rt:=Q } (aF ["_law_one","_law_other","_law_a","_law_b","_law_c","_law_d","_law_e","_law_f","_law_g","_law_h","_law_found"] ds):=by
 rintro ds Q ⟨x,y,rfl,m,k,n,j,rfl,rfl,⟨h1,h2,h3,h4⟩,⟨g1,g2,g3,g4⟩,hs,h⟩
 simp_all_arith only [jY,M4.toD]
 refine⟨ib h1 g1 hs,ib h2 g3 hs,ib h1 g2 hs,ib h2 g4 hs,ib h3 g1 hs,ib h4 g3 hs,ib h3 g2 hs,ib h4 g4 hs,?_⟩
 have e:m.mul k=⟨m.a * k.a + m.b * k.c,m.a * k.b + m.b * k.d,m.c * k.a + m.d * k.c,m.c * k.b + m.d * k.d⟩:=rfl
 rw [e] at h
 clear e
 generalize m.a * k.a + m.b * k.c=p at *
 generalize m.a * k.b + m.b * k.d=q at *
 generalize m.c * k.a + m.d * k.c=r at *
 generalize m.c * k.b + m.d * k.d=t at *
 clear h1 h2 h3 h4 g1 g2 g3 g4 hs
 have neg:∀R:D→Prop,R (⟨p,q,r,t⟩:M4).neg.toD→comps cJ (aB fW (cC (.int 0)) (ag 0)) [none] (fun ds=>R (.tup ds)) [.int p,.int q,.int r,.int t] []:=fun R hR=>by
  simp_all_arith only [comps,cb,Int.zero_sub]
  exact hR
 refine⟨_,rfl,?_⟩
 simp_all_arith only [and_true]
 by_cases c1:r < 0
 ·rw [M4.CL (show (⟨p,q,r,t⟩:M4).Ee from .inl c1)] at h
  rw [Mw c1]
  exact neg _ h
 ·rw [Ms c1]
  refine⟨_,rfl,?_⟩
  simp_all_arith only [and_true]
  by_cases c2:r=0
  ·rw [Mw c2]
   refine⟨_,rfl,?_⟩
   simp_all_arith only [and_true]
   by_cases c3:t < 0
   ·rw [M4.CL (show (⟨p,q,r,t⟩:M4).Ee from .inr ⟨c2,c3⟩)] at h
    rw [Mw c3]
    exact neg _ h
   ·rw [M4.CG (show ¬ (⟨p,q,r,t⟩:M4).Ee from by unfold M4.Ee;simp only;omega)] at h
    rw [Ms c3];exact h
  ·rw [M4.CG (show ¬ (⟨p,q,r,t⟩:M4).Ee from by unfold M4.Ee;simp only;omega)] at h
   rw [Ms c2];exact h
def isLet (c:Nat):Prop:=c=115∨c=114∨c=113
def LW (z:Str):Prop:=∀c∈z.cps.toList,isLet c
def As:List Nat→Prop
 | x :: y :: r=>((x=115)↔¬ (y=115))∧As (y :: r)
 | _=>True
theorem sP:∀(xs:List Nat) (y:Nat),As xs→(∀x,xs.getLast?=some x→((x=115)↔¬ (y=115)))→As (xs ++ [y])
 | [],_,_,_=>trivial
 | [x],y,_,h=>⟨h x rfl,trivial⟩
 | x :: x' :: r,y,h,hl=>⟨h.1,sP (x' :: r) y h.2 (fun z hz=>hl z (by simpa [List.getLast?_cons_cons] using hz))⟩
def bC (c:Nat):M4:=if c=115 then ⟨0,-1,1,0⟩ else if c=114 then ⟨0,-1,1,-1⟩ else ⟨1,-1,1,0⟩
theorem Cc (c:Nat):(bC c).B 1:=by
 unfold bC;split
 ·exact⟨dZ _ _ (by decide),dZ _ _ (by decide),dZ _ _ (by decide),dZ _ _ (by decide)⟩
 ·split
  ·exact⟨dZ _ _ (by decide),dZ _ _ (by decide),dZ _ _ (by decide),dZ _ _ (by decide)⟩
  ·exact⟨dZ _ _ (by decide),dZ _ _ (by decide),dZ _ _ (by decide),dZ _ _ (by decide)⟩
theorem snoc_ind {α:Type} {P:List α→Prop} (h0:P []) (hs:∀r c,P r→P (r ++ [c])) (xs:List α):P xs:=by
 have h:∀ys:List α,P ys.reverse:=fun ys=>by
  induction ys with
  | nil=>exact h0
  | cons y r ih=>rw [List.reverse_cons];exact hs _ _ ih
 simpa using h xs.reverse
def jy (cs:List Nat):M4:=cs.foldl (fun m c=>(m.mul (bC c)).up) M4.one
theorem lU (cs:List Nat) (c:Nat):jy (cs ++ [c])=((jy cs).mul (bC c)).up:=by
 unfold jy;rw [List.foldl_append];rfl
theorem ET (cs:List Nat):(jy cs).B (2 * cs.length + 1):=by
 refine snoc_ind (P:=fun cs=>(jy cs).B (2 * cs.length + 1)) ?_ ?_ cs
 ·exact⟨dZ _ _ (by decide),dZ _ _ (by decide),dZ _ _ (by decide),dZ _ _ (by decide)⟩
 ·intro r c ih
  rw [lU]
  exact ((ih.mul (Cc c)).up).le (by simp;omega)
def IV (x:D) (Q:D→Prop):Prop:=∃z:Str,x=.str z∧LW z∧z.length≤100000∧Q (jy z.cps.toList).toD
def bj:Fw:=F1 IV
def iA:bB:=(aE (aV 1 (bQ (af (cC (.int 1)) (af (cC (.int 0)) (af (cC (.int 0)) (af (cC (.int 1)) au)))))) (aE (jV (ag 0) (aR 2) (aV 1 (aw dP (af (ag 1) (af (aB Kt (ny [.inr "s",.inr "r",.inr "q"] (af (bQ (af (cC (.int 0)) (af (qS jD (cC (.int 1))) (af (cC (.int 1)) (af (cC (.int 0)) au))))) (af (bQ (af (cC (.int 0)) (af (qS jD (cC (.int 1))) (af (cC (.int 1)) (af (qS jD (cC (.int 1))) au))))) (af (bQ (af (cC (.int 1)) (af (qS jD (cC (.int 1))) (af (cC (.int 1)) (af (cC (.int 0)) au))))) au)))) (ag 2)) au))))) (bb (ag 1))))
theorem pq:∀ds Q,bj ds Q→ds.length=1:=jZ
theorem qq:∀ds (Q:D→Prop),bj ds Q→iA { nx:=fun _=>Q .non,rt:=Q } (aF ["_law_word_here","_law_found","_law_letter"] ds):=by
 rintro ds Q ⟨x,rfl,z,rfl,hz,hl,h⟩
 simp_all_arith only [iA,cX]
 refine bD (fun i e=>∃k,e=[some (.d (.str z)),some (.d (jy (z.cps.toList.take i)).toD),k]) ?_ ?_ ⟨_,rfl⟩
 ·rintro i x env N hx ⟨k,rfl⟩ hN
  unfold dq at hx
  rw [Mu] at hx
  cases hc:z.cps.toList[i]? with
  | none=>rw [hc] at hx;cases hx
  | some c =>
   rw [hc] at hx
   cases hx
   have hcl:=hz c (MA hc)
   have hi:=(Mo.mp hc).1
   have hzl:z.length=z.cps.toList.length:=by simp [Str.length]
   simp_all_arith only [dP,cU,Kt,Ei]
   have e:wx [Sum.inr (Str.ofString "s"),Sum.inr (Str.ofString "r"),Sum.inr (Str.ofString "q")] [D.tup [D.int 0,D.int (-1),D.int 1,D.int 0],D.tup [D.int 0,D.int (-1),D.int 1,D.int (-1)],D.tup [D.int 1,D.int (-1),D.int 1,D.int 0]] (Sum.inr ⟨#[c]⟩)=some (bC c).toD:=by
    rcases hcl with rfl | rfl | rfl <;> rfl
   refine⟨_,_,rfl,e,?_⟩
   refine⟨_,_,_,_,rfl,rfl,ET _,Cc c,?_,hN _ ⟨some (.d (.str ⟨#[c]⟩)),?_⟩⟩
   ·rw [List.length_take];omega
   ·rw [Nk,hc]
    simp only [Option.toList]
    rw [lU]
 ·rintro env ⟨k,rfl⟩
  simp_all_arith only [and_true]
  rw [Nb (by simp [dq])]
  exact h
end L2.L3
namespace L2.L3
open PySem
abbrev Z2:=Int×Int
def f6 (x:Z2):D:=.tup [.int x.1,.int x.2]
def LB (x:Z2):Prop:=x.2 < 0∨(x.2=0∧x.1 < 0)
instance (x:Z2):Decidable (LB x):=inferInstanceAs (Decidable (_∨_))
theorem CS (m:M4):m.up=m∨m.up=m.neg:=by
 unfold M4.up;split
 ·exact .inr rfl
 ·exact .inl rfl
end L2.L3
namespace L2.L3
open PySem
def B2 (n:Nat) (x:Z2):Prop:=dg n x.1∧dg n x.2
theorem B8 {n m:Nat} {x:Z2} (h:B2 n x) (hm:n≤m):B2 m x:=⟨bits_le h.1 hm,bits_le h.2 hm⟩
theorem Kf:B2 1 ((1,0):Z2):=⟨dZ _ _ (by decide),dZ _ _ (by decide)⟩
end L2.L3
namespace L2.L3
open PySem
theorem Iq (x y:Z2):a6 (f6 x) (f6 y)=decide (x=y):=by
 simp only [f6,a6,dm,Bool.and_true]
 rw [Bool.eq_iff_iff];simp [Prod.ext_iff]
theorem CB (x:Z2):dep (f6 x)=1:=by simp [f6,dep,b9]
theorem HP {x y:Z2} {Q:D→Prop}:lr (f6 x) (f6 y) Q=Q (.bl (!decide (x=y))):=by
 unfold lr gA;rw [CB,CB,Iq];simp
end L2.L3
namespace L2.L3
open PySem
def G2 (P:D→D→(D→Prop)→(Str→Prop)→Prop):A4:=fun ds Q R=>∃x y,ds=[x,y]∧P x y Q R
theorem DW {P}:∀ds (Q:D→Prop) (R:Str→Prop),G2 P ds Q R→ds.length=2:=by rintro ds Q R ⟨x,y,rfl,_⟩;rfl
theorem Cg {P} {x y:D} {Q R}:G2 P [x,y] Q R=P x y Q R:=by
 unfold G2;apply propext;constructor
 ·rintro⟨x',y',e,h⟩;cases e;exact h
 ·intro h;exact⟨_,_,rfl,h⟩
end L2.L3
namespace L2.L3
open PySem
theorem wK {m k:M4} (h1:m.a=k.a) (h2:m.b=k.b) (h3:m.c=k.c) (h4:m.d=k.d):m=k:=by cases m;cases k;simp_all
theorem wu (m k:M4):m.neg.mul k=(m.mul k).neg:=by apply wK <;> simp only [M4.mul,M4.neg] <;> grind
theorem xj (m k:M4):m.mul k.neg=(m.mul k).neg:=by apply wK <;> simp only [M4.mul,M4.neg] <;> grind
theorem iM (m k l:M4):(m.mul k).mul l=m.mul (k.mul l):=by apply wK <;> simp only [M4.mul] <;> grind
theorem mE (m:M4):M4.one.mul m=m:=by apply wK <;> simp only [M4.mul,M4.one] <;> grind
theorem xq (m:M4):m.mul M4.one=m:=by apply wK <;> simp only [M4.mul,M4.one] <;> grind
theorem mD (m:M4):m.neg.neg=m:=by apply wK <;> simp [M4.neg]
def Eqv (m k:M4):Prop:=m=k∨m=k.neg
theorem Eqv.refl (m:M4):Eqv m m:=.inl rfl
theorem Eqv.symm {m k:M4} (h:Eqv m k):Eqv k m:=by
 rcases h with rfl | rfl
 ·exact .inl rfl
 ·exact .inr (mD k).symm
theorem Eqv.trans {m k l:M4} (h:Eqv m k) (g:Eqv k l):Eqv m l:=by
 rcases h with rfl | rfl
 ·exact g
 ·rcases g with rfl | rfl
  ·exact .inr rfl
  ·rw [mD];exact .inl rfl
theorem Eqv.mul {m m' k k':M4} (h:Eqv m m') (g:Eqv k k'):Eqv (m.mul k) (m'.mul k'):=by
 rcases h with rfl | rfl <;> rcases g with rfl | rfl
 ·exact .inl rfl
 ·exact .inr (xj _ _)
 ·exact .inr (wu _ _)
 ·rw [wu,xj,mD];exact .inl rfl
theorem Eqv.up (m:M4):Eqv m.up m:=CS m
def aQ:List Nat→M4
 | []=>M4.one
 | c :: r=>(bC c).mul (aQ r)
theorem cL (cs:List Nat) (c:Nat):aQ (cs ++ [c])=(aQ cs).mul (bC c):=by
 induction cs with
 | nil=>show (bC c).mul M4.one=M4.one.mul (bC c);rw [xq,mE]
 | cons x r ih=>show (bC x).mul (aQ (r ++ [c]))=((bC x).mul (aQ r)).mul (bC c);rw [ih,iM]
theorem AE (cs:List Nat):Eqv (jy cs) (aQ cs):=by
 refine snoc_ind (P:=fun cs=>Eqv (jy cs) (aQ cs)) (.refl _) (fun r c ih=>?_) cs
 rw [lU,cL]
 exact (Eqv.up _).trans (ih.mul (.refl _))
def Eg (m:M4):Prop:=1≤m.a∧1≤m.d∧m.b≤0∧m.c≤0∧m.det=1
def II (m:M4):Prop:=∃t:M4,Eg t∧(Eqv m t∨Eqv m (t.mul (bC 115)))
def aW (cs:List Nat):Prop:=As cs∧∀c∈cs,isLet c
theorem aW.tail {c:Nat} {r:List Nat} (h:aW (c :: r)):aW r:=by
 refine⟨?_,fun x hx=>h.2 x (ME _ hx)⟩
 cases r with
 | nil=>trivial
 | cons y s=>exact h.1.2
theorem Gq {t:M4} (h:Eg t):Eg ((⟨1,-1,0,1⟩:M4).mul t)∧((⟨1,-1,0,1⟩:M4).mul t).b < 0:=by
 obtain⟨h1,h2,h3,h4,h5⟩:=h
 have hd:((⟨1,-1,0,1⟩:M4).mul t).det=1:=by rw [M4.zO,h5];rfl
 refine⟨⟨?_,?_,?_,?_,hd⟩,?_⟩ <;> simp only [M4.mul] <;> omega
theorem Ga {t:M4} (h:Eg t):Eg ((⟨1,0,-1,1⟩:M4).mul t)∧((⟨1,0,-1,1⟩:M4).mul t).c < 0:=by
 obtain⟨h1,h2,h3,h4,h5⟩:=h
 have hd:((⟨1,0,-1,1⟩:M4).mul t).det=1:=by rw [M4.zO,h5];rfl
 refine⟨⟨?_,?_,?_,?_,hd⟩,?_⟩ <;> simp only [M4.mul] <;> omega
theorem KI:Eqv ((bC 115).mul (bC 114)) ⟨1,-1,0,1⟩:=.inr (by decide)
theorem K2:Eqv ((bC 115).mul (bC 113)) ⟨1,0,-1,1⟩:=.inr (by decide)
def pZ (m:M4):Prop:=∃t:M4,Eg t∧((Eqv m t∧(t.b < 0∨t.c < 0))∨Eqv m (t.mul (bC 115)))
theorem pZ.Ma {m:M4} (h:pZ m):II m:=by
 obtain⟨t,p,h⟩:=h
 exact⟨t,p,h.imp (·.1) id⟩
theorem Aj:Eg M4.one:=by unfold Eg;decide
theorem Ac:II M4.one:=⟨M4.one,Aj,.inl (.refl _)⟩
theorem tG {u m:M4} (hu:∀t,Eg t→Eg (u.mul t)∧((u.mul t).b < 0∨(u.mul t).c < 0)) (h:II m):pZ (u.mul m):=by
 obtain⟨t,p,h⟩:=h
 refine⟨u.mul t,(hu t p).1,?_⟩
 rcases h with h | h
 ·exact .inl ⟨(Eqv.refl u).mul h,(hu t p).2⟩
 ·right;rw [iM];exact (Eqv.refl u).mul h
theorem pZ.eqv {m k:M4} (h:pZ k) (e:Eqv m k):pZ m:=by
 obtain⟨t,p,h⟩:=h
 exact⟨t,p,h.imp (fun z=>⟨e.trans z.1,z.2⟩) fun z=>e.trans z⟩
theorem CA:pZ (bC 115):=⟨M4.one,Aj,.inr (by rw [mE];exact .refl _)⟩
theorem rb:∀(cs:List Nat),aW cs→(cs=[]→II (aQ cs))∧(∀r,cs=115 :: r→pZ (aQ cs))∧∀c r,cs=c :: r→c≠115→II (aQ r)
 | [],_=>⟨fun _=>Ac,fun r h=>by simp at h,fun c r h=>by simp at h⟩
 | [c],h=>by
  refine⟨fun e=>by simp at e,fun r e=>?_,fun x r e _=>?_⟩
  ·cases e;show pZ ((bC 115).mul M4.one);rw [xq];exact CA
  ·cases e;exact Ac
 | c :: y :: r,h=>by
  have ih:=rb (y :: r) h.tail
  have ih2:=rb r h.tail.tail
  refine⟨fun e=>by simp at e,fun r' e=>?_,fun x r' e hx=>?_⟩
  ·cases e
   have hy:y≠115:=h.1.1.mp rfl
   have hb:=ih.2.2 y r rfl hy
   have hl:isLet y:=h.2 y (by simp)
   show pZ ((bC 115).mul ((bC y).mul (aQ r)))
   rw [← iM]
   rcases hl with z | z | z
   ·exact absurd z hy
   ·subst z
    exact (tG (fun t p=>⟨(Gq p).1,.inl (Gq p).2⟩) hb).eqv (KI.mul (.refl _))
   ·subst z
    exact (tG (fun t p=>⟨(Ga p).1,.inr (Ga p).2⟩) hb).eqv (K2.mul (.refl _))
  ·cases e
   have hy:y=115:=by
    rcases Nat.decEq y 115 with z | z
    ·exact absurd (h.1.1.mpr z) hx
    ·exact z
   subst hy
   exact (ih.2.1 r rfl).Ma
def ia (p q:Int):Prop:=(p < 0∧0 < q)∨(q < 0∧0 < p)
instance (p q:Int):Decidable (ia p q):=inferInstanceAs (Decidable (_∨_))
def upper (m:M4):Nat:=m.a.natAbs + m.b.natAbs
def lower (m:M4):Nat:=m.c.natAbs + m.d.natAbs
def wC (m:M4):Nat:=if upper m=lower m∨ia m.a m.c∨ia m.b m.d then 115 else if upper m < lower m then 114 else 113
theorem FT (m:M4):wC m.neg=wC m:=by
 have e1:upper m.neg=upper m:=by unfold upper M4.neg;simp
 have e2:lower m.neg=lower m:=by unfold lower M4.neg;simp
 have d1:ia m.neg.a m.neg.c↔ia m.a m.c:=by unfold ia M4.neg;simp only;omega
 have d2:ia m.neg.b m.neg.d↔ia m.b m.d:=by unfold ia M4.neg;simp only;omega
 unfold wC
 rw [e1,e2]
 simp only [d1,d2]
theorem iY {m k:M4} (h:Eqv m k):wC m=wC k:=by
 rcases h with rfl | rfl
 ·rfl
 ·exact FT k
theorem jh {m k:M4} (h:Eqv m k):(m.b≠0∨m.c≠0)↔(k.b≠0∨k.c≠0):=by
 rcases h with rfl | rfl
 ·exact Iff.rfl
 ·unfold M4.neg;simp only;omega
theorem Lq {m:M4} (h:pZ m):wC m=115∧(m.b≠0∨m.c≠0):=by
 obtain⟨t,⟨h1,h2,h3,h4,h5⟩,h⟩:=h
 rcases h with ⟨e,hn⟩ | e
 ·rw [iY e,jh e]
  refine⟨?_,by omega⟩
  unfold wC
  rw [Mw]
  unfold ia
  right
  omega
 ·rw [iY e,jh e]
  have ee:t.mul (bC 115)=⟨t.b,-t.a,t.d,-t.c⟩:=by apply wK <;> simp [M4.mul,bC]
  rw [ee]
  refine⟨?_,by simp only;omega⟩
  unfold wC upper lower ia
  rw [Mw]
  simp only
  by_cases hb:t.b < 0
  ·right;left;left;omega
  ·by_cases hc:t.c < 0
   ·right;right;left;omega
   ·left
    have b0:t.b=0:=by omega
    have c0:t.c=0:=by omega
    unfold M4.det at h5
    rw [b0,c0,Int.mul_zero,Int.sub_zero] at h5
    have ha:t.a=1:=Int.eq_one_of_dvd_one (by omega) ⟨t.d,h5.symm⟩
    rw [ha,Int.one_mul] at h5
    rw [ha,h5,b0,c0]
    decide
theorem LM {m:M4} (h:II m):wC ((bC 114).mul m)=114∧(((bC 114).mul m).b≠0∨((bC 114).mul m).c≠0):=by
 obtain⟨t,⟨h1,h2,h3,h4,h5⟩,h⟩:=h
 rcases h with e | e
 ·have e':=(Eqv.refl (bC 114)).mul e
  rw [iY e',jh e']
  have ee:(bC 114).mul t=⟨-t.c,-t.d,t.a - t.c,t.b - t.d⟩:=by apply wK <;> simp [M4.mul,bC] <;> omega
  rw [ee]
  unfold wC upper lower ia
  simp only
  refine⟨?_,by omega⟩
  rw [Ms (by omega),Mw (by omega)]
 ·have e':=(Eqv.refl (bC 114)).mul e
  rw [iY e',jh e']
  have ee:(bC 114).mul (t.mul (bC 115))=⟨-t.d,t.c,t.b - t.d,t.c - t.a⟩:=by apply wK <;> simp [M4.mul,bC] <;> omega
  rw [ee]
  unfold wC upper lower ia
  simp only
  refine⟨?_,by omega⟩
  rw [Ms (by omega),Mw (by omega)]
theorem KW {m:M4} (h:II m):wC ((bC 113).mul m)=113∧(((bC 113).mul m).b≠0∨((bC 113).mul m).c≠0):=by
 obtain⟨t,⟨h1,h2,h3,h4,h5⟩,h⟩:=h
 rcases h with e | e
 ·have e':=(Eqv.refl (bC 113)).mul e
  rw [iY e',jh e']
  have ee:(bC 113).mul t=⟨t.a - t.c,t.b - t.d,t.a,t.b⟩:=by apply wK <;> simp [M4.mul,bC] <;> omega
  rw [ee]
  unfold wC upper lower ia
  simp only
  refine⟨?_,by omega⟩
  rw [Ms (by omega),Ms (by omega)]
 ·have e':=(Eqv.refl (bC 113)).mul e
  rw [iY e',jh e']
  have ee:(bC 113).mul (t.mul (bC 115))=⟨t.b - t.d,t.c - t.a,t.b,-t.a⟩:=by apply wK <;> simp [M4.mul,bC] <;> omega
  rw [ee]
  unfold wC upper lower ia
  simp only
  refine⟨?_,by omega⟩
  rw [Ms (by omega),Ms (by omega)]
theorem mC {c:Nat} {r:List Nat} {m:M4} (h:aW (c :: r)) (e:Eqv m (aQ (c :: r))):wC m=c∧(m.b≠0∨m.c≠0):=by
 rw [iY e,jh e]
 have w:=rb (c :: r) h
 rcases h.2 c (by simp) with z | z | z
 ·subst z;exact Lq (w.2.1 r rfl)
 ·subst z;exact LM (w.2.2 _ r rfl (by decide))
 ·subst z;exact KW (w.2.2 _ r rfl (by decide))
def pC (c:Nat) (m:M4):M4:=if c=115 then ⟨-m.c,-m.d,m.a,m.b⟩ else if c=114 then ⟨m.a - m.c,m.b - m.d,m.a,m.b⟩ else ⟨-m.c,-m.d,m.a - m.c,m.b - m.d⟩
theorem we (c:Nat) (hc:isLet c) (k:M4):Eqv (pC c ((bC c).mul k)) k:=by
 rcases hc with z | z | z <;> subst z
 ·right;apply wK <;> simp [pC,M4.mul,bC,M4.neg]
 ·right;apply wK <;> simp [pC,M4.mul,bC,M4.neg] <;> omega
 ·right;apply wK <;> simp [pC,M4.mul,bC,M4.neg] <;> omega
theorem CI (c:Nat) (m:M4):pC c m.neg=(pC c m).neg:=by
 unfold pC;split
 ·simp [M4.neg]
 ·split
  ·apply wK <;> simp [M4.neg] <;> omega
  ·apply wK <;> simp [M4.neg] <;> omega
theorem nQ {c:Nat} {r:List Nat} {m:M4} (hc:isLet c) (e:Eqv m (aQ (c :: r))):Eqv (pC c m) (aQ r):=by
 rcases e with rfl | rfl
 ·exact we c hc _
 ·rw [CI]
  rcases we c hc (aQ r) with z | z
  ·exact .inr (congrArg M4.neg z)
  ·left;show ((pC c ((bC c).mul (aQ r))).neg)=_;rw [z,mD]
theorem qN {m:M4} (e:Eqv m M4.one):m.b=0∧m.c=0:=by
 rcases e with rfl | rfl <;> decide
def JU (x y:D) (Q:D→Prop):Prop:=∃p q:Int,x=.int p∧y=.int q∧Q (.bl (decide (ia p q)))
def bF:Fw:=F2 JU
def eY:bB:=(bb (w4 (i9 yb yb (ag 0) (cC (.int 0)) (ag 1)) (i9 yb yb (ag 1) (cC (.int 0)) (ag 0))))
theorem lN:∀ds Q,bF ds Q→ds.length=2:=iE
theorem mT:∀ds (Q:D→Prop),bF ds Q→eY { nx:=fun _=>Q .non,rt:=Q } (aF ["p","q"] ds):=by
 rintro ds Q ⟨x,y,rfl,p,q,rfl,rfl,h⟩
 simp_arith! only [eY]
 have key:∀b:Bool,(b=true↔ia p q)→Q (.bl b):=fun b hb=>by
  have e:decide (ia p q)=b:=by rw [Bool.eq_iff_iff,hb];simp
  rwa [e] at h
 unfold ia at key
 split
 ·split
  ·exact key _ (by simp;omega)
  ·split
   ·exact key _ (by simp;omega)
   ·exact key _ (by simp;omega)
 ·split
  ·exact key _ (by simp;omega)
  ·exact key _ (by simp;omega)
def d9 (c:Nat):Str:=⟨#[c]⟩
def GY (x:D) (Q:D→Prop):Prop:=∃m:M4,x=m.toD∧Q (.str (d9 (wC m)))
def bW:Fw:=F1 GY
def gy:bB:=(aE (kT (ag 0) (iw 4 (ba (aR 1) (ba (aR 2) (ba (aR 3) (ba (aR 4) h7)))))) (aE (aV 5 (aB bK (aw pE (af (ag 1) au)) (aw pE (af (ag 2) au)))) (aE (aV 6 (aB bK (aw pE (af (ag 3) au)) (aw pE (af (ag 4) au)))) (aE (eR (ya (aJ (aB gN (ag 5) (ag 6))) (ya (aJ (aw bF (af (ag 1) (af (ag 3) au)))) (aJ (aw bF (af (ag 2) (af (ag 4) au)))))) (bb (cC (.str "s"))) a8) (bb (Gm (aJ (aB yb (ag 5) (ag 6))) (cC (.str "r")) (cC (.str "q"))))))))
theorem nE:∀ds Q,bW ds Q→ds.length=1:=jZ
theorem pD:∀ds (Q:D→Prop),bW ds Q→gy { nx:=fun _=>Q .non,rt:=Q } (aF ["one","a","b","c","d","upper","lower"] ds):=by
 rintro ds Q ⟨x,rfl,m,rfl,h⟩
 simp_arith! only [gy,M4.toD,bF,cU,JU]
 have eu:((m.a.natAbs:Int) + m.b.natAbs)=(upper m:Nat):=by unfold upper;omega
 have el:((m.c.natAbs:Int) + m.d.natAbs)=(lower m:Nat):=by unfold lower;omega
 rw [eu,el]
 unfold wC at h
 by_cases h1:upper m=lower m
 ·rw [Mw (by omega)];rw [Mw (.inl h1)] at h;exact h
 ·rw [Ms (by omega)]
  refine⟨_,_,rfl,rfl,?_⟩
  by_cases h2:ia m.a m.c
  ·rw [Mw h2];rw [Mw (.inr (.inl h2))] at h;exact h
  ·rw [Ms h2]
   refine⟨_,_,rfl,rfl,?_⟩
   by_cases h3:ia m.b m.d
   ·rw [Mw h3];rw [Mw (.inr (.inr h3))] at h;exact h
   ·rw [Ms h3]
    rw [Ms (by rintro (z | z | z) <;> contradiction)] at h
    by_cases h4:upper m < lower m
    ·rw [Mw (by omega)];rw [Mw h4] at h;exact h
    ·rw [Ms (by omega)];rw [Ms h4] at h;exact h
def DJ (x y:D) (Q:D→Prop):Prop:=∃(c:Nat) (m:M4),x=.str (d9 c)∧isLet c∧y=m.toD∧Q (pC c m).toD
def eZ:Fw:=F2 DJ
def nM:bB:=(aE (kT (ag 1) (iw 4 (ba (aR 2) (ba (aR 3) (ba (aR 4) (ba (aR 5) h7)))))) (aE (eR (aJ (aB gN (ag 0) (cC (.str "s")))) (bb (bQ (af (qS jD (ag 4)) (af (qS jD (ag 5)) (af (ag 2) (af (ag 3) au)))))) a8) (aE (eR (aJ (aB gN (ag 0) (cC (.str "r")))) (bb (bQ (af (aB fW (ag 2) (ag 4)) (af (aB fW (ag 3) (ag 5)) (af (ag 2) (af (ag 3) au)))))) a8) (bb (bQ (af (qS jD (ag 4)) (af (qS jD (ag 5)) (af (aB fW (ag 2) (ag 4)) (af (aB fW (ag 3) (ag 5)) au)))))))))
theorem v7:∀ds Q,eZ ds Q→ds.length=2:=iE
theorem zm:∀ds (Q:D→Prop),eZ ds Q→nM { nx:=fun _=>Q .non,rt:=Q } (aF ["letter","one","a","b","c","d"] ds):=by
 rintro ds Q ⟨x,y,rfl,c,m,rfl,hc,rfl,h⟩
 simp_arith! only [nM,M4.toD]
 rcases hc with z | z | z <;> subst z
 ·rw [Mw (by rfl)];exact h
 ·rw [Ms (by decide),Mw (by rfl)];exact h
 ·rw [Ms (by decide),Ms (by decide)];exact h
theorem zK (x y:Str):x ++ y=⟨x.cps ++ y.cps⟩:=rfl
theorem qx:∀cs:List Nat,Str.join (Str.ofString "") (cs.map d9)=⟨cs.toArray⟩
 | []=>rfl
 | [c]=>rfl
 | c :: y :: r=>by
  have ih:=qx (y :: r)
  show d9 c ++ Str.ofString "" ++ Str.join (Str.ofString "") ((y :: r).map d9)=_
  rw [ih,zK,zK]
  show (⟨#[c] ++ (Str.ofString "").cps ++ (y :: r).toArray⟩:Str)=⟨(c :: y :: r).toArray⟩
  rw [show (Str.ofString "").cps=#[] from rfl]
  simp
theorem yF (cs:List Nat):Txt.join (Str.ofString "") (cs.map d9)=⟨cs.toArray⟩:=(StrLaws.glued_eq_join _ _).trans (qx cs)
theorem rD:∀cs:List Nat,((cs.map d9).map (·.length)).sum=cs.length
 | []=>rfl
 | c :: r=>by
  have:=rD r
  simp only [MQ,List.sum_cons,List.length_cons,this]
  rw [show (d9 c).length=1 from rfl];omega
theorem vY {xs:List D} {x:D}:kU (xs ++ [x]) (-1)=some x:=by
 unfold kU uQ
 rw [Ms (by decide),Mw (by simp;omega)]
 have e:((-1:Int) + ((xs ++ [x]).length:Nat)).toNat=xs.length:=by simp;omega
 show (xs ++ [x])[((-1:Int) + ((xs ++ [x]).length:Nat)).toNat]?=some x
 rw [e];simp
theorem K0 {m:M4} {Q:D→Prop}:bP m.toD (.int 1) Q=Q (.int m.b):=by
 apply propext;constructor
 ·rintro⟨v,e,h⟩;cases e;exact h
 ·intro h;exact⟨_,rfl,h⟩
theorem Lv {m:M4} {Q:D→Prop}:bP m.toD (.int 2) Q=Q (.int m.c):=by
 apply propext;constructor
 ·rintro⟨v,e,h⟩;cases e;exact h
 ·intro h;exact⟨_,rfl,h⟩
theorem aW.drop {cs:List Nat} (h:aW cs):∀k,aW (cs.drop k)
 | 0=>by simpa using h
 | k + 1=>by
  have:=aW.drop h k
  cases e:cs.drop k with
  | nil =>
   have:cs.drop (k + 1)=[]:=by
    rw [List.drop_eq_nil_iff] at e ⊢;omega
   rw [this];exact⟨trivial,fun c hc=>nomatch hc⟩
  | cons c r =>
   have e2:cs.drop (k + 1)=r:=by rw [← List.tail_drop,e];rfl
   rw [e2];rw [e] at this;exact this.tail
def o4 (c:Nat):D:=.str (d9 c)
end L2.L3
namespace L2.L3
open PySem
theorem nB:∀(u v:List Nat),aW u→aW v→Eqv (aQ u) (aQ v)→u=v
 | [],[],_,_,_=>rfl
 | [],d :: s,_,hv,e=>by
  have h:=(mC hv (m:=aQ []) e).2
  obtain⟨hb,hc⟩:=qN (Eqv.refl M4.one)
  rcases h with h | h
  ·exact absurd hb h
  ·exact absurd hc h
 | c :: r,[],hu,_,e=>by
  have h:=(mC hu (m:=aQ []) e.symm).2
  obtain⟨hb,hc⟩:=qN (Eqv.refl M4.one)
  rcases h with h | h
  ·exact absurd hb h
  ·exact absurd hc h
 | c :: r,d :: s,hu,hv,e=>by
  have h1:=(mC hu (Eqv.refl _)).1
  have h2:=(mC hv e).1
  have hcd:c=d:=h1.symm.trans h2
  subst hcd
  have hc:isLet c:=hu.2 c MN
  have e1:=nQ hc (Eqv.refl (aQ (c :: r)))
  have e2:=nQ hc e
  rw [nB r s hu.tail hv.tail (e1.symm.trans e2)]
theorem qL:∀(r:List Nat) (c:Nat),As (r ++ [c])→As r∧∀x,r.getLast?=some x→((x=115)↔¬ (c=115))
 | [],_,_=>⟨trivial,fun x hx=>by simp at hx⟩
 | [x],c,a=>⟨trivial,fun y hy=>by simp at hy;subst hy;exact a.1⟩
 | x :: y :: r,c,a=>by
  have ih:=qL (y :: r) c a.2
  exact⟨⟨a.1,ih.1⟩,fun z hz=>ih.2 z (by simpa [List.getLast?_cons_cons] using hz)⟩
theorem A1 {r:List Nat} {c:Nat} (h:aW (r ++ [c])):aW r∧(∀x,r.getLast?=some x→((x=115)↔¬ (c=115)))∧isLet c :=
 ⟨⟨(qL r c h.1).1,fun x hx=>h.2 x (List.mem_append_left _ hx)⟩,(qL r c h.1).2,h.2 c (by simp)⟩
theorem oH {r:List Nat} {c:Nat} (h:aW r) (hc:isLet c) (hl:∀x,r.getLast?=some x→((x=115)↔¬ (c=115))):aW (r ++ [c]):=by
 refine⟨sP r c h.1 hl,fun x hx=>?_⟩
 rcases MP.mp hx with hx | hx
 ·exact h.2 x hx
 ·rw [MK.mp hx];exact hc
def kZ (x c:Nat):Option (List Nat) :=
 if x=115∧c=115 then some [] else if x=114∧c=114 then some [113] else if x=113∧c=113 then some [114] else if (x=114∧c=113)∨(x=113∧c=114) then some [] else none
theorem CU {x c:Nat} {w:List Nat} (h:kZ x c=some w):Eqv ((bC x).mul (bC c)) (aQ w)∧w.length≤1∧(w=[]∨∃y,w=[y]∧isLet y∧y≠115∧x≠115):=by
 unfold kZ at h
 split at h
 ·rename_i z;obtain⟨rfl,rfl⟩:=z;cases h;exact⟨.inr (by decide),by decide,.inl rfl⟩
 ·split at h
  ·rename_i z;obtain⟨rfl,rfl⟩:=z;cases h;exact⟨by rw [show aQ [113]=bC 113 from by decide];exact .inr (by decide),by decide,.inr ⟨113,rfl,by unfold isLet;decide,by decide,by decide⟩⟩
  ·split at h
   ·rename_i z;obtain⟨rfl,rfl⟩:=z;cases h;exact⟨by rw [show aQ [114]=bC 114 from by decide];first | exact .inr (by decide) | exact .inl (by decide),by decide,.inr ⟨114,rfl,by unfold isLet;decide,by decide,by decide⟩⟩
   ·split at h
    ·rename_i z;cases h
     rcases z with ⟨rfl,rfl⟩ | ⟨rfl,rfl⟩
     ·exact⟨.inr (by decide),by decide,.inl rfl⟩
     ·exact⟨.inr (by decide),by decide,.inl rfl⟩
    ·cases h
theorem AZ {x c:Nat} (hx:isLet x) (hc:isLet c) (h:kZ x c=none):(x=115↔¬ (c=115)):=by
 rcases hx with z | z | z <;> rcases hc with y | y | y <;> subst z <;> subst y <;> first | (exact absurd h (by decide)) | decide
def gc (ls:List Nat) (c:Nat):List Nat:=match ls.getLast? with
 | none=>[c]
 | some x=>match kZ x c with
  | some w=>ls.dropLast ++ w
  | none=>ls ++ [c]
theorem l4 {ls:List Nat} {c:Nat} (h:aW ls) (hc:isLet c):aW (gc ls c)∧Eqv (aQ (gc ls c)) (aQ (ls ++ [c]))∧(gc ls c).length≤ls.length + 1:=by
 rcases Nn ls with e | ⟨r,x,e⟩
 ·subst e
  exact⟨⟨trivial,fun y hy=>by rw [MK.mp hy];exact hc⟩,.refl _,by simp [gc]⟩
 ·rw [Nl] at e
  subst e
  obtain⟨hr,ha,hx⟩:=A1 h
  unfold gc
  rw [Nh]
  simp only
  cases q:kZ x c with
  | none =>
   simp only
   refine⟨oH h hc fun y hy=>?_,.refl _,by simp⟩
   rw [Nh] at hy;cases hy
   exact AZ hx hc q
  | some w =>
   simp only
   rw [List.dropLast_concat]
   obtain⟨e1,e2,e3⟩:=CU q
   refine⟨?_,?_,by simp;omega⟩
   ·rcases e3 with rfl | ⟨y,rfl,hy,hy5,hx5⟩
    ·rw [MV];exact hr
    ·refine oH hr hy fun z hz=>?_
     have:=ha z hz
     constructor
     ·intro _;exact hy5
     ·intro _;exact this.mpr hx5
   ·rw [cL,cL,iM]
    have app:∀u v:List Nat,aQ (u ++ v)=(aQ u).mul (aQ v):=fun u v=>by
     induction u with
     | nil=>show aQ v=M4.one.mul (aQ v);rw [mE]
     | cons a s ih=>show (bC a).mul (aQ (s ++ v))=((bC a).mul (aQ s)).mul (aQ v);rw [ih,iM]
    rw [app]
    exact (Eqv.refl _).mul e1.symm
end L2.L3
namespace L2.L3
open PySem
theorem FO {α:Type} (l:List α) (m:α) (j i:Nat) (hj:j≤l.length):(l.take j ++ m :: l.drop j)[i]?=if i < j then l[i]? else if i=j then some m else l[i - 1]?:=by
 have hl:(l.take j).length=j:=by rw [List.length_take];omega
 by_cases h1:i < j
 ·rw [Mw h1,MJ (by omega),List.getElem?_take_of_lt h1]
 ·rw [Ms h1,MH (by omega),hl]
  by_cases h2:i=j
  ·rw [Mw h2,h2,Nat.sub_self];rfl
  ·rw [Ms h2,show i - j=(i - j - 1) + 1 by omega,List.getElem?_cons_succ,List.getElem?_drop]
   congr 1;omega
structure xJ (k:Nat) (row:List Z2):Prop where
 len:row.length=k + 3
 first:row[0]?=some (-1,0)
 last:row[k + 2]?=some (1,0)
 det:∀(i:Nat) (p r:Z2),row[i]?=some p→row[i + 1]?=some r→p.1 * r.2 - p.2 * r.1 = -1
 low:∀(i:Nat) (p:Z2),row[i]?=some p→0 < i→i < k + 2→1≤p.2
 nought:∃i,0 < i∧i < k + 2∧row[i]?=some (0,1)
 bits:∀p∈row,B2 (k + 2) p
theorem KG:xJ 0 [(-1,0),(0,1),(1,0)] where
 len:=rfl
 first:=rfl
 last:=rfl
 det:=fun i p r h1 h2=>by
  match i with
  | 0=>cases h1;cases h2;decide
  | 1=>cases h1;cases h2;decide
  | 2=>cases h2
  | i + 3=>cases h1
 low:=fun i p h h0 h1=>by
  have:i=1:=by omega
  subst this;cases h;decide
 nought:=⟨1,by decide,by decide,rfl⟩
 bits:=fun p hp=>by
  simp only [ML,MT,or_false] at hp
  rcases hp with rfl | rfl | rfl <;> exact⟨dZ _ _ (by decide),dZ _ _ (by decide)⟩
theorem Il {k:Nat} {row:List Z2} (h:xJ k row) {at_:Nat} (ha:at_ < k + 2) {p r:Z2} (hp:row[at_]?=some p) (hr:row[at_ + 1]?=some r) :
  xJ (k + 1) (row.take (at_ + 1) ++ (p.1 + r.1,p.2 + r.2) :: row.drop (at_ + 1)):=by
 have hl:=h.len
 have g:=fun i=>FO row (p.1 + r.1,p.2 + r.2) (at_ + 1) i (by omega)
 have hd:=h.det at_ p r hp hr
 have pl:0≤p.2:=by
  by_cases z:at_=0
  ·subst z;rw [h.first] at hp;cases hp;decide
  ·have:=h.low at_ p hp (by omega) ha;omega
 have rl:0≤r.2:=by
  by_cases z:at_ + 1=k + 2
  ·rw [z,h.last] at hr;cases hr;decide
  ·have:=h.low (at_ + 1) r hr (by omega) (by omega);omega
 have ne:¬ (p.2=0∧r.2=0):=fun⟨a,b⟩=>by rw [a,b] at hd;simp at hd
 refine⟨by simp;omega,?_,?_,fun i x y h1 h2=>?_,fun i x h1 h0 h2=>?_,?_,fun x hx=>?_⟩
 ·rw [g,Mw (by omega)];exact h.first
 ·rw [g,Ms (by omega),Ms (by omega)];exact h.last
 ·rw [g] at h1 h2
  by_cases c1:i < at_
  ·rw [Mw (by omega)] at h1 h2;exact h.det i x y h1 h2
  ·by_cases c2:i=at_
   ·subst c2
    rw [Mw (by omega),hp] at h1
    rw [Ms (by omega),Mw rfl] at h2
    cases h1;cases h2
    show p.1 * (p.2 + r.2) - p.2 * (p.1 + r.1) = -1
    grind
   ·by_cases c3:i=at_ + 1
    ·subst c3
     rw [Ms (by omega),Mw rfl] at h1
     rw [Ms (by omega),Ms (by omega),Nat.add_sub_cancel,hr] at h2
     cases h1;cases h2
     show (p.1 + r.1) * r.2 - (p.2 + r.2) * r.1 = -1
     grind
    ·rw [Ms (by omega),Ms c3] at h1
     rw [Ms (by omega),Ms (by omega)] at h2
     exact h.det (i - 1) x y h1 (by rw [show i - 1 + 1=i + 1 - 1 by omega];exact h2)
 ·rw [g] at h1
  by_cases c1:i < at_ + 1
  ·rw [Mw c1] at h1;exact h.low i x h1 h0 (by omega)
  ·rw [Ms c1] at h1
   by_cases c2:i=at_ + 1
   ·rw [Mw c2] at h1;cases h1
    show 1≤p.2 + r.2
    omega
   ·rw [Ms c2] at h1;exact h.low (i - 1) x h1 (by omega) (by omega)
 ·obtain⟨i,h0,h1,h2⟩:=h.nought
  by_cases c1:i < at_ + 1
  ·exact⟨i,h0,by omega,by rw [g,Mw c1];exact h2⟩
  ·exact⟨i + 1,by omega,by omega,by rw [g,Ms (by omega),Ms (by omega),Nat.add_sub_cancel];exact h2⟩
 ·have hm:∀y∈row,B2 (k + 1 + 2) y:=fun y hy=>B8 (h.bits y hy) (by omega)
  rcases MP.mp hx with hx | hx
  ·exact hm x (List.mem_of_mem_take hx)
  ·rcases ML.mp hx with rfl | hx
   ·have b1:=h.bits p (MA hp)
    have b2:=h.bits r (MA hr)
    have e:∀{x y:Int},dg (k + 2) x→dg (k + 2) y→dg (k + 1 + 2) (x + y):=fun hx hy=>by
     have:=bits_add hx hy
     rw [Nat.max_self] at this
     exact bits_le this (by omega)
    exact⟨e b1.1 b2.1,e b1.2 b2.2⟩
   ·exact hm x (List.mem_of_mem_drop hx)
structure bT (n:Nat) (fs:List Z2):Prop where
 len:fs.length=n
 two:2≤n
 most:n≤22
 first:fs[0]?=some (1,0)
 det0:∀p,fs[1]?=some p→p.2=1
 det:∀(i:Nat) (p r:Z2),0 < i→fs[i]?=some p→fs[i + 1]?=some r→p.1 * r.2 - p.2 * r.1 = -1
 last:∀p,fs[n - 1]?=some p→p.2=1
 low:∀(i:Nat) (p:Z2),fs[i]?=some p→0 < i→1≤p.2
 nought:(0,1)∈fs
 bits:∀p∈fs,B2 30 p
theorem CY {k:Nat} {row:List Z2} (h:xJ k row) (hk:k≤20):bT (k + 2) ((1,0) :: (row.drop 1).take (k + 1)):=by
 have hl:=h.len
 have g:∀i,0 < i→i < k + 2→((1,0) :: (row.drop 1).take (k + 1))[i]?=row[i]?:=fun i h0 h1=>by
  rw [show i=(i - 1) + 1 by omega,List.getElem?_cons_succ,List.getElem?_take_of_lt (by omega),List.getElem?_drop]
  congr 1;omega
 have len:((1,0) :: (row.drop 1).take (k + 1)).length=k + 2:=by simp;omega
 have lt:∀(i:Nat) (p:Z2),((1,0) :: (row.drop 1).take (k + 1))[i]?=some p→i < k + 2:=fun i p hp=>by
  have:=(Mo.mp hp).1
  omega
 refine⟨len,by omega,by omega,rfl,fun p hp=>?_,fun i p r h0 h1 h2=>?_,fun p hp=>?_,fun i p hp h0=>?_,?_,fun p hp=>?_⟩
 ·rw [g 1 (by omega) (by omega)] at hp
  have:=h.det 0 _ p h.first hp
  simp at this;omega
 ·rw [g i h0 (lt _ _ h1)] at h1
  rw [g (i + 1) (by omega) (lt _ _ h2)] at h2
  exact h.det i p r h1 h2
 ·rw [show k + 2 - 1=k + 1 by omega,g (k + 1) (by omega) (by omega)] at hp
  have:=h.det (k + 1) p _ hp h.last
  simp at this;omega
 ·have:=lt _ _ hp
  rw [g i h0 this] at hp
  exact h.low i p hp h0 this
 ·obtain⟨i,h0,h1,h2⟩:=h.nought
  exact MA (i:=i) (by rw [g i h0 h1];exact h2)
 ·rcases ML.mp hp with rfl | hp
  ·exact B8 Kf (by decide)
  ·exact B8 (h.bits p (List.mem_of_mem_drop (List.mem_of_mem_take hp))) (by omega)
theorem gf {α:Type} (f:α→D) (l:List α) (i:Nat) (x:α) (h:l[i]?=some x):kU (l.map f) (i:Int)=some (f x):=by
 rw [vh (by omega) (by have:=(Mo.mp h).1;simp;omega)]
 simp [h]
theorem zu {x:Z2} {Q:D→Prop}:bP (f6 x) (.int 0) Q=Q (.int x.1):=by
 apply propext;constructor
 ·rintro⟨v,e,h⟩;cases e;exact h
 ·intro h;exact⟨_,rfl,h⟩
theorem zY {x:Z2} {Q:D→Prop}:bP (f6 x) (.int 1) Q=Q (.int x.2):=by
 apply propext;constructor
 ·rintro⟨v,e,h⟩;cases e;exact h
 ·intro h;exact⟨_,rfl,h⟩
inductive Mk where
 | half | bf | gap (j:Nat)
 deriving DecidableEq
def mP:Mk→D
 | .half=>.str "half"
 | .bf=>.str "third"
 | .gap j=>.int j
structure qT (n:Nat) (ms:List Mk):Prop where
 len:ms.length=n
 pair:∀(i j:Nat),ms[i]?=some (Mk.gap j)→j≠i∧ms[j]?=some (Mk.gap i)
 few:n=2→Mk.bf∈ms∧∀(i j:Nat),ms[i]?≠some (Mk.gap j)
structure ik (n:Nat) (left:List Nat) (ms:List Mk):Prop where
 len:ms.length=n
 nd:left.Nodup
 lt:∀i∈left,i < n
 free:∀i∈left,ms[i]?=some Mk.half
 pair:∀(i j:Nat),ms[i]?=some (Mk.gap j)→j≠i∧ms[j]?=some (Mk.gap i)
theorem ik.bf {n g:Nat} {left:List Nat} {ms:List Mk} (h:ik n (g :: left) ms):ik n left (ms.set g .bf):=by
 have hg:=h.free g MN
 have hnd:=M9.mp h.nd
 refine⟨by rw [List.length_set];exact h.len,hnd.2,fun i hi=>h.lt i (ME _ hi),fun i hi=>?_,fun i j hij=>?_⟩
 ·rw [Mp (fun z=>by subst z;exact hnd.1 hi)];exact h.free i (ME _ hi)
 ·have hig:g≠i:=fun z=>by
   subst z
   rw [Mv (by rw [h.len];exact h.lt _ MN)] at hij;cases hij
  rw [Mp hig] at hij
  obtain⟨h1,h2⟩:=h.pair i j hij
  refine⟨h1,?_⟩
  have:g≠j:=fun z=>by subst z;rw [hg] at h2;cases h2
  rw [Mp this];exact h2
theorem ik.skip {n g:Nat} {left:List Nat} {ms:List Mk} (h:ik n (g :: left) ms):ik n left ms :=
 ⟨h.len,(M9.mp h.nd).2,fun i hi=>h.lt i (ME _ hi),fun i hi=>h.free i (ME _ hi),h.pair⟩
theorem ik.two {n g o k:Nat} {left:List Nat} {ms:List Mk} (h:ik n (g :: left) ms) (ho:left[k]?=some o):ik n (left.eraseIdx k) ((ms.set g (.gap o)).set o (.gap g)):=by
 have hg:=h.free g MN
 have hnd:=M9.mp h.nd
 have om:o∈left:=MA ho
 have hoh:=h.free o (ME _ om)
 have ne:g≠o:=fun z=>hnd.1 (z▸om)
 have gl:g < ms.length:=by rw [h.len];exact h.lt _ MN
 have ol:o < ms.length:=by rw [h.len];exact h.lt _ (ME _ om)
 have sub:∀i∈left.eraseIdx k,i∈left∧i≠o:=fun i hi=>by
  refine⟨List.mem_of_mem_eraseIdx hi,fun z=>?_⟩
  subst z
  obtain⟨j,hj1,hj2⟩:=List.mem_eraseIdx_iff_getElem?.mp hi
  obtain⟨hk,ek⟩:=Mo.mp ho
  obtain⟨hj,ej⟩:=Mo.mp hj2
  exact hj1 ((List.getElem_inj (h₀:=hj) (h₁:=hk) hnd.2).mp (by rw [ej,ek]))
 have get:∀i,((ms.set g (.gap o)).set o (.gap g))[i]?=if i=o then some (.gap g) else if i=g then some (.gap o) else ms[i]?:=fun i=>by
  by_cases c1:i=o
  ·subst c1;rw [Mw rfl,Mv (by rw [List.length_set];exact ol)]
  ·rw [Ms c1,Mp (Ne.symm c1)]
   by_cases c2:i=g
   ·subst c2;rw [Mw rfl,Mv gl]
   ·rw [Ms c2,Mp (Ne.symm c2)]
 refine⟨by rw [List.length_set,List.length_set];exact h.len,hnd.2.eraseIdx k,fun i hi=>h.lt i (ME _ (sub i hi).1),fun i hi=>?_,fun i j hij=>?_⟩
 ·obtain⟨h1,h2⟩:=sub i hi
  rw [get,Ms h2,Ms (fun z=>by subst z;exact hnd.1 h1)]
  exact h.free i (ME _ h1)
 ·rw [get] at hij
  by_cases c1:i=o
  ·rw [Mw c1] at hij;cases hij
   subst c1
   exact⟨ne,by rw [get,Ms ne,Mw rfl]⟩
  ·rw [Ms c1] at hij
   by_cases c2:i=g
   ·rw [Mw c2] at hij;cases hij
    subst c2
    exact⟨Ne.symm ne,by rw [get,Mw rfl]⟩
   ·rw [Ms c2] at hij
    obtain⟨h1,h2⟩:=h.pair i j hij
    refine⟨h1,?_⟩
    rw [get,Ms (fun z=>by subst z;rw [hoh] at h2;cases h2),Ms (fun z=>by subst z;rw [hg] at h2;cases h2)]
    exact h2
theorem Cv {α β:Type} (f:α→β):∀(l:List α) (k:Nat),(l.map f).eraseIdx k=(l.eraseIdx k).map f
 | [],_=>rfl
 | _ :: _,0=>rfl
 | a :: l,k + 1=>by show f a :: (l.map f).eraseIdx k=f a :: (l.eraseIdx k).map f;rw [Cv f l k]
theorem FD (ms:List Mk):b9 (ms.map mP)=0:=by
 induction ms with
 | nil=>rfl
 | cons m r ih=>rw [MQ];simp only [b9,ih];cases m <;> rfl
theorem tV (l:List Nat):b9 (l.map fun (i:Nat)=>D.int i)=0:=by
 induction l with
 | nil=>rfl
 | cons m r ih=>rw [MQ];simp only [b9,ih,dep];rfl
theorem AJ (ms:List Mk):((ms.map mP).any fun e=>a6 e (.str "third"))=decide (Mk.bf∈ms):=by
 induction ms with
 | nil=>rfl
 | cons m r ih =>
  rw [MQ,List.any_cons,ih]
  cases m with
  | half =>
   rw [show a6 (mP .half) (.str "third")=false by decide]
   simp
  | bf=>rw [show a6 (mP .bf) (.str "third")=true by decide];simp
  | gap j=>rw [show a6 (mP (.gap j)) (.str "third")=false from rfl];simp
def aM (l:List Nat):List D:=l.map fun (i:Nat)=>D.int i
structure kW (fs:List Z2) (ms:List Mk):Prop where
 fr:bT fs.length fs
 mar:qT fs.length ms
def rR (fs:List Z2) (ms:List Mk):D:=.tup [.tup (fs.map f6),.tup (ms.map mP)]
end L2.L3
namespace L2.L3
open PySem
theorem getD_some {α:Type} {l:List α} {i:Nat} {d:α} (h:i < l.length):l[i]?=some (l.getD i d):=by
 rw [MU,Mq h];rfl
section
variable {fs:List Z2} {n:Nat} {g:Nat}
end
theorem Dk {α:Type} {f:α→D} {l:List α} {i:Nat} {x:α} {Q:D→Prop} (h:l[i]?=some x) (q:Q (f x)):bP (.tup (l.map f)) (.int (i:Int)) Q:=⟨_,gf f l i x h,q⟩
end L2.L3
namespace L2.L3
open PySem
end L2.L3
namespace L2.L3
open PySem L2
def eS (u v:Z2):Int:=u.1 * v.2 - u.2 * v.1
theorem xg (u v w:Z2):eS u w * v.2=eS u v * w.2 + eS v w * u.2:=by unfold eS;grind
theorem xY {a b:Int} (h:a * b < 0) (hb:0 < b):a < 0:=by
 by_cases c:a < 0
 ·exact c
 ·have:=Int.mul_nonneg (show 0≤a by omega) (Int.le_of_lt hb)
  omega
theorem qb {a b:Int} (h:a * b = -1) (hb:0 < b):b=1 :=
 Int.eq_one_of_dvd_one (Int.le_of_lt hb) ⟨-a,by rw [Int.mul_neg,Int.mul_comm,h];rfl⟩
theorem bT.lt {n:Nat} {fs:List Z2} (h:bT n fs):∀(k i:Nat) (u w:Z2),0 < i→fs[i]?=some u→fs[i + k + 1]?=some w→eS u w < 0
 | 0,i,u,w,h0,hu,hw=>by
  have:=h.det i u w h0 hu hw
  unfold eS;omega
 | k + 1,i,u,w,h0,hu,hw=>by
  have hl:=(Mo.mp hw).1
  obtain⟨v,hv⟩:∃v,fs[i + k + 1]?=some v:=⟨fs[i + k + 1]'(by omega),Mq _⟩
  have h1:=bT.lt h k i u v h0 hu hv
  have h2:eS v w = -1:=h.det (i + k + 1) v w (by omega) hv hw
  have qu:=h.low i u hu h0
  have qv:=h.low _ v hv (by omega)
  have qw:=h.low _ w hw (by omega)
  have e:=xg u v w
  rw [h2] at e
  have a1:eS u v * w.2 < 0:=Int.mul_neg_of_neg_of_pos h1 (by omega)
  have a2:eS u w * v.2 < 0:=by rw [e];omega
  exact xY a2 (by omega)
theorem bT.inj {n:Nat} {fs:List Z2} (h:bT n fs) {i j:Nat} {u:Z2} (hi:fs[i]?=some u) (hj:fs[j]?=some u):i=j:=by
 have self:eS u u=0:=by unfold eS;rw [Int.mul_comm];omega
 have top:∀k:Nat,0 < k→fs[k]?≠some (1,0):=fun k hk e=>by have:=h.low k _ e hk;simp at this
 rcases Nat.lt_trichotomy i j with c | c | c
 ·exfalso
  by_cases z:0 < i
  ·have:=h.lt (j - i - 1) i u u z hi (by rw [show i + (j - i - 1) + 1=j by omega];exact hj)
   omega
  ·have z':i=0:=by omega
   subst z'
   rw [h.first] at hi;cases hi
   exact top j (by omega) hj
 ·exact c
 ·exfalso
  by_cases z:0 < j
  ·have:=h.lt (i - j - 1) j u u z hj (by rw [show j + (i - j - 1) + 1=i by omega];exact hi)
   omega
  ·have z':j=0:=by omega
   subst z'
   rw [h.first] at hj;cases hj
   exact top i (by omega) hi
structure Jc (n:Nat) (fs:List Z2) (i:Nat) (u v w:Z2):Prop where
 i0:0 < i
 il:i < n
 near:fs[i - 1]?=some u
 mid:fs[i]?=some v
 far:fs[(i + 1) % n]?=some w
 ne:v≠(0,1)
 one:(eS u w).natAbs=1
theorem zo {n:Nat} {fs:List Z2} (h:bT n fs) (m:Nat):∀k,k≤n→0 < k→(∀i,0 < i→i < k→∀p,fs[i]?=some p→p.2≤m)∨∃i p,0 < i∧i < k∧fs[i]?=some p∧(m:Int) < p.2∧∀j,0 < j→j < k→∀r,fs[j]?=some r→r.2≤p.2
 | 0,_,h0=>absurd h0 (by decide)
 | 1,_,_=>.inl fun i hi h1=>by omega
 | k + 2,hk,_=>by
  have hl:=h.len
  obtain⟨p,hp⟩:∃p,fs[k + 1]?=some p:=⟨fs[k + 1]'(by omega),Mq _⟩
  rcases zo h m (k + 1) (by omega) (by omega) with a | ⟨i,r,i0,il,hr,hm,a⟩
  ·by_cases c:p.2≤m
   ·refine .inl fun i h0 h1 r hr=>?_
    rcases MY.mp h1 with z | z
    ·exact a i h0 z r hr
    ·subst z;rw [hp] at hr;cases hr;exact c
   ·refine .inr ⟨k + 1,p,by omega,by omega,hp,by omega,fun j h0 h1 r hr=>?_⟩
    rcases MY.mp h1 with z | z
    ·have:=a j h0 z r hr;omega
    ·subst z;rw [hp] at hr;cases hr;exact Int.le_refl _
  ·by_cases c:p.2≤r.2
   ·refine .inr ⟨i,r,i0,by omega,hr,hm,fun j h0 h1 q hq=>?_⟩
    rcases MY.mp h1 with z | z
    ·exact a j h0 z q hq
    ·subst z;rw [hp] at hq;cases hq;exact c
   ·refine .inr ⟨k + 1,p,by omega,by omega,hp,by omega,fun j h0 h1 q hq=>?_⟩
    rcases MY.mp h1 with z | z
    ·have:=a j h0 z q hq;omega
    ·subst z;rw [hp] at hq;cases hq;exact Int.le_refl _
theorem GO {n:Nat} {fs:List Z2} (h:bT n fs) (hn:2 < n):∃i u v w,Jc n fs i u v w:=by
 have hl:=h.len
 have at_:∀i,i < n→∃p,fs[i]?=some p:=fun i hi=>⟨fs[i]'(by omega),Mq _⟩
 rcases zo h 1 n (Mx _) (by omega) with a | ⟨i,v,i0,il,hv,hm,a⟩
 ·
  obtain⟨p1,h1⟩:=at_ 1 (by omega)
  obtain⟨p2,h2⟩:=at_ 2 hn
  obtain⟨pl,hpl⟩:=at_ (n - 1) (by omega)
  obtain⟨pk,hpk⟩:=at_ (n - 2) (by omega)
  have q2:p2.2=1:=by have:=a 2 (by omega) hn p2 h2;have:=h.low 2 p2 h2 (by omega);omega
  have qk:pk.2=1:=by have:=a (n - 2) (by omega) (by omega) pk hpk;have:=h.low _ pk hpk (by omega);omega
  by_cases c:p1=(0,1)
  ·have cl:pl≠(0,1):=fun e=>by
    have:=h.inj (i:=1) (j:=n - 1) (u:=(0,1)) (by rw [h1,c]) (by rw [hpl,e])
    omega
   refine⟨n - 1,pk,pl,(1,0),by omega,by omega,by rw [show n - 1 - 1=n - 2 by omega];exact hpk,hpl,?_,cl,?_⟩
   ·rw [show n - 1 + 1=n by omega,Nat.mod_self];exact h.first
   ·unfold eS;show (pk.1 * 0 - pk.2 * 1).natAbs=1;rw [qk];simp
  ·refine⟨1,(1,0),p1,p2,by omega,by omega,h.first,h1,?_,c,?_⟩
   ·rw [Nat.mod_eq_of_lt (by omega)];exact h2
   ·unfold eS;show (1 * p2.2 - 0 * p2.1).natAbs=1;rw [q2];simp
 ·
  have i1:1 < i:=by
   rcases Nf 1 i with c | c
   ·exact c
   ·have:i=1:=by omega
    subst this
    have:=h.det0 v hv;omega
  have i2:i + 1 < n:=by
   rcases Nf (i + 1) n with c | c
   ·exact c
   ·have:i=n - 1:=by omega
    subst this
    have:=h.last v hv;omega
  obtain⟨u,hu⟩:=at_ (i - 1) (by omega)
  obtain⟨w,hw⟩:=at_ (i + 1) i2
  have d1:eS u v = -1:=h.det (i - 1) u v (by omega) hu (by rw [show i - 1 + 1=i by omega];exact hv)
  have d2:eS v w = -1:=h.det i v w i0 hv hw
  have qu:=h.low _ u hu (by omega)
  have qw:=h.low _ w hw (by omega)
  have mu:=a (i - 1) (by omega) (by omega) u hu
  have mw:=a (i + 1) (by omega) i2 w hw
  have e:=xg u v w
  rw [d1,d2] at e
  refine⟨i,u,v,w,i0,il,hu,hv,by rw [Nat.mod_eq_of_lt i2];exact hw,fun z=>by rw [z] at hm;simp at hm,?_⟩
  have nu:u.2≠v.2:=fun z=>by
   unfold eS at d1
   rw [z,Int.mul_comm v.2] at d1
   have:(u.1 - v.1) * v.2 = -1:=by rw [Int.sub_mul];exact d1
   have:=qb this (by omega)
   omega
  have nw:w.2≠v.2:=fun z=>by
   unfold eS at d2
   rw [z,Int.mul_comm v.2] at d2
   have:(v.1 - w.1) * v.2 = -1:=by rw [Int.sub_mul];exact d2
   have:=qb this (by omega)
   omega
  have lo:eS u w * v.2 < 0:=by rw [e];omega
  have hi:-(2 * v.2) < eS u w * v.2:=by rw [e];omega
  have l1:eS u w < 0:=xY lo (by omega)
  have l2:-2 < eS u w:=by
   by_cases c:-2 < eS u w
   ·exact c
   ·have:=Int.mul_le_mul_of_nonneg_right (show eS u w≤-2 by omega) (show 0≤v.2 by omega)
    omega
  omega
theorem vo {α:Type} (l:List α) (i j:Nat):(l.eraseIdx i)[j]?=if j < i then l[j]? else l[j + 1]?:=List.getElem?_eraseIdx ..
theorem bT.cut {n:Nat} {fs:List Z2} (h:bT n fs) (hn:2 < n) {i:Nat} {u v w:Z2} (e:Jc n fs i u v w):bT (n - 1) (fs.eraseIdx i):=by
 have hl:=h.len
 have i0:=e.i0
 have il:=e.il
 have hu:=e.near
 have hw:=e.far
 have one:=e.one
 have g:=fun j=>vo fs i j
 have sub:∀p,p∈fs.eraseIdx i→p∈fs:=fun p hp=>List.mem_of_mem_eraseIdx hp
 refine⟨by rw [List.length_eraseIdx,Mw (by omega)];omega,by omega,by have:=h.most;omega,?_,fun p hp=>?_,fun j p r j0 hp hr=>?_,fun p hp=>?_,fun j p hp j0=>?_,?_,fun p hp=>h.bits p (sub p hp)⟩
 ·rw [g,Mw i0];exact h.first
 ·rw [g] at hp
  by_cases c:1 < i
  ·rw [Mw c] at hp;exact h.det0 p hp
  ·have:i=1:=by omega
   subst this
   rw [Ms c] at hp
   rw [Nat.mod_eq_of_lt (by omega)] at hw
   rw [hw] at hp;cases hp
   rw [h.first] at hu;cases hu
   have:=h.low _ w hw (by omega)
   unfold eS at one
   simp at one;omega
 ·rw [g] at hp hr
  by_cases c:j + 1 < i
  ·rw [Mw (by omega)] at hp
   rw [Mw c] at hr
   exact h.det j p r j0 hp hr
  ·rw [Ms c] at hr
   by_cases c2:j + 1=i
   ·rw [Mw (by omega)] at hp
    rw [show i - 1=j by omega,hp] at hu;cases hu
    have:=(Mo.mp hr).1
    rw [Nat.mod_eq_of_lt (by omega),← c2,hr] at hw;cases hw
    have:=h.lt 1 j _ _ j0 hp hr
    show eS _ _ = -1
    omega
   ·rw [Ms (by omega)] at hp
    exact h.det (j + 1) p r (by omega) hp hr
 ·rw [g] at hp
  by_cases c:i=n - 1
  ·rw [Mw (by omega),show n - 1 - 1=i - 1 by omega,hu] at hp;cases hp
   rw [c,show n - 1 + 1=n by omega,Nat.mod_self,h.first] at hw;cases hw
   have:=h.low _ u hu (by omega)
   unfold eS at one
   simp at one;omega
  ·rw [Ms (by omega),show n - 1 - 1 + 1=n - 1 by omega] at hp
   exact h.last p hp
 ·rw [g] at hp
  by_cases c:j < i
  ·rw [Mw c] at hp;exact h.low j p hp j0
  ·rw [Ms c] at hp;exact h.low (j + 1) p hp (by omega)
 ·obtain⟨k,hk⟩:=M0 h.nought
  have hk':=(Mo.mp hk).1
  have ne:k≠i:=fun z=>by rw [z,e.mid] at hk;exact e.ne (My hk)
  by_cases c:k < i
  ·exact MA (i:=k) (by rw [g,Mw c];exact hk)
  ·exact MA (i:=k - 1) (by rw [g,Ms (by omega),show k - 1 + 1=k by omega];exact hk)
abbrev vH:=Z2×Z2
def nx (n i:Nat):Nat:=if i + 1=n then 0 else i + 1
def Bd (row:List Z2) (e:vH):Prop:=∃i,row[i]?=some e.1∧row[nx row.length i]?=some e.2
def Inj (row:List Z2):Prop:=∀(i j:Nat) (u:Z2),row[i]?=some u→row[j]?=some u→i=j
theorem Ds {n i:Nat} (h:i < n):(i + 1) % n=nx n i:=by
 unfold nx
 by_cases c:i + 1=n
 ·rw [Mw c,c,Nat.mod_self]
 ·rw [Ms c,Nat.mod_eq_of_lt (by omega)]
theorem Cu {row:List Z2} (hi:Inj row) {i:Nat} {u v w:Z2} (i0:0 < i) (h2:2 < row.length)
  (hu:row[i - 1]?=some u) (hv:row[i]?=some v) (hw:row[nx row.length i]?=some w) (e:vH) :
  Bd (row.eraseIdx i) e↔e=(u,w)∨(Bd row e∧e.1≠v∧e.2≠v):=by
 have il:=(Mo.mp hv).1
 have hl:(row.eraseIdx i).length=row.length - 1:=by rw [List.length_eraseIdx,Mw il]
 have g:=fun j=>vo row i j
 have gap:(row.eraseIdx i)[i - 1]?=some u∧(row.eraseIdx i)[nx (row.length - 1) (i - 1)]?=some w:=by
  refine⟨by rw [g,Mw (by omega)];exact hu,?_⟩
  rw [g]
  by_cases c:i + 1=row.length
  ·have e1:nx (row.length - 1) (i - 1)=0:=by unfold nx;rw [Mw (by omega)]
   have e2:nx row.length i=0:=by unfold nx;rw [Mw c]
   rw [e2] at hw
   rw [e1,Mw i0];exact hw
  ·have e1:nx (row.length - 1) (i - 1)=i:=by unfold nx;rw [Ms (by omega)];omega
   have e2:nx row.length i=i + 1:=by unfold nx;rw [Ms c]
   rw [e2] at hw
   rw [e1,Ms (by omega)];exact hw
 have nv:∀j x,row[j]?=some x→j≠i→x≠v:=fun j x hj hne z=>hne (hi j i v (z▸hj) hv)
 constructor
 ·rintro⟨j,ha,hb⟩
  rw [hl] at hb
  by_cases c1:j + 1=i
  ·have:j=i - 1:=by omega
   subst this
   left
   rw [gap.1] at ha;rw [gap.2] at hb
   exact Prod.ext (My ha).symm (My hb).symm
  ·right
   rw [g] at ha hb
   by_cases c2:j < i
   ·have e1:nx (row.length - 1) j=j + 1:=by unfold nx;rw [Ms (by omega)]
    have e2:nx row.length j=j + 1:=by unfold nx;rw [Ms (by omega)]
    rw [Mw c2] at ha
    rw [e1,Mw (by omega)] at hb
    exact⟨⟨j,ha,by rw [e2];exact hb⟩,nv j _ ha (by omega),nv (j + 1) _ hb (by omega)⟩
   ·rw [Ms c2] at ha
    by_cases c3:j + 1=row.length - 1
    ·have e1:nx (row.length - 1) j=0:=by unfold nx;rw [Mw c3]
     have e2:nx row.length (j + 1)=0:=by unfold nx;rw [Mw (by omega)]
     rw [e1,Mw i0] at hb
     exact⟨⟨j + 1,ha,by rw [e2];exact hb⟩,nv _ _ ha (by omega),nv 0 _ hb (by omega)⟩
    ·have e1:nx (row.length - 1) j=j + 1:=by unfold nx;rw [Ms c3]
     have e2:nx row.length (j + 1)=j + 2:=by unfold nx;rw [Ms (by omega)]
     rw [e1,Ms (by omega)] at hb
     exact⟨⟨j + 1,ha,by rw [e2];exact hb⟩,nv _ _ ha (by omega),nv _ _ hb (by omega)⟩
 ·rintro (rfl | ⟨⟨j,ha,hb⟩,h1,h2'⟩)
  ·exact⟨i - 1,gap.1,by rw [hl];exact gap.2⟩
  ·have j1:j≠i:=fun z=>h1 (by rw [z,hv] at ha;exact (My ha).symm)
   have j2:nx row.length j≠i:=fun z=>h2' (by rw [z,hv] at hb;exact (My hb).symm)
   have jl:=(Mo.mp ha).1
   by_cases c:j < i
   ·have e2:nx row.length j=j + 1:=by unfold nx;rw [Ms (by omega)]
    rw [e2] at hb j2
    refine⟨j,by rw [g,Mw c];exact ha,?_⟩
    have e1:nx (row.length - 1) j=j + 1:=by unfold nx;rw [Ms (by omega)]
    rw [hl,e1,g,Mw (by omega)];exact hb
   ·refine⟨j - 1,by rw [g,Ms (by omega),show j - 1 + 1=j by omega];exact ha,?_⟩
    rw [hl,g]
    by_cases c3:j + 1=row.length
    ·have e1:nx (row.length - 1) (j - 1)=0:=by unfold nx;rw [Mw (by omega)]
     have e2:nx row.length j=0:=by unfold nx;rw [Mw c3]
     rw [e2] at hb
     rw [e1,Mw i0];exact hb
    ·have e1:nx (row.length - 1) (j - 1)=j:=by unfold nx;rw [Ms (by omega)];omega
     have e2:nx row.length j=j + 1:=by unfold nx;rw [Ms c3]
     rw [e2] at hb
     rw [e1,Ms (by omega)];exact hb
end L2.L3
namespace L2.L3
open PySem L2
abbrev fi:=Z2×Z2×Z2
def te (t:fi):List vH:=[(t.1,t.2.1),(t.2.1,t.2.2),(t.2.2,t.1)]
def eN (ts:List fi):List vH:=ts.flatMap te
def rv (e:vH):vH:=(e.2,e.1)
def oS:vH:=((1,0),(0,1))
def yd:vH:=((0,1),(1,0))
inductive eI:List Z2→List fi→Prop
 | done {row:List Z2}:row.length=2→eI row []
 | cut {row:List Z2} {i:Nat} {u v w:Z2} {ts:List fi}:2 < row.length→Jc row.length row i u v w→eI (row.eraseIdx i) ts→eI row ((u,v,w) :: ts)
theorem b4 {t:fi} {ts:List fi} {e:vH}:e∈eN (t :: ts)↔e=(t.1,t.2.1)∨e=(t.2.1,t.2.2)∨e=(t.2.2,t.1)∨e∈eN ts:=by
 unfold eN te
 simp only [List.flatMap_cons,MP,ML,MT,or_false,or_assoc]
theorem Bd.next {row:List Z2} (hi:Inj row) {a b c:Z2} (h1:Bd row (a,b)) (h2:Bd row (a,c)):b=c:=by
 obtain⟨i,a1,b1⟩:=h1
 obtain⟨j,a2,b2⟩:=h2
 have:=hi i j a a1 a2
 subst this
 rw [b1] at b2
 exact My b2
theorem Bd.back {row:List Z2} (hi:Inj row) (hl:2 < row.length) {a b:Z2} (h1:Bd row (a,b)) (h2:Bd row (b,a)):False:=by
 obtain⟨i,a1,b1⟩:=h1
 obtain⟨j,b2,a2⟩:=h2
 have e1:=hi _ _ _ b1 b2
 have e2:=hi _ _ _ a1 a2
 have l1:=(Mo.mp a1).1
 have l2:=(Mo.mp b2).1
 unfold nx at e1 e2
 split at e1 <;> split at e2 <;> omega
theorem Bd.mem {row:List Z2} {e:vH} (h:Bd row e):e.1∈row∧e.2∈row:=by
 obtain⟨i,a,b⟩:=h
 exact⟨MA a,MA b⟩
structure Cut (row row':List Z2) (u v w:Z2):Prop where
 inj:Inj row
 inj':Inj row'
 more:2 < row.length
 one:Bd row (u,v)
 two:Bd row (v,w)
 bd:∀e,Bd row' e↔e=(u,w)∨(Bd row e∧e.1≠v∧e.2≠v)
 off:v∉row'
 ne0:v≠(0,1)
 ne1:v≠(1,0)
 uv:u≠v
 vw:v≠w
 uw:u≠w
 sub:∀p∈row',p∈row
 mu:u∈row
 mv:v∈row
 mw:w∈row
theorem bT.JW {row:List Z2} (h:bT row.length row) (hn:2 < row.length) {i:Nat} {u v w:Z2} (e:Jc row.length row i u v w):Cut row (row.eraseIdx i) u v w:=by
 have i0:=e.i0
 have il:=e.il
 have hi:Inj row:=fun _ _ _=>h.inj
 have hw:=e.far
 rw [Ds il] at hw
 have hc:=h.cut hn e
 have n1:nx row.length (i - 1)=i:=by unfold nx;rw [Ms (by omega)];omega
 have b1:Bd row (u,v):=⟨i - 1,e.near,by rw [n1];exact e.mid⟩
 have b2:Bd row (v,w):=⟨i,e.mid,hw⟩
 have uv:u≠v:=fun z=>by
  have:=hi _ _ _ e.near (z▸e.mid);omega
 refine⟨hi,fun _ _ _=>hc.inj,hn,b1,b2,Cu hi i0 hn e.near e.mid hw,fun hm=>?_,e.ne,fun z=>?_,uv,fun z=>?_,fun z=>?_,fun p hp=>List.mem_of_mem_eraseIdx hp,b1.mem.1,b1.mem.2,b2.mem.2⟩
 ·obtain⟨j,hj⟩:=M0 hm
  rw [vo] at hj
  by_cases c:j < i
  ·rw [Mw c] at hj
   have:=hi _ _ _ hj e.mid;omega
  ·rw [Ms c] at hj
   have:=hi _ _ _ hj e.mid;omega
 ·have:=hi _ _ _ h.first (z▸e.mid);omega
 ·have:=hi _ _ _ (z▸e.mid) hw
  unfold nx at this;split at this <;> omega
 ·have:=hi _ _ _ (z▸e.near) hw
  unfold nx at this;split at this <;> omega
theorem bT.pair {row:List Z2} (h:bT row.length row) (h2:row.length=2):row=[(1,0),(0,1)]:=by
 match row,h2,h.first,h.nought with
 | [a,b],_,f,m =>
  cases (My f:a=(1,0))
  simp at m
  rw [← m]
theorem uL (e:vH):Bd [(1,0),(0,1)] e↔e=oS∨e=yd:=by
 constructor
 ·rintro⟨i,a,b⟩
  match i with
  | 0=>exact .inl (Prod.ext (My a).symm (My b).symm)
  | 1=>exact .inr (Prod.ext (My a).symm (My b).symm)
  | i + 2=>cases a
 ·rintro (rfl | rfl)
  ·exact⟨0,rfl,rfl⟩
  ·exact⟨1,rfl,rfl⟩
structure eG (row:List Z2) (ts:List fi):Prop where
 inn:∀e∈eN ts,e.1∈row∧e.2∈row
 ne:∀e∈eN ts,e.1≠e.2
 none:∀e,Bd row e→rv e∉eN ts
 dif:(eN ts).Nodup
 a:oS∈eN ts↔¬ Bd row yd
 b:yd∈eN ts↔¬ Bd row oS
 c:∀e,Bd row e→e≠oS→e≠yd→e∈eN ts
 d:∀e∈eN ts,¬ Bd row e→e≠oS→e≠yd→rv e∈eN ts
 e:∀S:vH→Prop,(∀t∈ts,(S (t.1,t.2.1)→S (t.2.1,t.2.2))∧(S (t.2.1,t.2.2)→S (t.2.2,t.1))∧(S (t.2.2,t.1)→S (t.1,t.2.1)))→(∀e∈eN ts,¬ Bd row e→S e→S (rv e))→(oS∈eN ts→S oS)→(yd∈eN ts→S yd)→∀e∈eN ts,S e
theorem Av:eG [(1,0),(0,1)] [] where
 inn:=fun e h=>by cases h
 ne:=fun e h=>by cases h
 none:=fun e _ h=>by cases h
 dif:=List.nodup_nil
 a:=⟨fun h=>absurd h (by simp [eN]),fun h=>absurd ((uL _).mpr (.inr rfl)) h⟩
 b:=⟨fun h=>absurd h (by simp [eN]),fun h=>absurd ((uL _).mpr (.inl rfl)) h⟩
 c:=fun e h h1 h2=>((uL e).mp h).elim (fun z=>absurd z h1) (fun z=>absurd z h2)
 d:=fun e h=>by cases h
 e:=fun S _ _ _ _ e h=>by cases h
theorem t5 {row row':List Z2} {u v w:Z2} {ts:List fi} (k:Cut row row' u v w) (h:eG row' ts) {x y:vH} (hr:rv x=y) (hx:x.1≠v∧x.2≠v)
  (h':x∈eN ts↔¬ Bd row' y):x∈eN ((u,v,w) :: ts)↔¬ Bd row y:=by
 subst hr
 rw [b4]
 by_cases c:x=(w,u)
 ·subst c
  refine⟨fun _ hb=>?_,fun _=>.inr (.inr (.inl rfl))⟩
  exact k.vw (Bd.next k.inj k.one hb)
 ·have:Bd row' (rv x)↔Bd row (rv x):=by
   rw [k.bd]
   refine⟨?_,fun hb=>.inr ⟨hb,hx.2,hx.1⟩⟩
   rintro (z | z)
   ·exact absurd (by have:=congrArg rv z;exact this) c
   ·exact z.1
  rw [← this,← h']
  refine⟨?_,fun m=>.inr (.inr (.inr m))⟩
  rintro (z | z | z | z)
  ·exact absurd (by rw [z]) hx.2
  ·exact absurd (by rw [z]) hx.1
  ·exact absurd z c
  ·exact z
theorem BC {row row':List Z2} {u v w:Z2} {ts:List fi} (k:Cut row row' u v w) (h:eG row' ts):eG row ((u,v,w) :: ts):=by
 have novert:∀e∈eN ts,e.1≠v∧e.2≠v:=fun e he=>⟨fun z=>k.off (z▸(h.inn e he).1),fun z=>k.off (z▸(h.inn e he).2)⟩
 have buw:Bd row' (u,w):=(k.bd _).mpr (.inl rfl)
 have nuw:¬ Bd row (u,w):=fun hb=>k.vw (Bd.next k.inj k.one hb)
 have nwu:(w,u)∉eN ts:=h.none (u,w) buw
 refine⟨fun e he=>?_,fun e he=>?_,fun e hb he=>?_,?_,t5 k h rfl ⟨fun z=>k.ne1 z.symm,fun z=>k.ne0 z.symm⟩ h.a,t5 k h rfl ⟨fun z=>k.ne0 z.symm,fun z=>k.ne1 z.symm⟩ h.b,fun e hb n1 n2=>?_,fun e he hb n1 n2=>?_,fun S hr hv h1 h2=>?_⟩
 ·rcases b4.mp he with rfl | rfl | rfl | m
  ·exact⟨k.mu,k.mv⟩
  ·exact⟨k.mv,k.mw⟩
  ·exact⟨k.mw,k.mu⟩
  ·exact⟨k.sub _ (h.inn e m).1,k.sub _ (h.inn e m).2⟩
 ·rcases b4.mp he with rfl | rfl | rfl | m
  ·exact k.uv
  ·exact k.vw
  ·exact fun z=>k.uw z.symm
  ·exact h.ne e m
 ·rcases b4.mp he with z | z | z | m
  ·have:e=(v,u):=congrArg rv z
   exact Bd.back k.inj k.more k.one (this▸hb)
  ·have:e=(w,v):=congrArg rv z
   exact Bd.back k.inj k.more k.two (this▸hb)
  ·have:e=(u,w):=congrArg rv z
   exact nuw (this▸hb)
  ·have nv:=novert _ m
   exact h.none e ((k.bd e).mpr (.inr ⟨hb,nv.2,nv.1⟩)) m
 ·show (te (u,v,w) ++ eN ts).Nodup
  refine Ng.mpr ⟨?_,h.dif,?_⟩
  ·unfold te
   simp only [M9,ML,MT,or_false,not_or,Prod.mk.injEq,not_and,not_false_eq_true,List.nodup_nil,and_true]
   exact⟨⟨fun z=>absurd z k.uv,fun z=>absurd z k.uw⟩,fun z=>absurd z k.vw⟩
  ·intro a ha b hb z
   subst z
   have nv:=novert _ hb
   unfold te at ha
   simp only [ML,MT,or_false] at ha
   rcases ha with rfl | rfl | rfl
   ·exact nv.2 rfl
   ·exact nv.1 rfl
   ·exact nwu hb
 ·by_cases c:e.1=v
  ·have:e=(v,w):=Prod.ext c (Bd.next k.inj (show Bd row (v,e.2) by rw [← c];exact hb) k.two)
   exact b4.mpr (.inr (.inl this))
  ·by_cases c2:e.2=v
   ·obtain⟨i,a1,b1⟩:=hb
    obtain⟨j,a2,b2⟩:=k.one
    have il:=(Mo.mp a1).1
    have jl:=(Mo.mp a2).1
    have:=k.inj _ _ v (c2▸b1) b2
    have ij:i=j:=by unfold nx at this;split at this <;> split at this <;> omega
    subst ij
    rw [a1] at a2
    exact b4.mpr (.inl (Prod.ext (My a2) c2))
   ·exact b4.mpr (.inr (.inr (.inr (h.c e ((k.bd e).mpr (.inr ⟨hb,c,c2⟩)) n1 n2))))
 ·rcases b4.mp he with z | z | z | m
  ·exact absurd (z▸k.one) hb
  ·exact absurd (z▸k.two) hb
  ·have:rv e=(u,w):=congrArg rv z
   rw [this]
   refine b4.mpr (.inr (.inr (.inr (h.c _ buw (fun q=>n2 ?_) (fun q=>n1 ?_)))))
   ·rw [z];exact congrArg rv q
   ·rw [z];exact congrArg rv q
  ·by_cases c:Bd row' e
   ·rcases (k.bd e).mp c with rfl | ⟨q,_⟩
    ·exact b4.mpr (.inr (.inr (.inl rfl)))
    ·exact absurd q hb
   ·exact b4.mpr (.inr (.inr (.inr (h.d e m c n1 n2))))
 ·have old:∀e∈eN ts,S e:=h.e S (fun t ht=>hr t (ME _ ht)) (fun e he hb=>by
    refine hv e (b4.mpr (.inr (.inr (.inr he)))) fun q=>hb ?_
    have nv:=novert e he
    exact (k.bd e).mpr (.inr ⟨q,nv.1,nv.2⟩)) (fun m=>h1 (b4.mpr (.inr (.inr (.inr m))))) (fun m=>h2 (b4.mpr (.inr (.inr (.inr m)))))
  have r:=hr (u,v,w) (MN ..)
  have last:S (w,u):=by
   by_cases c1:(u,w)=oS
   ·have:(w,u)=yd:=congrArg rv c1
    rw [this];exact h2 (b4.mpr (.inr (.inr (.inl this.symm))))
   ·by_cases c2:(u,w)=yd
    ·have:(w,u)=oS:=congrArg rv c2
     rw [this];exact h1 (b4.mpr (.inr (.inr (.inl this.symm))))
    ·have m:=h.c _ buw c1 c2
     exact hv (u,w) (b4.mpr (.inr (.inr (.inr m)))) nuw (old _ m)
  intro e he
  rcases b4.mp he with rfl | rfl | rfl | m
  ·exact r.2.2 last
  ·exact r.1 (r.2.2 last)
  ·exact last
  ·exact old e m
theorem xt {row:List Z2} {ts:List fi} (t:eI row ts):bT row.length row→eG row ts:=by
 induction t with
 | done h2=>intro h;rw [h.pair h2];exact Av
 | cut hn e _ ih =>
  rename_i row i u v w ts _
  intro h
  have hc:=h.cut hn e
  have hl:(row.eraseIdx i).length=row.length - 1:=by rw [List.length_eraseIdx,Mw e.il]
  exact BC (h.JW hn e) (ih (by rw [hl];exact hc))
end L2.L3
namespace L2.L3
open PySem L2
inductive bR where
 | gap (i:Nat) | edge (e:vH)
 deriving DecidableEq
def bA (fs:List Z2) (i:Nat):vH:=(fs.getD i (1,0),fs.getD (nx fs.length i) (1,0))
theorem BN {n i:Nat} (h:i < n):nx n i < n:=by unfold nx;split <;> omega
section
variable {fs:List Z2} {ms:List Mk} {ts:List fi} {ha th:bR→Option bR}
theorem mZ {l:List Z2} {i:Nat} (h:i < l.length):l[i]?=some (l.getD i (1,0)):=by
 rw [MU,Mq h];rfl
theorem zq {i:Nat} (h:i < fs.length):Bd fs (bA fs i):=⟨i,mZ h,mZ (BN h)⟩
theorem u3 {e:vH} (h:Bd fs e):∃i,i < fs.length∧e=bA fs i:=by
 obtain⟨i,h1,h2⟩:=h
 have hi:=(Mo.mp h1).1
 rw [mZ hi] at h1
 rw [mZ (BN hi)] at h2
 exact⟨i,hi,Prod.ext (My h1).symm (My h2).symm⟩
theorem p8 (h:bT fs.length fs) {i j:Nat} (hi:i < fs.length) (hj:j < fs.length) (e:bA fs i=bA fs j):i=j :=
 h.inj (mZ hi) (by rw [mZ hj];exact congrArg some (congrArg Prod.fst e).symm)
structure Links (fs:List Z2) (ms:List Mk) (ts:List fi) (ha th:bR→Option bR):Prop where
 rot:∀t∈ts,th (.edge (t.1,t.2.1))=some (.edge (t.2.1,t.2.2))∧th (.edge (t.2.1,t.2.2))=some (.edge (t.2.2,t.1))∧th (.edge (t.2.2,t.1))=some (.edge (t.1,t.2.1))
 thg:∀i,ms[i]?=some Mk.bf→th (.gap i)=some (.gap i)
 hag:∀i,ms[i]?=some Mk.bf→ha (.gap i)=some (.edge (bA fs i))∧ha (.edge (bA fs i))=some (.gap i)
 hah:∀i,ms[i]?=some Mk.half→ha (.edge (bA fs i))=some (.edge (bA fs i))
 ham:∀i j,ms[i]?=some (Mk.gap j)→ha (.edge (bA fs i))=some (.edge (bA fs j))
 hai:∀e∈eN ts,¬ Bd fs e→ha (.edge e)=some (.edge (rv e))
def sr (ms:List Mk) (ts:List fi):bR→Prop
 | .gap i=>ms[i]?=some Mk.bf
 | .edge e=>e∈eN ts
theorem m3 {e:vH} (h:e∈eN ts):∃t∈ts,e∈te t:=List.mem_flatMap.mp h
theorem Dq {t:fi} (h:t∈ts) {e:vH} (he:e∈te t):e∈eN ts:=List.mem_flatMap.mpr ⟨t,h,he⟩
theorem l6 (h:bT fs.length fs) (hn:2 < fs.length) (k:eG fs ts) {i:Nat} (hi:i < fs.length):bA fs i∈eN ts:=by
 have hb:=zq hi
 have inj:Inj fs:=fun _ _ _=>h.inj
 by_cases c1:bA fs i=oS
 ·rw [c1] at hb ⊢
  exact k.a.mpr fun h2=>Bd.back inj hn hb h2
 ·by_cases c2:bA fs i=yd
  ·rw [c2] at hb ⊢
   exact k.b.mpr fun h2=>Bd.back inj hn h2 hb
  ·exact k.c _ hb c1 c2
theorem J9 (k:eG fs ts) {e:vH} (he:e∈eN ts) (hb:¬ Bd fs e):rv e∈eN ts:=by
 by_cases c1:e=oS
 ·subst c1;exact k.b.mpr hb
 ·by_cases c2:e=yd
  ·subst c2;exact k.a.mpr hb
  ·exact k.d e he hb c1 c2
theorem vq (m:qT fs.length ms) {i:Nat} (hi:i < fs.length):ms[i]?=some Mk.half∨ms[i]?=some Mk.bf∨∃j,j < fs.length∧ms[i]?=some (Mk.gap j):=by
 have hl:=m.len
 have:ms[i]?=some (ms[i]'(by omega)):=Mq _
 cases e:ms[i]'(by omega) with
 | half=>rw [e] at this;exact .inl this
 | bf=>rw [e] at this;exact .inr (.inl this)
 | gap j =>
  rw [e] at this
  have q:=(Mo.mp (m.pair i j this).2).1
  exact .inr (.inr ⟨j,by omega,this⟩)
theorem dA (m:qT fs.length ms) {i:Nat} {x:Mk} (h:ms[i]?=some x):i < fs.length:=by
 have:=(Mo.mp h).1;have:=m.len;omega
theorem jU (h:kW fs ms) (hn:2 < fs.length) (k:eG fs ts) (l:Links fs ms ts ha th) {p:bR} (hp:sr ms ts p):∃q,ha p=some q∧sr ms ts q∧ha q=some p:=by
 cases p with
 | gap i =>
  have hp':ms[i]?=some Mk.bf:=hp
  exact⟨_,(l.hag i hp').1,l6 h.fr hn k (dA h.mar hp'),(l.hag i hp').2⟩
 | edge e =>
  have he:e∈eN ts:=hp
  by_cases hb:Bd fs e
  ·obtain⟨i,hi,rfl⟩:=u3 hb
   rcases vq h.mar hi with c | c | ⟨j,hj,c⟩
   ·exact⟨_,l.hah i c,he,l.hah i c⟩
   ·exact⟨_,(l.hag i c).2,c,(l.hag i c).1⟩
   ·exact⟨_,l.ham i j c,l6 h.fr hn k hj,l.ham j i (h.mar.pair i j c).2⟩
  ·have r:=J9 k he hb
   refine⟨_,l.hai e he hb,r,?_⟩
   have nb:¬ Bd fs (rv e):=fun q=>k.none _ q he
   exact l.hai (rv e) r nb
theorem xW (l:Links fs ms ts ha th) {p:bR} (hp:sr ms ts p):∃q,th p=some q∧sr ms ts q:=by
 cases p with
 | gap i=>exact⟨_,l.thg i hp,hp⟩
 | edge e =>
  obtain⟨t,ht,he⟩:=m3 hp
  have r:=l.rot t ht
  have m:∀x∈te t,x∈eN ts:=fun x hx=>Dq ht hx
  unfold te at he m
  simp only [ML,MT,or_false] at he
  rcases he with rfl | rfl | rfl
  ·exact⟨_,r.1,m _ (by simp)⟩
  ·exact⟨_,r.2.1,m _ (by simp)⟩
  ·exact⟨_,r.2.2,m _ (by simp)⟩
theorem Ik (h:kW fs ms) (hn:2 < fs.length) (k:eG fs ts) (l:Links fs ms ts ha th) {p:bR} (hp:sr ms ts p):ha p=some p↔∃i,ms[i]?=some Mk.half∧p=.edge (bA fs i):=by
 constructor
 ·intro hf
  cases p with
  | gap i=>rw [(l.hag i hp).1] at hf;cases hf
  | edge e =>
   have he:e∈eN ts:=hp
   by_cases hb:Bd fs e
   ·obtain⟨i,hi,rfl⟩:=u3 hb
    rcases vq h.mar hi with c | c | ⟨j,hj,c⟩
    ·exact⟨i,c,rfl⟩
    ·rw [(l.hag i c).2] at hf;cases hf
    ·rw [l.ham i j c] at hf
     have:=p8 h.fr hj hi (by injection hf with q;injection q)
     exact absurd this (h.mar.pair i j c).1
   ·rw [l.hai e he hb] at hf
    have q:rv e=e:=by injection hf with q;injection q
    exact absurd (congrArg Prod.fst q).symm (k.ne e he)
 ·rintro⟨i,c,rfl⟩
  exact l.hah i c
theorem Hw (k:eG fs ts) (l:Links fs ms ts ha th) {p:bR} (hp:sr ms ts p):th p=some p↔∃i,ms[i]?=some Mk.bf∧p=.gap i:=by
 constructor
 ·intro hf
  cases p with
  | gap i=>exact⟨i,hp,rfl⟩
  | edge e =>
   exfalso
   have hp':e∈eN ts:=hp
   obtain⟨t,ht,he⟩:=m3 hp'
   have r:=l.rot t ht
   have ne:=k.ne e hp'
   unfold te at he
   simp only [ML,MT,or_false] at he
   rcases he with rfl | rfl | rfl
   ·rw [r.1] at hf;injection hf with q;injection q with q;exact ne (congrArg Prod.fst q).symm
   ·rw [r.2.1] at hf;injection hf with q;injection q with q;exact ne (congrArg Prod.fst q).symm
   ·rw [r.2.2] at hf;injection hf with q;injection q with q;exact ne (congrArg Prod.fst q).symm
 ·rintro⟨i,c,rfl⟩
  exact l.thg i c
def u7 (fs:List Z2) (ts:List fi) (ha:bR→Option bR) (f:bR):Prop:=(oS∈eN ts∧f=.edge oS)∨(oS∉eN ts∧ha (.edge (bA fs (fs.length - 1)))=some f)
theorem Bx (h:bT fs.length fs) (hb:Bd fs yd):bA fs (fs.length - 1)=yd:=by
 obtain⟨i,hi,e⟩:=u3 hb
 have h2:fs[nx fs.length i]?=some (1,0):=by
  rw [mZ (BN hi)]
  exact congrArg some (congrArg Prod.snd e).symm
 have:=h.inj h2 h.first
 unfold nx at this
 split at this
 ·have:i=fs.length - 1:=by omega
  rw [← this];exact e.symm
 ·omega
theorem CZ (h:kW fs ms) (hn:2 < fs.length) (k:eG fs ts) (l:Links fs ms ts ha th) {f:bR} (hf:u7 fs ts ha f):sr ms ts f:=by
 rcases hf with ⟨a,rfl⟩ | ⟨_,b⟩
 ·exact a
 ·obtain⟨q,h1,h2,_⟩:=jU (p:=.edge (bA fs (fs.length - 1))) h hn k l (l6 h.fr hn k (by omega))
  rw [b] at h1;cases h1;exact h2
theorem reach (h:kW fs ms) (hn:2 < fs.length) (k:eG fs ts) (l:Links fs ms ts ha th) {f:bR} (hf:u7 fs ts ha f) {S:bR→Prop} (s0:S f) (s1:∀p q,S p→ha p=some q→S q) (s2:∀p q,S p→th p=some q→S q):∀p,sr ms ts p→S p:=by
 have both:(oS∈eN ts→S (.edge oS))∧(yd∈eN ts→S (.edge yd)):=by
  rcases hf with ⟨a,rfl⟩ | ⟨na,b⟩
  ·refine⟨fun _=>s0,fun m=>?_⟩
   exact s1 _ _ s0 (l.hai oS a (k.b.mp m))
  ·refine⟨fun m=>absurd m na,fun _=>?_⟩
   have hb:Bd fs yd:=Classical.byContradiction fun q=>na (k.a.mpr q)
   obtain⟨q,h1,h2,h3⟩:=jU (p:=.edge (bA fs (fs.length - 1))) h hn k l (l6 h.fr hn k (by omega))
   rw [b] at h1;cases h1
   rw [Bx h.fr hb] at h3
   exact s1 _ _ s0 h3
 have edges:∀e∈eN ts,S (.edge e):=k.e (fun e=>S (.edge e)) (fun t ht=>⟨fun q=>s2 _ _ q (l.rot t ht).1,fun q=>s2 _ _ q (l.rot t ht).2.1,fun q=>s2 _ _ q (l.rot t ht).2.2⟩) (fun e he hb q=>s1 _ _ q (l.hai e he hb)) both.1 both.2
 intro p hp
 cases p with
 | edge e=>exact edges e hp
 | gap i =>
  have hp':ms[i]?=some Mk.bf:=hp
  exact s1 _ _ (edges _ (l6 h.fr hn k (dA h.mar hp'))) (l.hag i hp').2
end
theorem Ba {α β:Type} [DecidableEq α] {met:List α} {is:List β} {g:β→α} (P:α→Bool) (nd:met.Nodup) (gi:∀i∈is,∀j∈is,g i=g j→i=j) (ni:is.Nodup) (hP:∀p∈met,P p=true↔∃i∈is,p=g i) (hm:∀i∈is,g i∈met):(met.filter P).length=is.length:=by
 have n1:(met.filter P).Nodup:=nd.filter P
 have n2:(is.map g).Nodup:=by
  rw [List.nodup_iff_pairwise_ne,List.pairwise_map]
  exact (List.nodup_iff_pairwise_ne.mp ni).imp_of_mem fun ha hb ne e=>ne (gi _ ha _ hb e)
 have perm:(met.filter P).Perm (is.map g):=(List.perm_ext_iff_of_nodup n1 n2).mpr fun a=>by
  rw [List.mem_filter,M3]
  constructor
  ·rintro⟨h1,h2⟩
   obtain⟨i,hi,e⟩:=(hP a h1).mp h2
   exact⟨i,hi,e.symm⟩
  ·rintro⟨i,hi,rfl⟩
   exact⟨hm i hi,(hP _ (hm i hi)).mpr ⟨i,hi,rfl⟩⟩
 rw [perm.length_eq,MB]
end L2.L3
namespace K55
open PySem L2 L2.L3
def KA (t:fi):D:=.tup [f6 t.1,f6 t.2.1,f6 t.2.2]
theorem AN {α β:Type} (f:α→β) (l:List α) (i:Nat):(l.map f).eraseIdx i=(l.eraseIdx i).map f:=by
 apply List.ext_getElem?
 intro j
 simp only [vo,Mu]
 split <;> rfl
def D0 (x:D) (Q:D→Prop):Prop:=∃fs,x=.tup (fs.map f6)∧bT fs.length fs∧∀ts,eI fs ts→ts.length≤fs.length→Q (.lst (ts.map KA))
def dS:Fw:=F1 D0
def jC:bB:=(gd Fo (af (cC (.int 1)) (af (c7 1) au)) (aR 3) (aE (aV 4 (cM 1 (aB fW (ag 3) (cC (.int 1))))) (aE (aV 5 (cM 1 (aB pg (aB bK (ag 3) (cC (.int 1))) (c7 1)))) (eR (n8 (aJ (aB lr (cM 1 (ag 3)) (bQ (af (cC (.int 0)) (af (cC (.int 1)) au))))) (aJ (aB gN (aw pE (af (aB fW (aB gF (aB bP (ag 4) (cC (.int 0))) (aB bP (ag 5) (cC (.int 1)))) (aB gF (aB bP (ag 4) (cC (.int 1))) (aB bP (ag 5) (cC (.int 0))))) au)) (cC (.int 1))))) (aE (er 2 (bQ (af (ag 4) (af (cM 1 (ag 3)) (af (ag 5) au))))) (aE (xG 1 (ag 3)) j6)) a8))))
def ky:bB:=(aE (cA 1 (kO (af (ag 0) au))) (aE (cA 2 (pA au)) (aE (gC (aJ (aB Fd (c7 1) (cC (.int 2)))) jC) (c9 2 (bb (ag 2))))))
theorem rP:∀ds Q,dS ds Q→ds.length=1:=jZ
theorem uD:∀ds (Q:D→Prop),dS ds Q→ky { nx:=fun _=>Q .non,rt:=Q } (aF ["_law_fractions_here","_law_row_here","_law_tiles_here","_law_i","_law_near","_law_far"] ds):=by
 rintro ds Q ⟨x,rfl,fs,rfl,hf,h⟩
 simp_arith only [ky,gC,xG]
 refine⟨fun e=>∃(row:List Z2) (acc:List fi) (k3 k4 k5:Option Lo),e=[some (.d (.tup (fs.map f6))),some (.own (row.map f6)),some (.own (acc.map KA)),k3,k4,k5]∧bT row.length row∧(∀rest,eI row rest→eI fs (acc ++ rest))∧acc.length + row.length=fs.length,
  HH 1,⟨fs,[],none,none,none,rfl,hf,fun rest t=>t,by simp⟩,?_⟩
 rintro env ⟨row,acc,k3,k4,k5,rfl,hr,ht,hlen⟩
 have two:=hr.two
 have most:=hf.most
 refine⟨_,rfl,?_⟩
 by_cases c:2 < row.length
 ·rw [Mw (by rw [MB];omega)]
  simp_arith only [jC,xG,MB]
  refine⟨by omega,by omega,?_⟩
  refine bD (fun i e=>∃k3 k4 k5:Option Lo,e=[some (.d (.tup (fs.map f6))),some (.own (row.map f6)),some (.own (acc.map KA)),k3,k4,k5]∧∀j u v w,j < i + 1→¬ Jc row.length row j u v w) ?_ ?_ ⟨k3,k4,k5,rfl,fun j u v w hj e=>by have:=e.i0;omega⟩
  ·rintro i x env N hx ⟨k3,k4,k5,rfl,hno⟩ hN
   have hi:i < row.length - 1:=by
    have:=(Mo.mp hx).1
    simp [a9] at this;omega
   have hxe:x=.int ((i + 1:Nat):Int):=by
    unfold a9 at hx
    rw [Mu,M5 (by omega)] at hx
    cases hx;simp
    try omega
   subst hxe
   have hu:row[i]?=some row[i]:=Mq (by omega)
   have hv:row[i + 1]?=some row[i + 1]:=Mq (by omega)
   have hm:(i + 1 + 1) % row.length < row.length:=Nat.mod_lt _ (by omega)
   have hw:row[(i + 1 + 1) % row.length]?=some (row[(i + 1 + 1) % row.length]):=Mq hm
   generalize row[i]=u at hu
   generalize row[i + 1]=v at hv
   generalize row[(i + 1 + 1) % row.length]=w at hw
   have e1:kU (row.map f6) (((i + 1:Nat):Int) - 1)=some (f6 u):=by rw [show ((i + 1:Nat):Int) - 1=(i:Int) by omega];exact gf _ _ i _ hu
   have e2:kU (row.map f6) ((i + 1:Nat):Int)=some (f6 v):=gf _ _ (i + 1) _ hv
   have e3:kU (row.map f6) ((((i + 1:Nat):Int) + 1).fmod (row.length:Int))=some (f6 w):=by
    have:(((i + 1:Nat):Int) + 1).fmod (row.length:Int)=(((i + 1 + 1) % row.length:Nat):Int):=by
     rw [Int.fmod_eq_emod_of_nonneg _ (by omega),Int.natCast_emod,show (((i + 1 + 1:Nat)):Int)=((i + 1:Nat):Int) + 1 by omega]
    rw [this];exact gf _ _ _ _ hw
   have bu:=hr.bits u (MA hu)
   have bw:=hr.bits w (MA hw)
   simp_arith only [xG,MB]
   refine⟨_,_,rfl,e1,by show (row.length:Int)≠0;omega,_,_,rfl,e3,_,_,rfl,e2,?_⟩
   rw [show (D.tup [D.int 0,D.int 1])=f6 (0,1) from rfl,HP]
   refine⟨_,rfl,?_⟩
   by_cases c0:v=(0,1)
   ·rw [decide_eq_true c0]
    refine hN _ ⟨_,_,_,rfl,fun j a b d hj e=>?_⟩
    rcases MY.mp hj with z | z
    ·exact hno j a b d z e
    ·subst z
     have:=e.mid
     rw [hv] at this
     exact e.ne ((My this).symm.trans c0)
   ·rw [decide_eq_false c0]
    show bP (f6 u) (.int 0) _
    rw [zu,zY]
    simp_arith only [and_true]
    refine⟨ib bu.1 bw.2 (by decide),?_⟩
    rw [zY,zu]
    simp_arith only [and_true]
    refine⟨ib bu.2 bw.1 (by decide),?_⟩
    by_cases c1:((u.1 * w.2 - u.2 * w.1).natAbs:Int)=1
    ·rw [Mw c1]
     have ear:Jc row.length row (i + 1) u v w:=⟨by omega,by omega,by rw [show i + 1 - 1=i by omega];exact hu,hv,hw,c0,by show (u.1 * w.2 - u.2 * w.1).natAbs=1;omega⟩
     have cut:=hr.cut c ear
     have hle:(row.eraseIdx (i + 1)).length=row.length - 1:=by rw [List.length_eraseIdx,Mw (by omega)]
     refine⟨by omega,_,_,rfl,e2,i + 1,rfl,by omega,by omega,⟨row.eraseIdx (i + 1),acc ++ [(u,v,w)],_,_,_,AN .. ,by rw [List.map_append];rfl,rfl,rfl,rfl,by rw [hle];exact cut,fun rest t=>?_,?_⟩,?_⟩
     ·have:=ht ((u,v,w) :: rest) (.cut c ear t)
      rw [List.append_assoc];exact this
     ·rw [hle,MS];simp;omega
     ·show ((row.map f6).eraseIdx (i + 1)).length < (row.map f6).length
      rw [List.length_eraseIdx,Mw (by simp;omega),MB];omega
    ·rw [Ms c1]
     refine hN _ ⟨_,_,_,rfl,fun j a b d hj e=>?_⟩
     rcases MY.mp hj with z | z
     ·exact hno j a b d z e
     ·subst z
      have q1:=e.near
      have q2:=e.far
      rw [show i + 1 - 1=i by omega,hu] at q1
      rw [hw] at q2
      cases q1;cases q2
      have:=e.one
      unfold eS at this
      exact c1 (by omega)
  ·rintro env ⟨k3,k4,k5,rfl,hno⟩
   exfalso
   obtain⟨i,u,v,w,e⟩:=GO hr c
   have el:(a9 1 ((row.length:Int) - 1).toNat).length=row.length - 1:=by simp [a9] <;> omega
   rw [el] at hno
   exact hno i u v w (by have:=e.il;omega) e
 ·rw [Ms (by rw [MB];omega)]
  refine⟨_,rfl,_,rfl,?_⟩
  have t:=ht [] (.done (by omega))
  rw [MV] at t
  exact h acc t (by omega)
def c8:bR→D
 | .gap i=>.int i
 | .edge e=>.tup [f6 e.1,f6 e.2]
theorem bS (p:bR):a7 (c8 p)=true∧dep (c8 p)≤8:=by
 cases p with
 | gap i=>exact⟨rfl,by simp [c8,dep]⟩
 | edge e=>exact⟨by simp [c8,f6,a7,jx],by simp [c8,f6,dep,b9]⟩
theorem Ae {x y:Z2} (h:f6 x=f6 y):x=y:=by
 unfold f6 at h
 simp only [D.tup.injEq,List.cons.injEq,D.int.injEq,and_true] at h
 exact Prod.ext h.1 h.2
theorem zQ {p q:bR} (h:c8 p=c8 q):p=q:=by
 cases p with
 | gap i=>cases q with
  | gap j=>simp only [c8,D.int.injEq] at h;rw [show i=j by omega]
  | edge e=>simp only [c8] at h;cases h
 | edge e=>cases q with
  | gap j=>simp only [c8] at h;cases h
  | edge d =>
   simp only [c8,D.tup.injEq,List.cons.injEq,and_true] at h
   rw [show e=d from Prod.ext (Ae h.1) (Ae h.2)]
theorem yt (p q:bR):a6 (c8 p) (c8 q)=decide (p=q):=by
 rw [Bool.eq_iff_iff,EE (bS p).1 (bS q).1,decide_eq_true_eq]
 exact⟨zQ,fun h=>h▸rfl⟩
structure gk (kvs:List (D×D)) (f:bR→Option bR):Prop where
 ok:bZ kvs
 get:∀p,iC kvs (c8 p)=(f p).map c8
 key:∀kv∈kvs,∃p,kv.1=c8 p
def rW (f:bR→Option bR) (p q:bR):bR→Option bR:=fun x=>if x=p then some q else f x
theorem bV {f:bR→Option bR} {p q:bR}:rW f p q p=some q:=Mw rfl
theorem bI {f:bR→Option bR} {p q x:bR} (h:x≠p):rW f p q x=f x:=Ms h
theorem gk.nil:gk [] (fun _=>none):=⟨bZ.nil,fun _=>rfl,fun kv h=>absurd h MT⟩
theorem gk.put {kvs:List (D×D)} {f:bR→Option bR} (h:gk kvs f) (p q:bR):gk (putN kvs (c8 p) (c8 q)) (rW f p q):=by
 refine⟨h.ok.put (bS p).1 (bS p).2,fun x=>?_,fun kv m=>?_⟩
 ·rw [qC h.ok (bS p).1 (bS x).1,yt,h.get]
  unfold rW
  by_cases c:p=x
  ·rw [Mw (decide_eq_true c),Mw c.symm];rfl
  ·rw [Ms (by simpa using c),Ms (fun z=>c z.symm)]
 ·unfold putN at m
  split at m
  ·obtain⟨kw,m',rfl⟩:=M3.mp m
   obtain⟨z,hz⟩:=h.key kw m'
   refine⟨z,?_⟩
   split <;> exact hz
  ·rcases MP.mp m with m | m
   ·exact h.key kv m
   ·rw [MK] at m;subst m;exact⟨p,rfl⟩
theorem gk.any {kvs:List (D×D)} {f:bR→Option bR} (h:gk kvs f) (p:bR):(kvs.any fun kv=>a6 kv.1 (c8 p))=(f p).isSome:=by
 rw [Dt,h.get,Option.isSome_map]
theorem gk.mem {kvs:List (D×D)} {f:bR→Option bR} (h:gk kvs f) (p:bR):c8 p∈kvs.map (·.1)↔(f p).isSome=true:=by
 rw [← h.any,List.any_eq_true,M3]
 constructor
 ·rintro⟨kv,m,e⟩;exact⟨kv,m,by rw [e];exact gr _ (bS p).1⟩
 ·rintro⟨kv,m,e⟩
  obtain⟨z,hz⟩:=h.key kv m
  rw [hz,yt,decide_eq_true_eq] at e
  exact⟨kv,m,by rw [hz,e]⟩
def qQ (fs:List Z2) (ms:List Mk) (ha th:bR→Option bR) (f:bR):Prop :=
 (2 < fs.length∧∃ts,eG fs ts∧eI fs ts∧ts.length≤fs.length∧Links fs ms ts ha th∧u7 fs ts ha f) ∨
 (fs.length=2∧(∀i,ms[i]?=some Mk.bf→th (.gap i)=some (.gap i)∧ha (.gap i)=some (.gap (if ms[1 - i]?=some Mk.bf then 1 - i else i)))∧f=.gap (if ms[1]?=some Mk.bf then 1 else 0))
def BU (x:D) (Q:D→Prop):Prop:=∃fs ms,x=rR fs ms∧kW fs ms∧∀hk tk ha th f,gk hk ha→gk tk th→qQ fs ms ha th f→Q (.tup [.obj (rX hk),.obj (rX tk),c8 f])
structure xU (ts:List fi) (th:bR→Option bR):Prop where
 rot:∀t∈ts,th (.edge (t.1,t.2.1))=some (.edge (t.2.1,t.2.2))∧th (.edge (t.2.1,t.2.2))=some (.edge (t.2.2,t.1))∧th (.edge (t.2.2,t.1))=some (.edge (t.1,t.2.1))
 only:∀e,(th (.edge e)).isSome=true→e∈eN ts
 gaps:∀i,th (.gap i)=none
theorem xU.nil:xU [] (fun _=>none):=⟨fun t h=>absurd h MT,fun e h=>(by cases h),fun _=>rfl⟩
theorem xO (ts:List fi) (t:fi):eN (ts ++ [t])=eN ts ++ te t:=by unfold eN;simp
theorem xU.snoc {ts:List fi} {th:bR→Option bR} (h:xU ts th) {t:fi} (nd:(eN (ts ++ [t])).Nodup) :
  xU (ts ++ [t]) (rW (rW (rW th (.edge (t.1,t.2.1)) (.edge (t.2.1,t.2.2))) (.edge (t.2.1,t.2.2)) (.edge (t.2.2,t.1))) (.edge (t.2.2,t.1)) (.edge (t.1,t.2.1))):=by
 rw [xO,Ng] at nd
 obtain⟨n1,n2,n3⟩:=nd
 unfold te at n2 n3
 simp only [M9,ML,MT,or_false,not_or] at n2
 obtain⟨⟨a12,a13⟩,a23,_⟩:=n2
 have e12:(bR.edge (t.1,t.2.1))≠.edge (t.2.1,t.2.2):=fun z=>a12 (by injection z)
 have e13:(bR.edge (t.1,t.2.1))≠.edge (t.2.2,t.1):=fun z=>a13 (by injection z)
 have e23:(bR.edge (t.2.1,t.2.2))≠.edge (t.2.2,t.1):=fun z=>a23 (by injection z)
 have old:∀e∈eN ts,rW (rW (rW th (.edge (t.1,t.2.1)) (.edge (t.2.1,t.2.2))) (.edge (t.2.1,t.2.2)) (.edge (t.2.2,t.1))) (.edge (t.2.2,t.1)) (.edge (t.1,t.2.1)) (.edge e)=th (.edge e):=fun e he=>by
  have q:=fun x hx (z:bR.edge e=.edge x)=>n3 e he x hx (by injection z)
  rw [bI (q _ (by simp)),bI (q _ (by simp)),bI (q _ (by simp))]
 refine⟨fun u hu=>?_,fun e he=>?_,fun i=>?_⟩
 ·rcases MP.mp hu with hu | hu
  ·have m:∀x∈te u,x∈eN ts:=fun x hx=>Dq hu hx
   unfold te at m
   have r:=h.rot u hu
   exact⟨by rw [old _ (m _ (by simp))];exact r.1,by rw [old _ (m _ (by simp))];exact r.2.1,by rw [old _ (m _ (by simp))];exact r.2.2⟩
  ·rw [MK] at hu;subst hu
   exact⟨by rw [bI e13,bI e12,bV],by rw [bI e23,bV],bV⟩
 ·rw [xO]
  by_cases c:e∈te t
  ·exact MP.mpr (.inr c)
  ·refine MP.mpr (.inl (h.only e ?_))
   unfold te at c
   simp only [ML,MT,or_false,not_or] at c
   have q:∀x,e≠x→bR.edge e≠.edge x:=fun x hx z=>hx (by injection z)
   rw [bI (q _ c.2.2),bI (q _ c.2.1),bI (q _ c.1)] at he
   exact he
 ·rw [bI (by simp),bI (by simp),bI (by simp)];exact h.gaps i
structure DX (fs:List Z2) (ms:List Mk) (ts:List fi) (j:Nat) (ha th:bR→Option bR):Prop where
 rot:∀t∈ts,th (.edge (t.1,t.2.1))=some (.edge (t.2.1,t.2.2))∧th (.edge (t.2.1,t.2.2))=some (.edge (t.2.2,t.1))∧th (.edge (t.2.2,t.1))=some (.edge (t.1,t.2.1))
 only:∀e,(th (.edge e)).isSome=true→e∈eN ts
 thg:∀i,i < j→ms[i]?=some Mk.bf→th (.gap i)=some (.gap i)
 hag:∀i,i < j→ms[i]?=some Mk.bf→ha (.gap i)=some (.edge (bA fs i))∧ha (.edge (bA fs i))=some (.gap i)
 hah:∀i,i < j→ms[i]?=some Mk.half→ha (.edge (bA fs i))=some (.edge (bA fs i))
 ham:∀i k,i < j→ms[i]?=some (Mk.gap k)→ha (.edge (bA fs i))=some (.edge (bA fs k))
 hai:∀e∈eN ts,(∀i,i < j→e≠bA fs i)→ha (.edge e)=some (.edge (rv e))
theorem DX.more {fs:List Z2} {ms:List Mk} {ts:List fi} {j:Nat} {ha th ha' th':bR→Option bR} (hf:bT fs.length fs) (hj:j < fs.length) (h:DX fs ms ts j ha th)
  (h1:∀x,x≠.gap j→x≠.edge (bA fs j)→ha' x=ha x) (h2:∀x,x≠.gap j→th' x=th x)
  (h3:ms[j]?=some Mk.bf→th' (.gap j)=some (.gap j)∧ha' (.gap j)=some (.edge (bA fs j))∧ha' (.edge (bA fs j))=some (.gap j))
  (h4:ms[j]?=some Mk.half→ha' (.edge (bA fs j))=some (.edge (bA fs j))) (h5:∀k,ms[j]?=some (Mk.gap k)→ha' (.edge (bA fs j))=some (.edge (bA fs k))):DX fs ms ts (j + 1) ha' th':=by
 have ne:∀i,i < j→bR.edge (bA fs i)≠.edge (bA fs j):=fun i hi z=>by
  have:=p8 (i:=i) (j:=j) hf (by omega) hj (by injection z);omega
 have ng:∀i,i < j→bR.gap i≠.gap j:=fun i hi z=>by injection z with z;omega
 refine⟨fun t ht=>?_,fun e he=>?_,fun i hi hm=>?_,fun i hi hm=>?_,fun i hi hm=>?_,fun i k hi hm=>?_,fun e he hn=>?_⟩
 ·rw [h2 _ (by simp),h2 _ (by simp),h2 _ (by simp)];exact h.rot t ht
 ·rw [h2 _ (by simp)] at he;exact h.only e he
 ·rcases MY.mp hi with z | z
  ·rw [h2 _ (ng i z)];exact h.thg i z hm
  ·subst z;exact (h3 hm).1
 ·rcases MY.mp hi with z | z
  ·rw [h1 _ (ng i z) (by simp),h1 _ (by simp) (ne i z)];exact h.hag i z hm
  ·subst z;exact (h3 hm).2
 ·rcases MY.mp hi with z | z
  ·rw [h1 _ (by simp) (ne i z)];exact h.hah i z hm
  ·subst z;exact h4 hm
 ·rcases MY.mp hi with z | z
  ·rw [h1 _ (by simp) (ne i z)];exact h.ham i k z hm
  ·subst z;exact h5 k hm
 ·rw [h1 _ (by simp) (fun z=>hn j (by omega) (by injection z))]
  exact h.hai e he fun i hi=>hn i (by omega)
theorem sC {fs:List Z2} {i:Nat} (h:i < fs.length) {Q:D→Prop} (q:Q (c8 (.edge (bA fs i)))):bP (.lst ((List.range fs.length).map fun i=>c8 (.edge (bA fs i)))) (.int (i:Int)) Q :=
 ⟨_,gf (fun i=>c8 (.edge (bA fs i))) (List.range fs.length) i i (by rw [M5 h]),q⟩
section
variable {a b:D} {Q:D→Prop}
theorem wc:bP (.tup [a,b]) (.int 0) Q=Q a:=propext ⟨fun⟨v,e,q⟩=>by have:some a=some v:=e;cases this;exact q,fun q=>⟨a,rfl,q⟩⟩
theorem vP:bP (.tup [a,b]) (.int 1) Q=Q b:=propext ⟨fun⟨v,e,q⟩=>by have:some b=some v:=e;cases this;exact q,fun q=>⟨b,rfl,q⟩⟩
theorem HS:bP (.lst [a,b]) (.int 0) Q=Q a:=propext ⟨fun⟨v,e,q⟩=>by have:some a=some v:=e;cases this;exact q,fun q=>⟨a,rfl,q⟩⟩
theorem Im:bP (.lst [a,b]) (.int 1) Q=Q b:=propext ⟨fun⟨v,e,q⟩=>by have:some b=some v:=e;cases this;exact q,fun q=>⟨b,rfl,q⟩⟩
end
theorem zk {z z':Str} {Q:D→Prop}:lr (.str z) (.str z') Q=Q (.bl (!(z == z'))):=by
 unfold lr gA;simp only [dep,a6,MX,and_self,true_and]
theorem HL {i:Int} {z:Str} {Q:D→Prop}:gN (.int i) (.str z) Q=Q (.bl false):=by
 unfold gN gA
 simp [dep,a6]
def vJ (fs:List Z2):List D:=(List.range fs.length).map fun i=>c8 (.edge (bA fs i))
def dD:bB:=(aE (aV 11 (bQ (af (bQ (af (cC (.int 1)) (af (cC (.int 0)) au))) (af (bQ (af (cC (.int 0)) (af (cC (.int 1)) au))) au)))) (aE (cW 4 (eR (aJ (aB gN (aw gH (af (ag 1) au)) (cC (.int 2)))) (aE (aV 11 (aB bP (gB (af (cC (.int 1)) (af (cC (.int 0)) au))) (aw qY (af (aB lr (aB bP (ag 2) (cC (.int 1))) (cC (.str "third"))) au)))) (jV (gB (af (cC (.int 0)) (af (cC (.int 1)) au))) (aR 9) (eR (aJ (aB gN (aB bP (ag 2) (ag 9)) (cC (.str "third")))) (aX 8 (ag 9) (aB bP (gB (af (ag 9) (af (aB fW (cC (.int 1)) (ag 9)) au))) (aw qY (af (aB gN (aB bP (ag 2) (aB fW (cC (.int 1)) (ag 9))) (cC (.str "third"))) au)))) a8))) (eR (aJ (aB (Ke true) (ag 11) (ag 4))) (aV 11 (mW 8 (aB bP (ag 3) (qS jD (cC (.int 1)))))) a8))) (cW 8 (bb (bQ (af (ag 8) (af (ag 4) (af (ag 11) au))))))))
def dF:bB:=(aE (sS (af (ag 2) au) (iw 2 (ba (aR 9) (ba (aR 10) h7))) (eR (aJ (aB gN (ag 10) (cC (.str "third")))) (aE (aX 4 (ag 9) (ag 9)) (aE (aX 8 (ag 9) (aB bP (ag 3) (ag 9))) (aX 8 (aB bP (ag 3) (ag 9)) (ag 9)))) (eR (aJ (aB gN (ag 10) (cC (.str "half")))) (aX 8 (aB bP (ag 3) (ag 9)) (aB bP (ag 3) (ag 9))) (aX 8 (aB bP (ag 3) (ag 9)) (aB bP (ag 3) (ag 10)))))) dD)
def fC:bB:=(aE (kR 8) (aE (pI 4 (iw 2 (ba (aR 5) (ba (aR 7) h7))) (aX 8 (bQ (af (ag 5) (af (ag 7) au))) (bQ (af (ag 7) (af (ag 5) au))))) dF))
theorem yI {fs:List Z2} {ms:List Mk} {Q:D→Prop} (hf:kW fs ms) (h:∀hk tk ha th f,gk hk ha→gk tk th→qQ fs ms ha th f→Q (.tup [.obj (rX hk),.obj (rX tk),c8 f])) :
  ∀(ts:List fi) (tk:List (D×D)) (th:bR→Option bR) (k5 k6 k7:Option Lo),eI fs ts→ts.length≤fs.length→gk tk th→xU ts th→tk.length≤3 * ts.length →
  fC { nx:=fun _=>Q .non,rt:=Q } [some (.d (rR fs ms)),some (.d (.tup (fs.map f6))),some (.d (.tup (ms.map mP))),some (.d (.lst (vJ fs))),some (.dic tk),k5,k6,k7,none,none,none,none]:=by
 have two:=hf.fr.two
 have most:=hf.fr.most
 intro ts tk th k5 k6 k7 htl hlen hd ht hl
 have ok:=xt htl hf.fr
 have rest6:∀(hk:List (D×D)) (ha:bR→Option bR) (k5 k7:Option Lo),gk hk ha→(∀e∈eN ts,ha (.edge e)=some (.edge (rv e)))→(∀i,ha (.gap i)=none)→hk.length≤tk.length →
   dF { nx:=fun _=>Q .non,rt:=Q } [some (.d (rR fs ms)),some (.d (.tup (fs.map f6))),some (.d (.tup (ms.map mP))),some (.d (.lst (vJ fs))),some (.dic tk),k5,k6,k7,some (.dic hk),none,none,none]:=by
  intro hk ha k5 k7 hd2 hrv hg hl2
  have rest7:∀(hk tk:List (D×D)) (ha th:bR→Option bR) (k9 k10:Option Lo),gk hk ha→gk tk th→DX fs ms ts fs.length ha th→hk.length≤1000 →
    dD { nx:=fun _=>Q .non,rt:=Q } [some (.d (rR fs ms)),some (.d (.tup (fs.map f6))),some (.d (.tup (ms.map mP))),some (.d (.lst (vJ fs))),some (.dic tk),k5,k6,k7,some (.dic hk),k9,k10,none]:=by
   intro hk tk ha th k9 k10 e1 e2 hh hl
   have ed:(D.tup [D.tup [D.int 1,D.int 0],D.tup [D.int 0,D.int 1]])=c8 (.edge oS):=rfl
   simp_arith only [dD,cW,Lo.dic.injEq,MB]
   rw [ed]
   by_cases c:fs.length=2
   ·rw [Mw (by omega)]
    obtain⟨t3,ngap⟩:=hf.mar.few c
    have ml:=hf.mar.len
    have at_:∀i,i < 2→ms[i]?=some Mk.bf∨ms[i]?=some Mk.half:=fun i hi=>by
     rcases vq hf.mar (i:=i) (by omega) with z | z | ⟨j,_,z⟩
     ·exact .inr z
     ·exact .inl z
     ·exact absurd z (ngap i j)
    have sz2:=PySem.sizeLine_eq
    have kg0:=bS (.gap 0)
    have kg1:=bS (.gap 1)
    obtain⟨m0,m1,rfl⟩:∃m0 m1,ms=[m0,m1]:=by
     match ms,(show ms.length=2 by omega) with
     | [a,b],_=>exact⟨a,b,rfl⟩
    have b0:=at_ 0 (by omega)
    have b1:=at_ 1 (by omega)
    simp only [List.getElem?_cons_zero,List.getElem?_cons_succ,Option.some.injEq] at b0 b1
    have q1:(Str.ofString "half" == Str.ofString "third")=false:=by decide
    have q2:(Str.ofString "third" == Str.ofString "third")=true:=by decide
    rcases b0 with rfl | rfl <;> rcases b1 with rfl | rfl
    ·have a1:=e1.put (.gap 0) (.gap 1)
     have a2:=a1.put (.gap 1) (.gap 0)
     have n1:=dC (kvs:=hk) (k:=c8 (.gap 0)) (v:=c8 (.gap 1))
     simp_arith only [turns,mP,zk,q1,q2,aX,cW,Lo.dic.injEq,wc,vP,HS,Im]
     refine⟨kg0.1,kg0.2,e1.ok,by omega,kg1.1,kg1.2,a1.ok,Np n1 (by omega),h _ _ _ _ (.gap 1) a2 e2 (.inr ⟨c,fun i hi=>⟨hh.thg i (dA hf.mar hi) hi,?_⟩,rfl⟩)⟩
     match i,hi with
     | 0,_=>rw [bI (by simp),bV];rfl
     | 1,_=>rw [bV];rfl
    ·have a1:=e1.put (.gap 0) (.gap 0)
     simp_arith only [turns,mP,zk,q1,q2,aX,cW,Lo.dic.injEq,wc,vP,HS,Im]
     refine⟨kg0.1,kg0.2,e1.ok,by omega,h _ _ _ _ (.gap 0) a1 e2 (.inr ⟨c,fun i hi=>⟨hh.thg i (dA hf.mar hi) hi,?_⟩,rfl⟩)⟩
     match i,hi with
     | 0,_=>rw [bV];rfl
     | 1,hi=>simp at hi
    ·have a1:=e1.put (.gap 1) (.gap 1)
     simp_arith only [turns,mP,zk,q1,q2,aX,cW,Lo.dic.injEq,wc,vP,HS,Im]
     refine⟨kg1.1,kg1.2,e1.ok,by omega,h _ _ _ _ (.gap 1) a1 e2 (.inr ⟨c,fun i hi=>⟨hh.thg i (dA hf.mar hi) hi,?_⟩,rfl⟩)⟩
     match i,hi with
     | 0,hi=>simp at hi
     | 1,_=>rw [bV];rfl
    ·simp at t3
   ·rw [Ms (by omega)]
    have hn:2 < fs.length:=by omega
    have lk:Links fs ms ts ha th:=⟨hh.rot,fun i hi=>hh.thg i (dA hf.mar hi) hi,fun i hi=>hh.hag i (dA hf.mar hi) hi,fun i hi=>hh.hah i (dA hf.mar hi) hi,fun i k hi=>hh.ham i k (dA hf.mar hi) hi,fun e he hb=>hh.hai e he fun i hi z=>hb (z▸zq hi)⟩
    have in1:(th (.edge oS)).isSome=true↔oS∈eN ts:=⟨hh.only oS,fun m=>by
     obtain⟨q,hq,_⟩:=xW (p:=.edge oS) lk m
     rw [hq];rfl⟩
    simp only [Ke]
    have ke:=bS (.edge oS)
    refine⟨tk,rfl,ke.1,ke.2,e2.ok,_,rfl,?_⟩
    rw [Mw trivial,e2.any]
    by_cases m:oS∈eN ts
    ·rw [in1.mpr m]
     exact h hk tk ha th _ e1 e2 (.inl ⟨hn,ts,ok,htl,hlen,lk,.inl ⟨m,rfl⟩⟩)
    ·have nm:(th (.edge oS)).isSome=false:=by
      cases z:(th (.edge oS)).isSome with
      | false=>rfl
      | true=>exact absurd (in1.mp z) m
     rw [nm]
     obtain⟨f,hf1,hf2,hf3⟩:=jU (p:=.edge (bA fs (fs.length - 1))) hf hn ok lk (l6 hf.fr hn ok (by omega))
     have kl:=bS (.edge (bA fs (fs.length - 1)))
     have al:kU (vJ fs) (-1)=some (c8 (.edge (bA fs (fs.length - 1)))):=by
      have lg:(vJ fs).length=fs.length:=by simp [vJ]
      have ix:uQ (vJ fs).length (-1)=some (fs.length - 1):=by
       unfold uQ
       rw [lg,Ms (by decide),Mw (by omega)]
       congr 1;omega
      unfold kU
      rw [ix]
      show (vJ fs)[fs.length - 1]?=_
      unfold vJ
      rw [Mu,M5 (by omega)];rfl
     show mW 8 _ _ _
     simp_arith only [mW,Lo.dic.injEq]
     refine⟨_,al,c8 f,kl.1,kl.2,e1.ok,by rw [e1.get,hf1];rfl,?_⟩
     exact h hk tk ha th f e1 e2 (.inl ⟨hn,ts,ok,htl,hlen,lk,.inr ⟨m,hf1⟩⟩)
  simp_arith only [dF,sS,Lo.dic.injEq]
  refine⟨_,_,rfl,rfl,?_⟩
  have ml:=hf.mar.len
  have sz:=PySem.sizeLine_eq
  refine bD (fun j e=>∃(hk tk:List (D×D)) (ha th:bR→Option bR) (k9 k10:Option Lo),e=[some (.d (rR fs ms)),some (.d (.tup (fs.map f6))),some (.d (.tup (ms.map mP))),some (.d (.lst (vJ fs))),some (.dic tk),k5,k6,k7,some (.dic hk),k9,k10,none]∧gk hk ha∧gk tk th∧DX fs ms ts j ha th∧hk.length≤100 + 2 * j∧tk.length≤100 + j) ?_ ?_ ⟨hk,tk,ha,th,none,none,rfl,hd2,hd,⟨ht.rot,ht.only,fun i hi=>absurd hi (Nd _),fun i hi=>absurd hi (Nd _),fun i hi=>absurd hi (Nd _),fun i k hi=>absurd hi (Nd _),fun e he _=>hrv e he⟩,by omega,by omega⟩
  ·rintro j x env N hx ⟨hk,tk,ha,th,k9,k10,rfl,e1,e2,hh,l1,l2⟩ hN
   obtain⟨m,hm,rfl⟩:∃m,ms[j]?=some m∧x=.tup [.int (j:Int),mP m]:=by
    obtain⟨y,hy,rfl⟩:=vT hx
    rw [Mu] at hy
    obtain⟨m,hm,rfl⟩:=MZ.mp hy
    exact⟨m,hm,rfl⟩
   have hj:=dA hf.mar hm
   have kg:=bS (.gap j)
   have ke:=bS (.edge (bA fs j))
   cases m with
   | bf =>
    have a1:=e2.put (.gap j) (.gap j)
    have a2:=e1.put (.gap j) (.edge (bA fs j))
    have a3:=a2.put (.edge (bA fs j)) (.gap j)
    have n1:=dC (kvs:=tk) (k:=c8 (.gap j)) (v:=c8 (.gap j))
    have n2:=dC (kvs:=hk) (k:=c8 (.gap j)) (v:=c8 (.edge (bA fs j)))
    have n3:=dC (kvs:=putN hk (c8 (.gap j)) (c8 (.edge (bA fs j)))) (k:=c8 (.edge (bA fs j))) (v:=c8 (.gap j))
    simp_arith only [mP,aX,Lo.dic.injEq,vJ]
    rw [Mw (beq_self_eq_true _)]
    refine⟨kg.1,kg.2,e2.ok,by omega,sC hj ⟨kg.1,kg.2,e1.ok,by omega,sC hj ⟨ke.1,ke.2,a2.ok,Np n2 (by omega),hN _ ⟨_,_,_,_,_,_,rfl,a3,a1,?_,M7 n3 (by omega),M7 n1 (by omega)⟩⟩⟩⟩
    refine hh.more hf.fr hj (fun x x1 x2=>by rw [bI x2,bI x1]) (fun x x1=>bI x1) (fun _=>⟨bV,by rw [bI (by simp),bV],bV⟩) (fun z=>by rw [hm] at z;cases z) (fun k z=>by rw [hm] at z;cases z)
   | half =>
    have a1:=e1.put (.edge (bA fs j)) (.edge (bA fs j))
    have n1:=dC (kvs:=hk) (k:=c8 (.edge (bA fs j))) (v:=c8 (.edge (bA fs j)))
    simp_arith only [mP,aX,Lo.dic.injEq,vJ]
    rw [Ms (by decide),Mw (beq_self_eq_true _)]
    refine sC hj (sC hj ⟨ke.1,ke.2,e1.ok,by omega,hN _ ⟨_,_,_,_,_,_,rfl,a1,e2,?_,M7 n1 (by omega),by omega⟩⟩)
    exact hh.more hf.fr hj (fun x x1 x2=>bI x2) (fun x x1=>rfl) (fun z=>by rw [hm] at z;cases z) (fun _=>bV) (fun k z=>by rw [hm] at z;cases z)
   | gap k =>
    have hk':k < fs.length:=dA hf.mar (hf.mar.pair j k hm).2
    have a1:=e1.put (.edge (bA fs j)) (.edge (bA fs k))
    have n1:=dC (kvs:=hk) (k:=c8 (.edge (bA fs j))) (v:=c8 (.edge (bA fs k)))
    simp_arith only [mP,aX,Lo.dic.injEq,vJ,HL]
    refine sC hk' (sC hj ⟨ke.1,ke.2,e1.ok,by omega,hN _ ⟨_,_,_,_,_,_,rfl,a1,e2,?_,M7 n1 (by omega),by omega⟩⟩)
    exact hh.more hf.fr hj (fun x x1 x2=>bI x2) (fun x x1=>rfl) (fun z=>by rw [hm] at z;cases z) (fun z=>by rw [hm] at z;cases z) (fun k' z=>by rw [hm] at z;cases z;exact bV)
  ·rintro env ⟨hk,tk,ha,th,k9,k10,rfl,e1,e2,hh,l1,l2⟩
   have el:(kj (ms.map mP)).length=fs.length:=by rw [nL,MB,ml]
   rw [el] at hh l1
   exact rest7 hk tk ha th k9 k10 e1 e2 hh (by omega)
 simp_arith only [fC,kR,pI,Lo.dic.injEq]
 intro p
 have sz:=PySem.sizeLine_eq
 refine bD (fun i e=>∃(hk:List (D×D)) (ha:bR→Option bR) (k5 k7:Option Lo),e=[some (.d (rR fs ms)),some (.d (.tup (fs.map f6))),some (.d (.tup (ms.map mP))),some (.d (.lst (vJ fs))),some (.d (.obj (HU p))),k5,k6,k7,some (.dic hk),none,none,none]∧gk hk ha∧(∀e,c8 (.edge e)∈(tk.map (·.1)).take i→ha (.edge e)=some (.edge (rv e)))∧(∀i,ha (.gap i)=none)∧hk.length≤i) ?_ ?_ ⟨[],_,k5,k7,rfl,gk.nil,fun e he=>by simp at he,fun _=>rfl,by simp⟩
 ·rintro i x env N hx ⟨hk,ha,k5,k7,rfl,hd2,hr,hg,hl2⟩ hN
  have hi:i < tk.length:=by have:=(Mo.mp hx).1;simpa using this
  have hm:=MA hx
  obtain⟨kv,hkv,rfl⟩:=M3.mp hm
  obtain⟨q,hq⟩:=hd.key kv hkv
  rw [hq] at hm hx ⊢
  have hs:=(hd.mem q).mp hm
  cases q with
  | gap g=>rw [ht.gaps g] at hs;cases hs
  | edge e =>
   have k1:=bS (.edge e)
   have d1:=hd2.put (.edge e) (.edge (rv e))
   have l1:=dC (kvs:=hk) (k:=c8 (.edge e)) (v:=c8 (.edge (rv e)))
   have tke:(tk.map (·.1)).take (i + 1)=(tk.map (·.1)).take i ++ [c8 (.edge e)]:=by rw [Nk,hx];rfl
   simp only [c8,rv] at l1
   simp_arith only [c8,aX,Lo.dic.injEq]
   refine⟨k1.1,k1.2,hd2.ok,by omega,hN _ ⟨_,_,_,_,rfl,d1,fun d hdm=>?_,fun g=>?_,by omega⟩⟩
   ·by_cases c:d=e
    ·subst c;exact bV
    ·rw [bI (fun z=>c (by injection z))]
     rw [tke] at hdm
     rcases MP.mp hdm with z | z
     ·exact hr d z
     ·rw [MK] at z
      exact absurd (by have:=zQ z;injection this) c
   ·rw [bI (by simp)];exact hg g
 ·rintro env ⟨hk,ha,k5,k7,rfl,hd2,hr,hg,hl2⟩
  refine⟨rfl,?_⟩
  rw [MB] at hr hl2
  refine rest6 hk ha k5 k7 hd2 (fun e he=>hr e ?_) hg hl2
  rw [Nb (by simp),hd.mem]
  obtain⟨t,htt,het⟩:=m3 he
  have r:=ht.rot t htt
  unfold te at het
  simp only [ML,MT,or_false] at het
  rcases het with rfl | rfl | rfl
  ·rw [r.1];rfl
  ·rw [r.2.1];rfl
  ·rw [r.2.2];rfl
end K55
namespace K55
open PySem L2 L2.L3
end K55
namespace K55
open PySem L2 L2.L3
end K55
namespace K55
open PySem L2 L2.L3
theorem iD {α:Type} [DecidableEq α]:∀(l m:List α),l.Nodup→(∀x∈l,x∈m)→l.length≤m.length
 | [],m,_,_=>MX _
 | x :: l,m,nd,h=>by
  rw [M9] at nd
  have hx:=h x MN
  have ih:=iD l (m.erase x) nd.2 fun y hy=>(List.mem_erase_of_ne (a:=y) (b:=x) (fun e=>nd.1 (by rw [← e];exact hy))).mpr (h y (ME _ hy))
  rw [List.length_erase_of_mem hx] at ih
  have:0 < m.length:=List.length_pos_of_mem hx
  simp only [List.length_cons];omega
structure Sys (ha th:bR→Option bR) (f:bR) (isP:bR→Prop) (all:List bR):Prop where
 f0:isP f
 h1:∀p,isP p→∃q,ha p=some q∧isP q
 t1:∀p,isP p→∃q,th p=some q∧isP q
 hh:∀p q,isP p→ha p=some q→ha q=some p
 t3:∀p,isP p→∃q r,th p=some q∧th q=some r∧th r=some p
 al:∀p,isP p→p∈all
 few:all.length≤500
 re:∀S:bR→Prop,S f→(∀p q,S p→ha p=some q→S q)→(∀p q,S p→th p=some q→S q)→∀p,isP p→S p
section
variable {ha th:bR→Option bR} {f:bR} {isP:bR→Prop} {all met:List bR} {at_:Nat}
end
structure tm (a b:List Nat):Prop where
 len:b.length=a.length
 al:∀(i x:Nat),a[i]?=some x→x < a.length
 bl:∀(i x:Nat),b[i]?=some x→x < a.length
 aa:∀(i x:Nat),a[i]?=some x→a[x]?=some i
 bbb:∀(i x y:Nat),b[i]?=some x→b[x]?=some y→b[y]?=some i
def DT (fs:List Z2) (ms:List Mk) (ha th:bR→Option bR) (isP:bR→Prop):Prop :=
 (2 < fs.length∧∃ts,eG fs ts∧eI fs ts∧Links fs ms ts ha th∧∀p,isP p↔sr ms ts p) ∨
 (fs.length=2∧(∀i,ms[i]?=some Mk.bf→th (.gap i)=some (.gap i)∧ha (.gap i)=some (.gap (if ms[1 - i]?=some Mk.bf then 1 - i else i)))∧∀p,isP p↔∃i,ms[i]?=some Mk.bf∧p=.gap i)
theorem sT [DecidableEq Mk] (x:Mk):∀ms:List Mk,((List.range ms.length).filter fun i=>decide (ms[i]?=some x)).length=ms.count x
 | []=>rfl
 | m :: ms=>by
  have ih:=sT x ms
  rw [List.length_cons,List.range_succ_eq_map,List.filter_cons,List.count_cons,← ih,List.filter_map,List.getElem?_cons_zero]
  have e:((fun i=>decide ((m :: ms)[i]?=some x))∘Nat.succ)=fun i=>decide (ms[i]?=some x):=by funext i;rfl
  rw [e]
  by_cases c:m=x
  ·subst c;simp
  ·have c':¬ (m == x)=true:=by simpa using c
   simp [c]
theorem kG {met:List bR} {ms:List Mk} (x:Mk) (g:Nat→bR) (P:bR→Bool) (nd:met.Nodup) (gi:∀i j,ms[i]?=some x→ms[j]?=some x→g i=g j→i=j) (hP:∀p∈met,P p=true↔∃i,ms[i]?=some x∧p=g i) (hm:∀i,ms[i]?=some x→g i∈met):(met.filter P).length=ms.count x:=by
 rw [← sT]
 have mem:∀i,i∈((List.range ms.length).filter fun i=>decide (ms[i]?=some x))↔ms[i]?=some x:=fun i=>by
  rw [List.mem_filter,Na,decide_eq_true_eq]
  exact⟨fun z=>z.2,fun z=>⟨(Mo.mp z).1,z⟩⟩
 refine Ba (g:=g) P nd (fun i hi j hj e=>gi i j ((mem i).mp hi) ((mem j).mp hj) e) (List.nodup_range.filter _) (fun p hp=>?_) (fun i hi=>hm i ((mem i).mp hi))
 rw [hP p hp]
 exact⟨fun⟨i,a,b⟩=>⟨i,(mem i).mpr a,b⟩,fun⟨i,a,b⟩=>⟨i,(mem i).mp a,b⟩⟩
theorem vn:∀ts:List fi,(eN ts).length=3 * ts.length
 | []=>rfl
 | t :: ts=>by
  have:=vn ts
  show (te t ++ eN ts).length=_
  rw [MS,this]
  unfold te
  simp;omega
theorem Iy {fs:List Z2} {ms:List Mk} {ha th:bR→Option bR} {f:bR} (hf:kW fs ms) (h:qQ fs ms ha th f):∃isP all,Sys ha th f isP all∧DT fs ms ha th isP ∧
  ∀met:List bR,met.Nodup→(∀p,isP p↔p∈met)→(met.filter fun p=>decide (ha p=some p)).length=ms.count .half∧(met.filter fun p=>decide (th p=some p)).length=ms.count .bf:=by
 have most:=hf.fr.most
 have ml:=hf.mar.len
 rcases h with ⟨hn,ts,ok,htl,hlen,lk,fo⟩ | ⟨c,hl,rfl⟩
 ·refine⟨sr ms ts,(eN ts).map .edge ++ (List.range fs.length).map .gap,⟨CZ hf hn ok lk fo,fun p hp=>?_,fun p hp=>xW lk hp,fun p q hp hq=>?_,fun p hp=>?_,fun p hp=>?_,?_,fun S s0 s1 s2=>reach hf hn ok lk fo s0 s1 s2⟩,.inl ⟨hn,ts,ok,htl,lk,fun _=>Iff.rfl⟩,fun met nd hm=>⟨?_,?_⟩⟩
  ·obtain⟨q,a,b,_⟩:=jU hf hn ok lk hp
   exact⟨q,a,b⟩
  ·obtain⟨q',a,_,c⟩:=jU hf hn ok lk hp
   rw [hq] at a;cases a;exact c
  ·cases p with
   | gap i=>exact⟨_,_,lk.thg i hp,lk.thg i hp,lk.thg i hp⟩
   | edge e =>
    obtain⟨t,ht,he⟩:=m3 hp
    have r:=lk.rot t ht
    unfold te at he
    simp only [ML,MT,or_false] at he
    rcases he with rfl | rfl | rfl
    ·exact⟨_,_,r.1,r.2.1,r.2.2⟩
    ·exact⟨_,_,r.2.1,r.2.2,r.1⟩
    ·exact⟨_,_,r.2.2,r.1,r.2.1⟩
  ·cases p with
   | edge e=>exact MP.mpr (.inl (M3.mpr ⟨e,hp,rfl⟩))
   | gap i=>exact MP.mpr (.inr (M3.mpr ⟨i,Na.mpr (dA hf.mar hp),rfl⟩))
  ·rw [MS,MB,MB,vn,List.length_range];omega
  ·refine kG .half (fun i=>.edge (bA fs i)) _ nd (fun i j hi hj e=>p8 hf.fr (dA hf.mar hi) (dA hf.mar hj) (by injection e)) (fun p hp=>?_) (fun i hi=>?_)
   ·rw [decide_eq_true_eq];exact Ik hf hn ok lk ((hm p).mpr hp)
   ·exact (hm _).mp (l6 hf.fr hn ok (dA hf.mar hi))
  ·refine kG .bf (fun i=>.gap i) _ nd (fun i j hi hj e=>by injection e) (fun p hp=>?_) (fun i hi=>(hm _).mp hi)
   rw [decide_eq_true_eq];exact Hw ok lk ((hm p).mpr hp)
 ·obtain⟨t3,ngap⟩:=hf.mar.few c
  have lt2:∀i x,ms[i]?=some x→i < 2:=fun i x hi=>by have:=(Mo.mp hi).1;omega
  have two:∀i,i < 2→ms[i]?=some Mk.bf∨ms[i]?=some Mk.half:=fun i hi=>by
   rcases vq hf.mar (i:=i) (by omega) with z | z | ⟨j,_,z⟩
   ·exact .inr z
   ·exact .inl z
   ·exact absurd z (ngap i j)
  have one3:ms[1]?≠some Mk.bf→ms[0]?=some Mk.bf:=fun z=>by
   obtain⟨i,hi⟩:=M0 t3
   have:=lt2 i _ hi
   have:i≠1:=fun w=>z (w▸hi)
   have:i=0:=by omega
   exact this▸hi
  refine⟨fun p=>∃i,ms[i]?=some Mk.bf∧p=.gap i,[.gap 0,.gap 1],⟨?_,?_,?_,?_,?_,?_,by simp,fun S s0 s1 s2=>?_⟩,.inr ⟨c,hl,fun _=>Iff.rfl⟩,fun met nd hm=>⟨?_,?_⟩⟩
  ·by_cases z:ms[1]?=some Mk.bf
   ·rw [Mw z];exact⟨1,z,rfl⟩
   ·rw [Ms z];exact⟨0,one3 z,rfl⟩
  ·rintro p ⟨i,hi,rfl⟩
   refine⟨_,(hl i hi).2,?_⟩
   by_cases z:ms[1 - i]?=some Mk.bf
   ·rw [Mw z];exact⟨1 - i,z,rfl⟩
   ·rw [Ms z];exact⟨i,hi,rfl⟩
  ·rintro p ⟨i,hi,rfl⟩
   exact⟨_,(hl i hi).1,i,hi,rfl⟩
  ·rintro p q ⟨i,hi,rfl⟩ hq
   have l2:=lt2 i _ hi
   rw [(hl i hi).2] at hq
   by_cases z:ms[1 - i]?=some Mk.bf
   ·rw [Mw z] at hq
    cases hq
    rw [(hl _ z).2,show 1 - (1 - i)=i by omega,Mw hi]
   ·rw [Ms z] at hq
    cases hq
    rw [(hl i hi).2,Ms z]
  ·rintro p ⟨i,hi,rfl⟩
   exact⟨_,_,(hl i hi).1,(hl i hi).1,(hl i hi).1⟩
  ·rintro p ⟨i,hi,rfl⟩
   have:=lt2 i _ hi
   match i,this with
   | 0,_=>simp
   | 1,_=>simp
  ·rintro p ⟨i,hi,rfl⟩
   by_cases z:ms[1]?=some Mk.bf
   ·rw [Mw z] at s0
    have:=lt2 i _ hi
    match i,this with
    | 1,_=>exact s0
    | 0,_ =>
     have q:=(hl 1 z).2
     rw [Mw (show ms[1 - 1]?=some Mk.bf from hi)] at q
     exact s1 _ _ s0 q
   ·rw [Ms z] at s0
    have:=lt2 i _ hi
    have:i≠1:=fun w=>z (w▸hi)
    have:i=0:=by omega
    subst this;exact s0
  ·refine kG .half (fun i=>.gap (1 - i)) _ nd (fun i j hi hj e=>by
    have:=lt2 i _ hi
    have:=lt2 j _ hj
    injection e with e
    omega) (fun p hp=>?_) (fun i hi=>?_)
   ·obtain⟨i,hi,rfl⟩:=(hm p).mpr hp
    have l2:=lt2 i _ hi
    rw [decide_eq_true_eq,(hl i hi).2]
    by_cases z:ms[1 - i]?=some Mk.bf
    ·rw [Mw z]
     refine⟨fun w=>?_,fun⟨k,hk,w⟩=>?_⟩
     ·injection w with w;injection w with w;omega
     ·injection w with w
      have:=lt2 k _ hk
      have:k=1 - i:=by omega
      rw [this,z] at hk;cases hk
    ·rw [Ms z]
     refine⟨fun _=>⟨1 - i,?_,by rw [show 1 - (1 - i)=i by omega]⟩,fun _=>rfl⟩
     rcases two (1 - i) (by omega) with w | w
     ·exact absurd w z
     ·exact w
   ·have l2:=lt2 i _ hi
    refine (hm _).mp ⟨1 - i,?_,rfl⟩
    rcases two (1 - i) (by omega) with w | w
    ·exact w
    ·exfalso
     obtain⟨k,hk⟩:=M0 t3
     have:=lt2 k _ hk
     have:k=i∨k=1 - i:=by omega
     rcases this with v | v
     ·rw [v,hi] at hk;cases hk
     ·rw [v,w] at hk;cases hk
  ·refine kG .bf (fun i=>.gap i) _ nd (fun i j hi hj e=>by injection e) (fun p hp=>?_) (fun i hi=>(hm _).mp ⟨i,hi,rfl⟩)
   obtain⟨i,hi,rfl⟩:=(hm p).mpr hp
   rw [decide_eq_true_eq]
   exact⟨fun _=>⟨i,hi,rfl⟩,fun _=>(hl i hi).1⟩
end K55
namespace K55
open PySem L2 L2.L3
open Classical in
theorem getD_at {l:List Nat} {i:Nat} (h:i < l.length):l[i]?=some (l.getD i 0):=by
 rw [MU,Mq h];rfl
end K55
namespace K55
open PySem L2 L2.L3
end K55
namespace K55
open PySem L2 L2.L3
def lp (a b:List Nat) (p c:Nat):Nat:=if c=115 then a.getD p 0 else if c=114 then b.getD p 0 else b.getD (b.getD p 0) 0
def lw (a b:List Nat) (cs:List Nat) (p:Nat):Nat:=cs.foldl (lp a b) p
theorem DP (a b u v:List Nat) (p:Nat):lw a b (u ++ v) p=lw a b v (lw a b u p):=List.foldl_append
theorem gj (a b u:List Nat) (c p:Nat):lw a b (u ++ [c]) p=lp a b (lw a b u p) c:=DP a b u [c] p
section
variable {a b:List Nat} (t:tm a b)
include t
theorem Gy {p:Nat} (h:p < a.length):a.getD p 0 < a.length:=t.al _ _ (getD_at h)
theorem oz {p:Nat} (h:p < a.length):b.getD p 0 < a.length:=t.bl _ _ (getD_at (l:=b) (by rw [t.len];exact h))
theorem HZ {p:Nat} (h:p < a.length):a.getD (a.getD p 0) 0=p:=by
 have h2:=t.aa _ _ (getD_at h)
 rw [getD_at (Gy t h)] at h2
 exact My h2
theorem qD {p:Nat} (h:p < a.length):b.getD (b.getD (b.getD p 0) 0) 0=p:=by
 have e:=t.len
 have l1:=oz t h
 have l2:=oz t l1
 have h3:=t.bbb _ _ _ (getD_at (l:=b) (i:=p) (by omega)) (getD_at (l:=b) (by omega))
 rw [getD_at (l:=b) (by omega)] at h3
 exact My h3
theorem JN {p:Nat} (h:p < a.length) (c:Nat):lp a b p c < a.length:=by
 unfold lp;split
 ·exact Gy t h
 ·split
  ·exact oz t h
  ·exact oz t (oz t h)
theorem j8 {p:Nat} (h:p < a.length) (cs:List Nat):lw a b cs p < a.length:=by
 refine snoc_ind (P:=fun cs=>lw a b cs p < a.length) h (fun r c ih=>?_) cs
 rw [gj];exact JN t ih c
theorem Ek {x c:Nat} {w:List Nat} (h:kZ x c=some w) {p:Nat} (hp:p < a.length):lp a b (lp a b p x) c=lw a b w p:=by
 unfold kZ at h
 split at h
 ·rename_i z;obtain⟨rfl,rfl⟩:=z;cases h;exact HZ t hp
 ·split at h
  ·rename_i z;obtain⟨rfl,rfl⟩:=z;cases h;rfl
  ·split at h
   ·rename_i z;obtain⟨rfl,rfl⟩:=z;cases h
    show b.getD (b.getD (b.getD (b.getD p 0) 0) 0) 0=b.getD p 0
    rw [qD t hp]
   ·split at h
    ·rename_i z;cases h
     rcases z with ⟨rfl,rfl⟩ | ⟨rfl,rfl⟩
     ·exact qD t hp
     ·exact qD t hp
    ·cases h
theorem Ew {ls:List Nat} {c p:Nat} (hp:p < a.length):lw a b (gc ls c) p=lw a b (ls ++ [c]) p:=by
 rcases Nn ls with e | ⟨r,x,e⟩
 ·subst e;rfl
 ·rw [Nl] at e
  subst e
  unfold gc
  rw [Nh]
  simp only
  cases q:kZ x c with
  | none=>rfl
  | some w =>
   simp only
   rw [List.dropLast_concat,DP,gj,gj]
   exact (Ek t q (j8 t hp r)).symm
theorem wU (cs:List Nat) (h:∀c∈cs,isLet c):∃v,aW v∧Eqv (aQ v) (aQ cs)∧∀p,p < a.length→lw a b v p=lw a b cs p:=by
 revert h
 refine snoc_ind (P:=fun cs=>(∀c∈cs,isLet c)→∃v,aW v∧Eqv (aQ v) (aQ cs)∧∀p,p < a.length→lw a b v p=lw a b cs p) (fun _=>⟨[],⟨trivial,fun c hc=>nomatch hc⟩,.refl _,fun _ _=>rfl⟩) (fun r c ih h=>?_) cs
 obtain⟨v,hv,ve,vl⟩:=ih fun x hx=>h x (List.mem_append_left _ hx)
 obtain⟨g1,g2,_⟩:=l4 hv (h c (by simp))
 refine⟨gc v c,g1,g2.trans ?_,fun p hp=>?_⟩
 ·rw [cL,cL]
  exact ve.mul (.refl _)
 ·rw [Ew t hp,gj,gj,vl p hp]
theorem EM {u v:List Nat} (hu:∀c∈u,isLet c) (hv:∀c∈v,isLet c) (e:Eqv (aQ u) (aQ v)) {p:Nat} (hp:p < a.length):lw a b u p=lw a b v p:=by
 obtain⟨u',h1,h2,h3⟩:=wU t u hu
 obtain⟨v',g1,g2,g3⟩:=wU t v hv
 have:u'=v':=nB u' v' h1 g1 (h2.trans (e.trans g2.symm))
 subst this
 rw [← h3 p hp,g3 p hp]
end
def fU (k:Nat) (w:List Nat):List Nat:=(List.replicate k w).flatten
end K55
namespace KR
open PySem L2 L2.L3 K55
def bU:Fw:=F2 zN
def kY:bB:=(aE (eR (aJ (aB yb (ag 1) (aw gH (af (ag 0) au)))) (bb (aB bP (ag 0) (ag 1))) a8) (bb (cC (.int 0))))
theorem pb:∀ds Q,bU ds Q→ds.length=2:=iE
theorem qI:∀ds (Q:D→Prop),bU ds Q→kY { nx:=fun _=>Q .non,rt:=Q } (aF ["_law_script","_law_k"] ds):=by
 exact wy
def uK (x y:D) (Q:D→Prop):Prop:=∃m:Int,x=.obj dE∧y=.int m∧0 < m∧m≤1000000000000∧∀d:Int,0≤d→d < m→Q (.int d)
def az:Fw:=F2 uK
def jS:bB:=(aE (aV 2 (aB pg (Af (ag 0)) (ag 1))) (aE (qR (ag 0) (aB zU (Af (ag 0)) (ag 1))) (bb (ag 2))))
theorem sx:∀ds Q,az ds Q→ds.length=2:=iE
theorem vd:∀ds (Q:D→Prop),az ds Q→jS { nx:=fun _=>Q .non,rt:=Q } (aF ["_law_rest","_law_many","_law_digit_here"] ds):=by
 rintro ds Q ⟨x,y,rfl,m,rfl,rfl,h0,h1,h⟩
 simp_arith only [jS,Af,qR]
 intro r
 have f:=ja (a:=r) (b:=m) h0
 have hm:m.natAbs < 2 ^ 256:=Np (show m.natAbs≤1000000000000 by omega) (by decide)
 refine⟨nz _ (by omega),fun r2=>⟨y1 _ ⟨by omega,hm⟩,?_⟩⟩
 exact h _ f.1 f.2
def JZ (x y:D) (Q:D→Prop):Prop:=∃n:Nat,x=.obj dE∧y=.int (n:Int)∧2≤n∧n≤22∧∀fs,bT n fs→Q (.tup (fs.map f6))
def cf:Fw:=F2 JZ
def fZ:bB:=(aE (cA 2 (pA (af (bQ (af (qS jD (cC (.int 1))) (af (cC (.int 0)) au))) (af (bQ (af (cC (.int 0)) (af (cC (.int 1)) au))) (af (bQ (af (cC (.int 1)) (af (cC (.int 0)) au))) au))))) (aE (gd iZ (af (aB fW (ag 1) (cC (.int 2))) au) (aR 3) (aE (aV 4 (aw az (af (ag 0) (af (aB fW (c7 2) (cC (.int 1))) au)))) (pS 2 (aB bK (ag 4) (cC (.int 1))) (bQ (af (aB bK (aB bP (cM 2 (ag 4)) (cC (.int 0))) (aB bP (cM 2 (aB bK (ag 4) (cC (.int 1)))) (cC (.int 0)))) (af (aB bK (aB bP (cM 2 (ag 4)) (cC (.int 1))) (aB bP (cM 2 (aB bK (ag 4) (cC (.int 1)))) (cC (.int 1)))) au)))))) (c9 2 (bb (aw f7 (af (aB bK (gB (af (bQ (af (cC (.int 1)) (af (cC (.int 0)) au))) au)) (GH (ag 2) (ju (cC (.int 1))) (ju (aB fW (aw gH (af (ag 2) au)) (cC (.int 1)))))) au))))))
theorem mX:∀ds Q,cf ds Q→ds.length=2:=iE
theorem oa:∀ds (Q:D→Prop),cf ds Q→fZ { nx:=fun _=>Q .non,rt:=Q } (aF ["_law_rest","_law_many","_law_row","_law_k","_law_at"] ds):=by
 rintro ds Q ⟨x,y,rfl,n,rfl,rfl,h2,h22,h⟩
 simp_arith only [fZ]
 refine⟨by omega,by omega,?_⟩
 refine bD (fun i e=>∃(row:List Z2) (k1 k2:Option Lo),e=[some (.d (.obj dE)),some (.d (.int n)),some (.own (row.map f6)),k1,k2]∧xJ i row) ?_ ?_ ⟨[(-1,0),(0,1),(1,0)],_,_,rfl,KG⟩
 ·rintro i x env N hx ⟨row,k1,k2,rfl,hr⟩ hN
  have hi:i < n - 2:=by
   have:=(Mo.mp hx).1
   simp [a9] at this;omega
  have hxe:x=.int (i:Int):=by
   unfold a9 at hx
   rw [Mu,M5 (by omega)] at hx
   cases hx;simp
  subst hxe
  have hl:=hr.len
  simp_arith only [MB,az,cU,uK]
  have hk:((row.length:Int) - 1)=((i + 2:Nat):Int):=by omega
  rw [hk]
  refine⟨by omega,by omega,fun v v0 v1=>?_⟩
  obtain⟨a,ea⟩:∃a:Nat,v=(a:Int):=⟨_,(Nj v0).symm⟩
  subst ea
  have ha:a < i + 2:=by omega
  have hp:row[a]?=some row[a]:=Mq (by omega)
  have hq:row[a + 1]?=some row[a + 1]:=Mq (by omega)
  have e1:kU (row.map f6) (a:Int)=some (f6 row[a]):=gf _ _ _ _ hp
  have e2:kU (row.map f6) ((a:Int) + 1)=some (f6 row[a + 1]):=gf _ _ (a + 1) _ hq
  refine⟨_,_,rfl,e1,?_⟩
  rw [zu]
  refine⟨_,_,rfl,e2,?_⟩
  rw [zu]
  refine⟨_,_,rfl,e1,?_⟩
  rw [zY]
  refine⟨_,_,rfl,e2,?_⟩
  rw [zY]
  refine⟨by omega,by omega,by omega,hN _ ⟨row.take (a + 1) ++ (row[a].1 + row[a + 1].1,row[a].2 + row[a + 1].2) :: row.drop (a + 1),some (.d (.int i)),some (.d (.int a)),?_,Il hr ha hp hq⟩⟩
  rw [show ((a:Int) + 1).toNat=a + 1 by omega,List.map_append,MQ,List.map_take,List.map_drop]
  rfl
 ·rintro env ⟨row,k1,k2,rfl,hr⟩
  simp_arith only [and_true]
  have el:(a9 0 ((n:Int) - 2).toNat).length=n - 2:=by simp [a9];omega
  rw [el] at hr
  have hl:=hr.len
  have ec:cutD (row.map f6) (some 1) (some (((row.map f6).length:Int) - 1))=((row.drop 1).take (n - 2 + 1)).map f6:=by
   unfold cutD
   rw [MB,show ((row.length:Int) - 1)=((row.length - 1:Nat):Int) by omega,show (1:Int)=((1:Nat):Int) from rfl,HT.zw,HT.zw]
   rw [List.map_take,List.map_drop]
   congr 1
   ·omega
   ·congr 1;omega
  rw [ec]
  refine⟨by simp;omega,?_⟩
  have:=h _ (by have:=CY hr (by omega);rw [show n - 2 + 2=n by omega] at this;exact this)
  exact this
def Kv (x y:D) (Q:D→Prop):Prop:=∃n:Nat,x=.obj dE∧y=.int (n:Int)∧2≤n∧n≤22∧∀ms,qT n ms→Q (.tup (ms.map mP))
def dW:Fw:=F2 Kv
def fV:bB:=(eR (n8 (aJ (aB Fd (ag 5) (cC (.int 1)))) (qm 3)) (aE (nj 6 3 (aw az (af (ag 0) (af (c7 3) au)))) (aE (rY 2 (ag 4) (ag 6)) (rY 2 (ag 6) (ag 4)))) a8)
def lq:bB:=(aE (c9 2 (eR (n8 (aJ (aB gN (ag 1) (cC (.int 2)))) (aJ (aB (IZ true) (cC (.str "third")) (ag 2)))) (aV 2 (gB (af (cC (.str "third")) (af (cC (.str "half")) au)))) a8)) (bb (aw f7 (af (ag 2) au))))
def jt:bB:=(aE (eR (aJ (aB gN (ag 5) (cC (.int 1)))) (rY 2 (ag 4) (cC (.str "third"))) a8) fV)
def j9:bB:=(aE (cA 2 (gb iZ [] (af (ag 1) au) cJ (cC (.str "half")))) (aE (cA 3 (uC (af (ag 1) au))) (aE (gC (qm 3) (aE (nj 4 3 (cC (.int 0))) (aE (aV 5 (aw az (af (ag 0) (af (cC (.int 4)) au)))) jt))) lq)))
theorem sh:∀ds Q,dW ds Q→ds.length=2:=iE
theorem ub:∀ds (Q:D→Prop),dW ds Q→j9 { nx:=fun _=>Q .non,rt:=Q } (aF ["_law_rest","_law_many","_law_marks_here","_law_left","_law_gap","_law_way","_law_other"] ds):=by
 rintro ds Q ⟨x,y,rfl,n,rfl,rfl,h2,h22,h⟩
 simp_arith only [j9,gC]
 refine⟨by omega,by omega,?_⟩
 refine iF (fun _=>.str "half") _ _ (fun x hx N hN=>by simp_arith only [cb];exact hN) (by simp [a9,PySem.sizeLine_eq];omega) ?_
 refine⟨by omega,by omega,?_⟩
 have ints_nats:a9 0 (n:Int).toNat=aM (List.range n):=by
  unfold a9 aM
  rw [show (n:Int).toNat=n by omega]
  refine List.map_congr_left fun i _=>?_
  rw [Int.zero_add]
 refine⟨fun e=>∃(left:List Nat) (ms:List Mk) (k5 k6 k7:Option Lo),e=[some (.d (.obj dE)),some (.d (.int n)),some (.own (ms.map mP)),some (.own (aM left)),k5,k6,k7]∧ik n left ms,
  HH 3,⟨List.range n,List.replicate n .half,none,none,none,?_,?_⟩,?_⟩
 ·rw [ints_nats]
  have e:[] ++ (aM (List.range n)).map (fun _=>D.str (Str.ofString "half"))=(List.replicate n Mk.half).map mP:=by
   unfold aM
   rw [List.nil_append,List.map_map,List.map_replicate]
   apply List.ext_getElem?
   intro i
   by_cases hi:i < n
   ·rw [Mu,M5 hi,MW,Mw hi];rfl
   ·rw [MF (by simp;omega),MF (by simp;omega)]
  rw [e]
 ·refine⟨by simp,List.nodup_range,fun i hi=>Na.mp hi,fun i hi=>?_,fun i j hij=>?_⟩
  ·rw [MW,Mw (Na.mp hi)]
  ·rw [MW] at hij;split at hij <;> cases hij
 rintro env ⟨left,ms,k5,k6,k7,rfl,hm⟩
 refine⟨aM left,rfl,by rw [aM,tV];decide,?_⟩
 cases left with
 | nil =>
  rw [Ms (by simp [aM])]
  simp_arith only [lq]
  have fin:∀ms:List Mk,qT n ms→Q (.tup (ms.map mP)):=h
  by_cases e2:(n:Int)=2
  ·rw [Mw e2]
   have en:n=2:=by omega
   refine⟨ms.map mP,rfl,by rw [L2.L3.FD];decide,by decide,_,rfl,?_⟩
   rw [Mw rfl,AJ]
   by_cases ht:Mk.bf∈ms
   ·rw [decide_eq_true ht]
    simp_arith only [and_true]
    refine fin ms ⟨hm.len,hm.pair,fun _=>⟨ht,fun i j hij=>?_⟩⟩
    obtain⟨h1,h2⟩:=hm.pair i j hij
    have l1:=(Mo.mp hij).1
    have l2:=(Mo.mp h2).1
    rw [hm.len] at l1 l2
    obtain⟨q,hq,eq⟩:=List.getElem_of_mem ht
    rw [hm.len] at hq
    have hqi:q=i∨q=j:=by omega
    rcases hqi with z | z
    ·subst z;rw [Mq (by rw [hm.len];exact hq),eq] at hij;cases hij
    ·subst z;rw [Mq (by rw [hm.len];exact hq),eq] at h2;cases h2
   ·rw [decide_eq_false ht]
    simp_arith only [and_true]
    refine fin [.bf,.half] ⟨by rw [en];rfl,fun i j hij=>?_,fun _=>⟨by simp,fun i j hij=>?_⟩⟩
    ·match i with
     | 0=>cases hij
     | 1=>cases hij
     | i + 2=>cases hij
    ·match i with
     | 0=>cases hij
     | 1=>cases hij
     | i + 2=>cases hij
  ·rw [Ms e2]
   exact fin ms ⟨hm.len,hm.pair,fun z=>absurd (by omega) e2⟩
 | cons g left =>
  rw [Mw (by simp [aM])]
  have hg:=hm.lt g MN
  refine⟨_,rfl,0,.int g,rfl,rfl,by decide,?_⟩
  have eE:(aM (g :: left)).eraseIdx 0=aM left:=rfl
  rw [eE]
  simp_arith only [az,cU,uK]
  intro w w0 w1
  simp_arith only [jt]
  have hml:(ms.map mP).length=n:=by rw [MB,hm.len]
  have ixg:∀(l:List D) (j:Nat),l.length=n→j < n→uQ l.length (j:Int)=some j:=fun l j hl hj=>by
   unfold uQ
   rw [Mw (by omega),Mw (by omega)];rfl
  have mset:∀(j:Nat) (m:Mk),(ms.map mP).set j (mP m)=(ms.set j m).map mP:=fun j m=>by rw [List.map_set]
  have less:(aM left).length < (aM (g :: left)).length:=by simp [aM]
  by_cases c1:w=1
  ·rw [Mw c1]
   subst c1
   refine⟨_,g,rfl,ixg _ _ hml hg,?_⟩
   simp_arith only [fV]
   exact⟨⟨left,ms.set g .bf,_,_,_,mset g .bf,rfl,rfl,rfl,rfl,hm.bf⟩,less⟩
  ·rw [Ms c1]
   simp_arith only [fV]
   by_cases c2:1 < w
   ·rw [Mw c2]
    refine⟨by rw [aM,tV];decide,?_⟩
    by_cases c3:(aM left).isEmpty=false
    ·rw [Mw c3]
     have hl0:0 < left.length:=by
      cases left with
      | nil=>cases c3
      | cons _ _=>simp
     have ll:=hm.nd
     have lln:left.length≤n:=by
      have:=iD _ (List.range n) (M9.mp ll).2 (fun y hy=>Na.mpr (hm.lt y (ME _ hy)))
      rwa [List.length_range] at this
     have hll:(aM left).length=left.length:=by simp [aM]
     rw [hll]
     refine⟨_,_,rfl,_,rfl,rfl,by omega,by omega,fun u u0 u1=>?_⟩
     obtain⟨a,ea⟩:∃a:Nat,u=(a:Int):=⟨_,(Nj u0).symm⟩
     subst ea
     have ha:a < left.length:=by omega
     have ho:left[a]?=some left[a]:=Mq ha
     have hol:left[a] < n:=hm.lt _ (ME _ (Nc ha))
     refine⟨a,.int left[a],rfl,by unfold aM;rw [Mu,ho];rfl,by omega,_,g,rfl,ixg _ _ hml hg,_,left[a],rfl,ixg _ _ (by rw [List.length_set];exact hml) hol,?_⟩
     refine⟨⟨left.eraseIdx a,(ms.set g (.gap left[a])).set left[a] (.gap g),_,_,_,?_,?_,rfl,rfl,rfl,hm.two ho⟩,?_⟩
     ·rw [List.map_set,List.map_set];rfl
     ·unfold aM;rw [Cv]
     ·unfold aM;simp only [HH,List.getElem?_cons_zero,List.getElem?_cons_succ];rw [List.length_eraseIdx,MB,Mw ha];simp;omega
    ·rw [Ms c3];exact⟨⟨left,ms,_,_,_,rfl,rfl,rfl,rfl,rfl,hm.skip⟩,less⟩
   ·rw [Ms c2];exact⟨⟨left,ms,_,_,_,rfl,rfl,rfl,rfl,rfl,hm.skip⟩,less⟩
def Gw (x y z:D) (Q:D→Prop):Prop:=∃m g:Int,x=.obj dE∧y=.int m∧z=.int g∧2≤m∧m≤22∧2≤g∧g≤22∧∀fs ms,kW fs ms→(fs.length:Int)≤max m g→Q (rR fs ms)
def gn:Fw:=F3 Gw
def kd:bB:=(bb (bQ (af (aw cf (af (ag 0) (af (ag 3) au))) (af (aw dW (af (ag 0) (af (ag 3) au))) au))))
def oh:bB:=(aE (aV 3 (aB bK (cC (.int 2)) (aw az (af (ag 0) (af (aB fW (ag 1) (cC (.int 1))) au))))) (aE (eR (aJ (aB gN (aw az (af (ag 0) (af (cC (.int 8)) au))) (cC (.int 1)))) (aV 3 (aB bK (cC (.int 2)) (aw az (af (ag 0) (af (aB fW (ag 2) (cC (.int 1))) au))))) a8) kd))
theorem wk:∀ds Q,gn ds Q→ds.length=3:=qX
theorem yD:∀ds (Q:D→Prop),gn ds Q→oh { nx:=fun _=>Q .non,rt:=Q } (aF ["_law_rest","_law_most","_law_great","_law_many"] ds):=by
 rintro ds Q ⟨x,y,z,rfl,m,g,rfl,rfl,rfl,m2,m22,g2,g22,h⟩
 have fin:∀n:Int,2≤n→n≤max m g→kd { nx:=fun _=>Q .non,rt:=Q } [some (.d (.obj dE)),some (.d (.int m)),some (.d (.int g)),some (.d (.int n))]:=fun n h1 h2=>by
  obtain⟨k,rfl⟩:∃k:Nat,n=(k:Int):=⟨_,(Nj (by omega)).symm⟩
  simp_arith only [kd,cf,dW,cU,JZ,Kv]
  refine⟨k,rfl,by omega,by omega,fun fs hfs=>⟨k,rfl,by omega,by omega,fun ms hms=>?_⟩⟩
  have e:=hfs.len
  exact h fs ms ⟨by rw [e];exact hfs,by rw [e];exact hms⟩ (by omega)
 simp_arith only [oh,az,cU,uK]
 refine⟨by omega,by omega,fun d d0 d1 e e0 e1=>?_⟩
 by_cases c:e=1
 ·rw [Mw c]
  exact⟨by omega,by omega,fun d d0 d1=>fin _ (by omega) (by omega)⟩
 ·rw [Ms c]
  exact fin _ (by omega) (by omega)
def JR (x y:D) (Q:D→Prop):Prop:=∃(ns:List Int) (k:Int),x=.lst (ns.map D.int)∧y=.int k∧0≤k∧k≤1000∧∀r:Int,Q (.int r)
def gq:Fw:=F2 JR
theorem LV {l:List Int} (hl:l.length=8) (P:Int→Prop) (hP:∀x∈l,P x) {i:Int} (h0:0≤i) (h8:i < 8) {Q:D→Prop} (q:∀x,P x→Q (.int x)):bP (.tup (l.map D.int)) (.int i) Q:=by
 obtain⟨k,rfl⟩:∃k:Nat,i=(k:Int):=⟨_,(Nj h0).symm⟩
 have hk:k < l.length:=by omega
 refine⟨.int l[k],?_,q _ (hP _ (Nc hk))⟩
 have e1:uQ (l.map D.int).length (k:Int)=some k:=by unfold uQ;rw [MB,Mw (by omega),Mw (by omega)];simp
 unfold kU
 rw [e1]
 simp [hk]
def kX:bB:=(aV 5 (aB bK (aB gF (ag 5) (cC (.int 7919))) (aB pg (aB pg (aB gF (ag 7) (aB bP (ag 2) (aB pg (ag 6) (cC (.int 8))))) (aB bP (ag 3) (aB pg (ag 6) (cC (.int 8))))) (cC (.int 7919)))))
def oY:bB:=(aE (aV 5 (cC (.int 0))) (aE (gd iZ (af (cC (.int 60)) au) (aR 6) (aE (aV 7 (aB bK (aB bK (aB pg (aw bU (af (ag 0) (af (aB bK (ag 1) (aB pg (ag 6) (cC (.int 9)))) au))) (aB CN (cC (.int 10)) (cC (.int 18)))) (cC (.int 1))) (aB gF (ag 6) (ag 6)))) kX)) (bb (ag 5))))
def nR:bB:=(aE (aV 2 (bQ (af (cC (.int 48271)) (af (cC (.int 69621)) (af (cC (.int 16807)) (af (cC (.int 39373)) (af (cC (.int 21401)) (af (cC (.int 60493)) (af (cC (.int 87721)) (af (cC (.int 31337)) au)))))))))) (aE (aV 3 (bQ (af (cC (.int 99991)) (af (cC (.int 99989)) (af (cC (.int 99971)) (af (cC (.int 99961)) (af (cC (.int 99929)) (af (cC (.int 99923)) (af (cC (.int 99907)) (af (cC (.int 99901)) au)))))))))) (aE (aV 4 (aw bU (af (ag 0) (af (ag 1) au)))) (aE (eR (aJ (aB LZ (ag 4) (aB CN (cC (.int 10)) (cC (.int 18))))) (bb (ag 4)) a8) oY))))
theorem vN:∀ds Q,gq ds Q→ds.length=2:=iE
theorem yQ:∀ds (Q:D→Prop),gq ds Q→nR { nx:=fun _=>Q .non,rt:=Q } (aF ["_law_script","_law_at","_law_by","_law_prime","_law_cell","_law_big_here","_law_k","_law_one"] ds):=by
 rintro ds Q ⟨x,y,rfl,ns,k,rfl,rfl,k0,k1,h⟩
 simp_arith only [nR,bU,cU,zN]
 refine⟨ns,k,rfl,rfl,k0,x4 _ _ (by decide),?_⟩
 by_cases c:1000000000000000000≤Ao ns k
 ·rw [Mw c];exact h _
 ·rw [Ms c]
  simp_arith only [oY]
  refine bD (fun _ e=>∃(b:Int) (k6 k7:Option Lo),e=[some (.d (.lst (ns.map D.int))),some (.d (.int k)),some (.d (.tup ([48271,69621,16807,39373,21401,60493,87721,31337].map D.int))),some (.d (.tup ([99991,99989,99971,99961,99929,99923,99907,99901].map D.int))),some (.d (.int (Ao ns k))),some (.d (.int b)),k6,k7]) ?_ ?_ ⟨0,none,none,rfl⟩
  ·rintro i x env N hx ⟨b,k6,k7,rfl⟩ hN
   have hi:i < 60:=by
    have:=(Mo.mp hx).1
    simpa [a9] using this
   have hxe:x=.int (i:Int):=by
    unfold a9 at hx
    rw [Mu,M5 (by omega)] at hx
    cases hx;simp
   subst hxe
   have f9:=ja (a:=(i:Int)) (b:=9) (by decide)
   have f8:=ja (a:=(i:Int)) (b:=8) (by decide)
   simp only [ag,aB,cC,aw,af,au,aE,aV,aR,List.set_cons_zero,List.set_cons_succ,List.getElem?_cons_zero,List.getElem?_cons_succ,Option.some.injEq,Lo.d.injEq,exists_eq_left',rC,jm,cU,zN,bU,kX]
   refine⟨nz _ (by decide),ns,_,rfl,rfl,by omega,x4 _ _ (by decide),nz _ (by decide),ef (by omega) (by omega),fO (by decide) (by decide),nz _ (by decide),?_⟩
   refine LV rfl (fun x=>-(2 ^ 64) < x∧x < 2 ^ 64) (by decide) f8.1 f8.2 fun y hy=>?_
   refine⟨fO hy.1 hy.2,nz _ (by decide),?_⟩
   refine LV rfl (fun x=>x≠0) (by decide) f8.1 f8.2 fun z hz=>?_
   exact⟨nz _ hz,nz _ (by decide),hN _ ⟨_,_,_,rfl⟩⟩
  ·rintro env ⟨b,k6,k7,rfl⟩
   simp_arith only [and_true]
   exact h b
def e8:Fw:=F1 fun x Q=>∃fs:List Z2,x=.tup (fs.map f6)∧0 < fs.length∧fs.length≤22∧Q (.lst (vJ fs))
def l5:bB:=(bb (cY (gb iZ [0] (af (aw gH (af (ag 0) au)) au) cJ (bQ (af (aB bP (ag 1) (ag 0)) (af (aB bP (ag 1) (aB pg (aB bK (ag 0) (cC (.int 1))) (aw gH (af (ag 1) au)))) au))))))
theorem va:∀ds Q,e8 ds Q→ds.length=1:=jZ
theorem vV:∀ds (Q:D→Prop),e8 ds Q→l5 { nx:=fun _=>Q .non,rt:=Q } (aF ["_law_fractions_here"] ds):=by
 rintro ds Q ⟨x,rfl,fs,rfl,h0,h22,h⟩
 simp_arith only [l5,MB]
 refine⟨by omega,by omega,?_⟩
 refine iF (fun x=>match x with | .int i=>c8 (.edge (bA fs i.toNat)) | _=>.non) _ _ (fun x hx N hN=>?_) (by simp [a9,PySem.sizeLine_eq];omega) ?_
 ·obtain⟨i,hi,rfl⟩:∃i:Nat,i < fs.length∧x=.int (i:Int):=by
   unfold a9 at hx
   obtain⟨i,hi,rfl⟩:=M3.mp hx
   exact⟨i,by simpa using hi,by simp⟩
  simp_arith only [cb,MB]
  have hm:(i + 1) % fs.length < fs.length:=Nat.mod_lt _ (by omega)
  have e2:((i:Int) + 1).fmod (fs.length:Int)=(((i + 1) % fs.length:Nat):Int):=by
   rw [Int.fmod_eq_emod_of_nonneg _ (by omega),Int.natCast_emod,show (((i + 1:Nat)):Int)=(i:Int) + 1 by omega]
  refine Dk (mZ hi) ⟨by show (fs.length:Int)≠0;omega,?_⟩
  rw [e2]
  refine Dk (mZ hm) ?_
  rw [Ds hi]
  exact hN
 ·have eg:[] ++ (a9 0 (fs.length:Int).toNat).map (fun x=>match x with | .int i=>c8 (.edge (bA fs i.toNat)) | _=>.non)=vJ fs:=by
   unfold vJ a9
   simp
  rw [eg]
  exact h
def dQ:Fw:=F1 BU
def dD:bB:=(aE (aV 11 (bQ (af (bQ (af (cC (.int 1)) (af (cC (.int 0)) au))) (af (bQ (af (cC (.int 0)) (af (cC (.int 1)) au))) au)))) (aE (cW 4 (eR (aJ (aB gN (aw gH (af (ag 1) au)) (cC (.int 2)))) (aE (aV 11 (aB bP (gB (af (cC (.int 1)) (af (cC (.int 0)) au))) (aw qY (af (aB lr (aB bP (ag 2) (cC (.int 1))) (cC (.str "third"))) au)))) (jV (gB (af (cC (.int 0)) (af (cC (.int 1)) au))) (aR 9) (eR (aJ (aB gN (aB bP (ag 2) (ag 9)) (cC (.str "third")))) (aX 8 (ag 9) (aB bP (gB (af (ag 9) (af (aB fW (cC (.int 1)) (ag 9)) au))) (aw qY (af (aB gN (aB bP (ag 2) (aB fW (cC (.int 1)) (ag 9))) (cC (.str "third"))) au)))) a8))) (eR (aJ (aB (Ke true) (ag 11) (ag 4))) (aV 11 (mW 8 (aB bP (ag 3) (qS jD (cC (.int 1)))))) a8))) (cW 8 (bb (bQ (af (ag 8) (af (ag 4) (af (ag 11) au))))))))
def dF:bB:=(aE (sS (af (ag 2) au) (iw 2 (ba (aR 9) (ba (aR 10) h7))) (eR (aJ (aB gN (ag 10) (cC (.str "third")))) (aE (aX 4 (ag 9) (ag 9)) (aE (aX 8 (ag 9) (aB bP (ag 3) (ag 9))) (aX 8 (aB bP (ag 3) (ag 9)) (ag 9)))) (eR (aJ (aB gN (ag 10) (cC (.str "half")))) (aX 8 (aB bP (ag 3) (ag 9)) (aB bP (ag 3) (ag 9))) (aX 8 (aB bP (ag 3) (ag 9)) (aB bP (ag 3) (ag 10)))))) dD)
def fC:bB:=(aE (kR 8) (aE (pI 4 (iw 2 (ba (aR 5) (ba (aR 7) h7))) (aX 8 (bQ (af (ag 5) (af (ag 7) au))) (bQ (af (ag 7) (af (ag 5) au))))) dF))
def jI:bB:=(aE (kT (ag 0) (iw 2 (ba (aR 1) (ba (aR 2) h7)))) (aE (aV 3 (aw e8 (af (ag 1) au))) (aE (kR 4) (aE (jV (aw dS (af (ag 1) au)) (iw 3 (ba (aR 5) (ba (aR 6) (ba (aR 7) h7)))) (aE (aX 4 (bQ (af (ag 5) (af (ag 6) au))) (bQ (af (ag 6) (af (ag 7) au)))) (aE (aX 4 (bQ (af (ag 6) (af (ag 7) au))) (bQ (af (ag 7) (af (ag 5) au)))) (aX 4 (bQ (af (ag 7) (af (ag 5) au))) (bQ (af (ag 5) (af (ag 6) au))))))) fC))))
theorem rL:∀ds Q,dQ ds Q→ds.length=1:=jZ
theorem vk:∀ds (Q:D→Prop),dQ ds Q→jI { nx:=fun _=>Q .non,rt:=Q } (aF ["_law_fan_here","_law_fractions_here","_law_marks_here","_law_gaps_here","_law_thirds","_law_one","_law_mid","_law_other","_law_halves","_law_i","_law_mark","_law_first"] ds):=by
 rintro ds Q ⟨x,rfl,fs,ms,rfl,hf,h⟩
 have two:=hf.fr.two
 have most:=hf.fr.most
 have rest4:=yI hf h
 simp_arith only [jI,rR,e8,dS,iJ,D0,kR]
 refine⟨fs,rfl,by omega,by omega,fs,rfl,hf.fr,fun ts htl hlen=>?_⟩
 have ok:=xt htl hf.fr
 refine bD (fun i e=>∃(tk:List (D×D)) (th:bR→Option bR) (k5 k6 k7:Option Lo),e=[some (.d (rR fs ms)),some (.d (.tup (fs.map f6))),some (.d (.tup (ms.map mP))),some (.d (.lst (vJ fs))),some (.dic tk),k5,k6,k7,none,none,none,none]∧gk tk th∧xU (ts.take i) th∧tk.length≤3 * i) ?_ ?_ ⟨[],_,none,none,none,rfl,gk.nil,by simpa using xU.nil,by simp⟩
 ·rintro i x env N hx ⟨tk,th,k5,k6,k7,rfl,hd,ht,hl⟩ hN
  have hi:i < ts.length:=by have:=(Mo.mp hx).1;simpa using this
  obtain⟨t,hti⟩:∃t,ts[i]?=some t:=⟨ts[i],Mq hi⟩
  rw [Mu,hti] at hx
  cases hx
  have tke:ts.take (i + 1)=ts.take i ++ [t]:=by rw [Nk,hti];rfl
  have nd:(eN (ts.take i ++ [t])).Nodup:=by
   rw [← tke]
   have q:=ok.dif
   rw [← List.take_append_drop (i + 1) ts] at q
   unfold eN at q ⊢
   rw [List.flatMap_append,Ng] at q
   exact q.1
  have d1:=hd.put (.edge (t.1,t.2.1)) (.edge (t.2.1,t.2.2))
  have d2:=d1.put (.edge (t.2.1,t.2.2)) (.edge (t.2.2,t.1))
  have d3:=d2.put (.edge (t.2.2,t.1)) (.edge (t.1,t.2.1))
  have l1:=dC (kvs:=tk) (k:=c8 (.edge (t.1,t.2.1))) (v:=c8 (.edge (t.2.1,t.2.2)))
  have l2:=dC (kvs:=putN tk (c8 (.edge (t.1,t.2.1))) (c8 (.edge (t.2.1,t.2.2)))) (k:=c8 (.edge (t.2.1,t.2.2))) (v:=c8 (.edge (t.2.2,t.1)))
  have l3:=dC (kvs:=putN (putN tk (c8 (.edge (t.1,t.2.1))) (c8 (.edge (t.2.1,t.2.2)))) (c8 (.edge (t.2.1,t.2.2))) (c8 (.edge (t.2.2,t.1)))) (k:=c8 (.edge (t.2.2,t.1))) (v:=c8 (.edge (t.1,t.2.1)))
  have sz:=PySem.sizeLine_eq
  have k1:=bS (.edge (t.1,t.2.1))
  have k2:=bS (.edge (t.2.1,t.2.2))
  have k3:=bS (.edge (t.2.2,t.1))
  simp only [c8] at l1 l2 l3
  simp_arith only [KA,aX,Lo.dic.injEq]
  refine⟨k1.1,k1.2,hd.ok,by omega,k2.1,k2.2,d1.ok,by omega,k3.1,k3.2,d2.ok,by omega,?_⟩
  exact hN _ ⟨_,_,_,_,_,rfl,d3,by rw [tke];exact ht.snoc nd,by omega⟩
 ·rintro env ⟨tk,th,k5,k6,k7,rfl,hd,ht,hl⟩
  rw [MB,List.take_length] at ht
  rw [MB] at hl
  exact rest4 ts tk th k5 k6 k7 htl hlen hd ht hl
end KR
namespace KR
open PySem L2 L2.L3 K55
section
variable {β:Type} [DecidableEq β]
def cZ (met:List β) (q:β):List β:=if q∈met then met else met ++ [q]
def nD (ha th:β→β):Nat→Nat→List β→List β
 | 0,_,met=>met
 | n + 1,at_,met=>match met[at_]? with
  | none=>met
  | some p=>nD ha th n (at_ + 1) (cZ (cZ met (ha p)) (th p))
def cv (met:List β) (g:β→β):List Nat:=met.map fun p=>met.idxOf (g p)
structure Code (c:β→D):Prop where
 eq:∀p q,a6 (c p) (c q)=decide (p=q)
 dp:∀p,dep (c p)≤8
def Look (x:D) (g:β→β) (c:β→D) (P:β→Prop):Prop:=∀p,P p→∀Q:D→Prop,Q (c (g p))→GA x (c p) Q
structure Sy (ha th:β→β) (f:β) (P:β→Prop) (all:List β):Prop where
 f0:P f
 cl:∀p,P p→P (ha p)∧P (th p)
 al:∀p,P p→p∈all
 few:all.length≤500
structure Me (P:β→Prop) (met:List β):Prop where
 nd:met.Nodup
 inn:∀p∈met,P p
theorem Me.add {P:β→Prop} {met:List β} (m:Me P met) {q:β} (hq:P q):Me P (cZ met q):=by
 unfold cZ
 by_cases c:q∈met
 ·rw [Mw c];exact m
 ·rw [Ms c]
  refine⟨Ng.mpr ⟨m.nd,by simp,fun a ha b hb e=>c (by rw [MK] at hb;rw [← hb,← e];exact ha)⟩,fun p hp=>?_⟩
  rcases MP.mp hp with z | z
  ·exact m.inn p z
  ·rw [MK] at z;rw [z];exact hq
theorem cz {met:List β} {q p:β} {i:Nat} (h:met[i]?=some p):(cZ met q)[i]?=some p:=by
 unfold cZ
 by_cases c:q∈met
 ·rw [Mw c];exact h
 ·rw [Ms c,MJ (Mo.mp h).1];exact h
theorem nh {met:List β} {q:β}:q∈cZ met q:=by
 unfold cZ
 by_cases c:q∈met
 ·rw [Mw c];exact c
 ·rw [Ms c];simp
theorem fM {met:List β} {q p:β} (h:p∈met):p∈cZ met q:=by
 unfold cZ
 by_cases c:q∈met
 ·rw [Mw c];exact h
 ·rw [Ms c];exact MP.mpr (.inl h)
theorem Me.len {ha th:β→β} {f:β} {P:β→Prop} {all met:List β} (s:Sy ha th f P all) (m:Me P met):met.length≤all.length:=iD met all m.nd fun p hp=>s.al p (m.inn p hp)
theorem JB {c:β→D} (k:Code c) (met:List β) (q:β):((met.map c).any fun e=>a6 e (c q))=decide (q∈met):=by
 rw [Bool.eq_iff_iff,List.any_eq_true,decide_eq_true_eq]
 constructor
 ·rintro⟨e,h1,h2⟩
  obtain⟨z,hz,rfl⟩:=M3.mp h1
  rw [k.eq,decide_eq_true_eq] at h2
  exact h2▸hz
 ·exact fun h=>⟨_,M3.mpr ⟨q,h,rfl⟩,by rw [k.eq];simp⟩
theorem yO {c:β→D} (k:Code c):∀met:List β,b9 (met.map c)≤8
 | []=>by simp [b9]
 | a :: l=>by
  have:=yO k l
  have:=k.dp a
  simp only [MQ,b9]
  omega
theorem fH {met:List β} {q:β} (h:q∈met):met[met.idxOf q]?=some q:=by
 rw [Mq (List.idxOf_lt_length_iff.mpr h),List.getElem_idxOf]
theorem zW {met:List β} {x:D} {g:β→β} {c:β→D} {P:β→Prop} (k:Code c) (lk:Look x g c P) (m:Me P met) (cl:∀p∈met,g p∈met) (hl:met.length≤500) {Q:List D→Prop} (h:Q (aM (cv met g))) :
  comps cJ (l8 (ag 2) (aB GA (ag 1) (ag 0))) [none,some (.d x),some (.d (.lst (met.map c)))] Q (met.map c) []:=by
 refine kD (fun x y=>∀p,x=c p→p∈met→y=.int ((met.idxOf (g p):Nat):Int)) _ _ (fun x' hx N hN=>?_) (by simp [PySem.sizeLine_eq];omega) (fun ys hy hR=>?_)
 ·obtain⟨p,hp,rfl⟩:=M3.mp hx
  have mq:=cl p hp
  have dl:=yO k met
  have kq:=k.dp (g p)
  have at_:∀j,(((met.map c)[j]?).map fun d=>a6 d (c (g p)))=(met[j]?).map fun z=>decide (z=g p):=fun j=>by
   rw [Mu,Option.map_map]
   congr 1
   funext z
   exact k.eq z (g p)
  simp_arith only [l8]
  refine⟨by omega,lk p (m.inn p hp) _ ⟨by omega,met.idxOf (g p),?_,fun j hj=>?_,hN _ fun p' ep mp=>?_⟩⟩
  ·rw [at_,fH mq];simp
  ·have hkl:j < met.length:=Nat.lt_trans hj (List.idxOf_lt_length_iff.mpr mq)
   rw [at_,Mq hkl]
   simp only [Option.map_some,Option.some.injEq,decide_eq_false_iff_not]
   intro z
   have:=(List.getElem?_inj hkl m.nd).mp (show met[j]?=met[met.idxOf (g p)]? by rw [fH mq,Mq hkl,z])
   omega
  ·have e:=k.eq p p'
   rw [← ep,k.eq] at e
   have:p=p':=by simpa using e
   subst this
   rfl
 ·have:[] ++ ys=aM (cv met g):=by
   rw [List.nil_append]
   unfold aM cv
   rw [List.map_map]
   apply List.ext_getElem?
   intro i
   rw [MB] at hy
   rw [Mu]
   by_cases cc:i < met.length
   ·have h1:ys[i]?=some (ys[i]'(by omega)):=Mq _
    have h2:met[i]?=some met[i]:=Mq cc
    rw [h1,h2]
    have:=hR i (c met[i]) _ (by rw [Mu,h2];rfl) h1 met[i] rfl (Nc cc)
    rw [this];rfl
   ·rw [MF (by omega),MF (by omega)];rfl
  rw [this];exact h
end
def fX {β:Type} [DecidableEq β] (ha th:β→β) (f:β) (n:Nat):List β:=nD ha th (n + 1) 0 [f]
def FV (x y z:D) (Q:D→Prop):Prop:=∃(β:Type) (_:DecidableEq β) (c:β→D) (ha th:β→β) (f:β) (P:β→Prop) (all:List β),Code c∧Look x ha c P∧Look y th c P∧z=c f∧Sy ha th f P all ∧
 Q (.tup [.tup (aM (cv (fX ha th f all.length) ha)),.tup (aM (cv (fX ha th f all.length) th))])
def bE:Fw:=F3 FV
def jK:bB:=(aV 4 (aB bK (ag 4) (cC (.int 1))))
def mH:bB:=(c9 3 (bb (bQ (af (aw f7 (af (cY (hJ [0,3] (ag 3) cJ (l8 (ag 2) (aB GA (ag 1) (ag 0))))) au)) (af (aw f7 (af (cY (hJ [1,3] (ag 3) cJ (l8 (ag 2) (aB GA (ag 1) (ag 0))))) au)) au)))))
def lW:bB:=(aE (cA 3 (pA (af (ag 2) au))) (aE (aV 4 (cC (.int 0))) (aE (gC (aJ (aB yb (ag 4) (c7 3))) (aE (jV (gB (af (aB GA (ag 0) (cM 3 (ag 4))) (af (aB GA (ag 1) (cM 3 (ag 4))) au))) (aR 5) (eR (zl true 3 (ag 5)) (er 3 (ag 5)) a8)) jK)) mH)))
theorem vj:∀ds Q,bE ds Q→ds.length=3:=qX
theorem wI:∀ds (Q:D→Prop),bE ds Q→lW { nx:=fun _=>Q .non,rt:=Q } (aF ["_law_halves","_law_thirds","_law_first","_law_met","_law_at","_law_behind"] ds):=by
 rintro ds Q ⟨x,y,z,rfl,β,inst,c,ha,th,f,P,all,k,lx,ly,rfl,sy,h⟩
 have sz:=PySem.sizeLine_eq
 have few:=sy.few
 simp_arith only [lW,gC]
 refine⟨fun e=>∃(met:List β) (at_:Nat) (k5:Option Lo),e=[some (.d x),some (.d y),some (.d (c f)),some (.own (met.map c)),some (.d (.int at_)),k5]∧Me P met∧at_≤met.length∧(∀i p,i < at_→met[i]?=some p→ha p∈met∧th p∈met)∧nD ha th (all.length + 1 - at_) at_ met=fX ha th f all.length,
  fun e=>all.length - Fj 4 e,⟨[f],0,none,rfl,⟨by simp,fun p hp=>by rw [MK] at hp;rw [hp];exact sy.f0⟩,MX _,fun i p hi=>absurd hi (Nd _),rfl⟩,?_⟩
 rintro env ⟨met,at_,k5,rfl,m,mle,cl,hb⟩
 have ml:=m.len sy
 simp_arith only [MB]
 by_cases cc:at_ < met.length
 ·rw [Mw (by omega)]
  obtain⟨p,hp⟩:∃p,met[at_]?=some p:=⟨met[at_],Mq cc⟩
  have ip:=m.inn p (MA hp)
  obtain⟨i1,i2⟩:=sy.cl p ip
  have ai:kU (met.map c) (at_:Int)=some (c p):=gf _ _ _ _ hp
  refine⟨_,_,rfl,ai,lx p ip _ ⟨_,_,rfl,ai,ly p ip _ ?_⟩⟩
  show turns _ _ _ [c (ha p),c (th p)] _
  have m1:=m.add i1
  have m2:=m1.add i2
  let mm:Nat→List β:=fun i=>match i with
   | 0=>met
   | 1=>cZ met (ha p)
   | _=>cZ (cZ met (ha p)) (th p)
  have hmm:∀i,Me P (mm i):=fun i=>match i with
   | 0=>m
   | 1=>m1
   | _ + 2=>m2
  refine bD (fun i e=>i≤2∧∃k5,e=[some (.d x),some (.d y),some (.d (c f)),some (.own ((mm i).map c)),some (.d (.int at_)),k5]) ?_ ?_ ⟨by omega,k5,rfl⟩
  ·rintro i x' env N hx ⟨hi2,k5,rfl⟩ hN
   obtain⟨q,rfl,eq⟩:∃q,x'=c q∧mm (i + 1)=cZ (mm i) q:=by
    match i,hx with
    | 0,hx=>cases hx;exact⟨_,rfl,rfl⟩
    | 1,hx=>cases hx;exact⟨_,rfl,rfl⟩
   have hi:i < 2:=by have:=(Mo.mp hx).1;simpa using this
   have ml':=(hmm i).len sy
   have kq:=k.dp q
   have dl:=yO k (mm i)
   simp_arith only [zl,MB]
   refine⟨by omega,by omega,?_⟩
   rw [JB k]
   unfold cZ at eq
   by_cases c2:q∈mm i
   ·rw [Mw c2] at eq
    rw [decide_eq_true c2]
    refine hN _ ⟨by omega,some (.d (c q)),?_⟩
    rw [eq]
   ·rw [Ms c2] at eq
    rw [decide_eq_false c2]
    refine⟨by omega,hN _ ⟨by omega,some (.d (c q)),?_⟩⟩
    rw [eq,List.map_append];rfl
  ·rintro env ⟨_,k5,rfl⟩
   simp_arith only [jK]
   refine⟨⟨cZ (cZ met (ha p)) (th p),at_ + 1,k5,rfl,by omega,rfl,m2,?_,fun i q hi hq=>?_,?_⟩,by simp only [Fj,List.getElem?_cons_zero,List.getElem?_cons_succ];omega⟩
   ·have:=(Mo.mp (cz (q:=th p) (cz (q:=ha p) hp))).1
    omega
   ·by_cases e:i=at_
    ·subst e
     rw [cz (cz hp)] at hq
     cases hq
     exact⟨fM nh,nh⟩
    ·have hi':i < met.length:=by omega
     have o:met[i]?=some met[i]:=Mq hi'
     rw [cz (cz o)] at hq
     cases hq
     obtain⟨a1,a2⟩:=cl i _ (by omega) o
     exact⟨fM (fM a1),fM (fM a2)⟩
   ·rw [← hb,show all.length + 1 - at_=(all.length - at_) + 1 by omega,nD,hp]
    rw [show all.length + 1 - (at_ + 1)=all.length - at_ by omega]
 ·rw [Ms (by omega)]
  have ea:at_=met.length:=by omega
  subst ea
  have eM:fX ha th f all.length=met:=by
   rw [← hb,show all.length + 1 - met.length=(all.length - met.length) + 1 by omega,nD,MF (Mx _)]
  rw [eM] at h
  simp_arith only [mH,cb]
  refine zW k lx m (fun p hp=>?_) (by omega) (zW k ly m (fun p hp=>?_) (by omega) h)
  ·obtain⟨i,hi⟩:=M0 hp
   exact (cl i p (Mo.mp hi).1 hi).1
  ·obtain⟨i,hi⟩:=M0 hp
   exact (cl i p (Mo.mp hi).1 hi).2
end KR
namespace KR
open PySem L2 L2.L3 K55
section
variable {β:Type} [DecidableEq β] {ha th:β→β} {f:β} {P:β→Prop} {all:List β}
structure Full (ha th:β→β) (f:β) (P:β→Prop) (met:List β):Prop where
 me:Me P met
 cl:∀p∈met,ha p∈met∧th p∈met
 head:met[0]?=some f
 num:∀j q,0 < j→met[j]?=some q→∃i p,i < j∧met[i]?=some p∧(ha p=q∨th p=q)
structure Part (ha th:β→β) (f:β) (P:β→Prop) (met:List β) (at_:Nat):Prop where
 me:Me P met
 le:at_≤met.length
 cl:∀i p,i < at_→met[i]?=some p→ha p∈met∧th p∈met
 head:met[0]?=some f
 num:∀j q,0 < j→met[j]?=some q→∃i p,i < j∧i≤at_∧met[i]?=some p∧(ha p=q∨th p=q)
theorem Part.add {met:List β} {at_:Nat} (m:Part ha th f P met at_) {p q:β} (hp:met[at_]?=some p) (hq:P q) (e:ha p=q∨th p=q):Part ha th f P (cZ met q) at_:=by
 have hl:=(Mo.mp hp).1
 refine⟨m.me.add hq,?_,fun i x hi hx=>?_,cz m.head,fun j x hj hx=>?_⟩
 ·have:=(Mo.mp (cz (q:=q) hp)).1;omega
 ·have o:met[i]?=some (met[i]'(by omega)):=Mq _
  rw [cz o] at hx
  cases hx
  obtain⟨a,b⟩:=m.cl i _ hi o
  exact⟨fM a,fM b⟩
 ·by_cases c:j < met.length
  ·have o:met[j]?=some met[j]:=Mq c
   rw [cz o] at hx
   cases hx
   obtain⟨i,y,h1,h2,h3,h4⟩:=m.num j _ hj o
   exact⟨i,y,h1,h2,cz h3,h4⟩
  ·have hx':=hx
   unfold cZ at hx
   by_cases cq:q∈met
   ·rw [Mw cq,MF (by omega)] at hx;cases hx
   ·rw [Ms cq,MH (by omega)] at hx
    have hj0:j - met.length=0:=by
     have:=(Mo.mp hx).1
     simpa using this
    rw [hj0] at hx
    have:q=x:=by simpa using hx
    subst this
    exact⟨at_,p,by omega,Mx _,cz hp,e⟩
theorem xC (sy:Sy ha th f P all):∀n at_ met,Part ha th f P met at_→n + at_=all.length + 1→Full ha th f P (nD ha th n at_ met)
 | 0,at_,met,m,e=>by
  have:=m.me.len sy
  have:=m.le
  omega
 | n + 1,at_,met,m,e=>by
  rw [nD]
  cases hp:met[at_]? with
  | none =>
   have:=m.le
   have ea:at_=met.length:=by
    have:=List.getElem?_eq_none_iff.mp hp;omega
   refine⟨m.me,fun p hp=>?_,m.head,fun j q hj hq=>?_⟩
   ·obtain⟨i,hi⟩:=M0 hp
    exact m.cl i p (by rw [ea];exact (Mo.mp hi).1) hi
   ·obtain⟨i,p,h1,_,h3,h4⟩:=m.num j q hj hq
    exact⟨i,p,h1,h3,h4⟩
  | some p =>
   have ip:=m.me.inn p (MA hp)
   obtain⟨c1,c2⟩:=sy.cl p ip
   have m1:=m.add hp c1 (.inl rfl)
   have hp1:=cz (q:=ha p) hp
   have m2:=m1.add hp1 c2 (.inr rfl)
   have hp2:=cz (q:=th p) hp1
   refine xC sy n (at_ + 1) _ ⟨m2.me,?_,fun i x hi hx=>?_,m2.head,fun j q hj hq=>?_⟩ (by omega)
   ·have:=(Mo.mp hp2).1;omega
   ·by_cases e:i=at_
    ·subst e
     rw [hp2] at hx
     cases hx
     exact⟨fM nh,nh⟩
    ·exact m2.cl i x (by omega) hx
   ·obtain⟨i,y,h1,h2,h3,h4⟩:=m2.num j q hj hq
    exact⟨i,y,h1,by omega,h3,h4⟩
theorem jP (sy:Sy ha th f P all):Full ha th f P (fX ha th f all.length):=by
 refine xC sy (all.length + 1) 0 [f] ⟨⟨by simp,fun p hp=>by rw [MK] at hp;rw [hp];exact sy.f0⟩,MX _,fun i p hi=>absurd hi (Nd _),rfl,fun j q hj hq=>?_⟩ rfl
 have:=(Mo.mp hq).1
 simp at this
 omega
end
structure l9 (a b:List Nat):Prop where
 ok:tm a b
 pos:0 < a.length
 num:∀j,0 < j→j < a.length→∃i,i < j∧(a[i]?=some j∨b[i]?=some j)
theorem iX {β:Type} [DecidableEq β] {met:List β} {g:β→β} {i:Nat} {p:β} (h:met[i]?=some p):(cv met g)[i]?=some (met.idxOf (g p)):=by
 unfold cv;rw [Mu,h];rfl
theorem iP {β:Type} [DecidableEq β] {met:List β} (nd:met.Nodup) {i:Nat} {p:β} (h:met[i]?=some p):met.idxOf p=i:=by
 have h2:=fH (MA h)
 exact (List.getElem?_inj (Mo.mp h2).1 nd).mp (h2.trans h.symm)
theorem Full.DS {β:Type} [DecidableEq β] {ha th:β→β} {f:β} {P:β→Prop} {met:List β} (m:Full ha th f P met) (hh:∀p,P p→ha (ha p)=p) (t3:∀p,P p→th (th (th p))=p):l9 (cv met ha) (cv met th):=by
 have l1:∀g:β→β,(cv met g).length=met.length:=fun g=>by unfold cv;rw [MB]
 have inv:∀(g:β→β) (i x:Nat),(cv met g)[i]?=some x→∃p,met[i]?=some p∧x=met.idxOf (g p):=fun g i x h=>by
  unfold cv at h
  rw [Mu] at h
  obtain⟨p,hp,e⟩:=MZ.mp h
  exact⟨p,hp,e.symm⟩
 have nd:=m.me.nd
 refine⟨⟨by rw [l1,l1],fun i x h=>?_,fun i x h=>?_,fun i x h=>?_,fun i x y h1 h2=>?_⟩,?_,fun j hj hl=>?_⟩
 ·obtain⟨p,hp,rfl⟩:=inv _ _ _ h
  rw [l1];exact List.idxOf_lt_length_iff.mpr (m.cl p (MA hp)).1
 ·obtain⟨p,hp,rfl⟩:=inv _ _ _ h
  rw [l1];exact List.idxOf_lt_length_iff.mpr (m.cl p (MA hp)).2
 ·obtain⟨p,hp,rfl⟩:=inv _ _ _ h
  have pm:=MA hp
  rw [iX (fH (m.cl p pm).1),hh p (m.me.inn p pm),iP nd hp]
 ·obtain⟨p,hp,rfl⟩:=inv _ _ _ h1
  have pm:=MA hp
  have q1:=(m.cl p pm).2
  rw [iX (fH q1)] at h2
  cases h2
  rw [iX (fH (m.cl _ q1).2),t3 p (m.me.inn p pm),iP nd hp]
 ·rw [l1]
  exact List.length_pos_of_mem (MA m.head)
 ·rw [l1] at hl
  obtain⟨i,p,h1,h2,h3⟩:=m.num j met[j] hj (Mq hl)
  refine⟨i,h1,?_⟩
  have ij:met.idxOf met[j]=j:=iP nd (Mq hl)
  rcases h3 with e | e
  ·left;rw [iX h2,e,ij]
  ·right;rw [iX h2,e,ij]
end KR
namespace KR
open PySem L2 L2.L3 K55
theorem wV {kvs:List (D×D)} {g:bR→Option bR} (e:gk kvs g) {P:bR→Prop} (t:∀p,P p→∃q,g p=some q):Look (.obj (rX kvs)) (fun p=>(g p).getD p) c8 P:=fun p hp Q q=>by
 obtain⟨r,hr⟩:=t p hp
 have k:=bS p
 have q:Q (c8 ((g p).getD p)):=q
 rw [hr] at q
 exact .inl ⟨kvs,c8 r,rfl,k.1,k.2,e.ok,by rw [e.get,hr];rfl,q⟩
theorem Fn:Code c8:=⟨yt,fun p=>(bS p).2⟩
theorem Ej {l:List Nat} {i x:Nat} (h:l[i]?=some x) {Q:D→Prop}:bP (.tup (aM l)) (.int (i:Int)) Q=Q (.int (x:Int)):=by
 have hi:i < l.length:=(Mo.mp h).1
 have e:kU (aM l) (i:Int)=some (.int (x:Int)):=by
  have e1:uQ l.length (i:Int)=some i:=by unfold uQ;rw [Mw (by omega),Mw (by omega)];simp
  unfold kU aM
  rw [MB,e1]
  simp [h]
 exact propext ⟨fun⟨v,ev,q⟩=>by rw [e] at ev;cases ev;exact q,fun q=>⟨_,e,q⟩⟩
def b8 (a:List Nat) (i:Nat):Nat:=a.getD i 0
theorem bX {a:List Nat} {i:Nat} (h:i < a.length):a[i]?=some (b8 a i):=by unfold b8;rw [MU,Mq h];rfl
theorem xx {a:List Nat} {n:Nat} (h:a.length=n):Look (.tup (aM a)) (b8 a) (fun i:Nat=>.int (i:Int)) (fun i=>i < n):=fun p hp Q q=>by
 refine .inr ?_
 rw [Ej (bX (by rw [h];exact hp))]
 exact q
theorem gG:Code (fun i:Nat=>D.int (i:Int)):=⟨fun p q=>by
 show a6 (.int (p:Int)) (.int (q:Int))=_
 rw [Bool.eq_iff_iff,decide_eq_true_eq]
 simp [a6]
 omega,fun p=>by simp [dep]⟩
theorem l9.sy {a b:List Nat} (t:l9 a b) (hl:a.length≤500) {k:Nat} (hk:k < a.length):Sy (b8 a) (b8 b) k (fun i=>i < a.length) (List.range a.length):=by
 have e:=t.ok.len
 refine⟨hk,fun p hp=>⟨t.ok.al _ _ (bX hp),t.ok.bl _ _ (bX (by omega))⟩,fun p hp=>Na.mpr hp,by simpa using hl⟩
theorem l9.hh {a b:List Nat} (t:l9 a b) (p:Nat) (hp:p < a.length):b8 a (b8 a p)=p:=by
 have h1:=bX hp
 have h2:=t.ok.aa _ _ h1
 rw [bX (t.ok.al _ _ h1)] at h2
 exact My h2
theorem l9.t3 {a b:List Nat} (t:l9 a b) (p:Nat) (hp:p < a.length):b8 b (b8 b (b8 b p))=p:=by
 have e:=t.ok.len
 have h1:=bX (a:=b) (i:=p) (by omega)
 have l1:=t.ok.bl _ _ h1
 have h2:=bX (a:=b) (i:=b8 b p) (by omega)
 have l2:=t.ok.bl _ _ h2
 have h3:=t.ok.bbb _ _ _ h1 h2
 rw [bX (a:=b) (by omega)] at h3
 exact My h3
def fJ (a b:List Nat) (k:Nat):List Nat:=cv (fX (b8 a) (b8 b) k a.length) (b8 a)
def gQ (a b:List Nat) (k:Nat):List Nat:=cv (fX (b8 a) (b8 b) k a.length) (b8 b)
theorem l9.anew {a b:List Nat} (t:l9 a b) (hl:a.length≤500) {k:Nat} (hk:k < a.length):l9 (fJ a b k) (gQ a b k)∧(fJ a b k).length≤a.length:=by
 have f:=jP (t.sy hl hk)
 rw [List.length_range] at f
 refine⟨f.DS (fun p hp=>t.hh p hp) (fun p hp=>t.t3 p hp),?_⟩
 unfold fJ cv
 rw [MB]
 have:=f.me.len (t.sy hl hk)
 rwa [List.length_range] at this
theorem qd {a b:List Nat} (t:l9 a b) (hl:a.length≤500) {k:Nat} (hk:k < a.length) {Q:D→Prop} (h:Q (.tup [.tup (aM (fJ a b k)),.tup (aM (gQ a b k))])):FV (.tup (aM a)) (.tup (aM b)) (.int (k:Int)) Q:=by
 refine⟨Nat,inferInstance,fun i=>.int (i:Int),b8 a,b8 b,k,fun i=>i < a.length,List.range a.length,gG,xx rfl,xx t.ok.len,rfl,t.sy hl hk,?_⟩
 rw [List.length_range]
 exact h
theorem vS {β γ:Type} [DecidableEq β] [DecidableEq γ] {φ:β→γ} {P:β→Prop} (inj:∀p q,P p→P q→φ p=φ q→p=q) {met:List β} {q:β} (hm:∀p∈met,P p) (hq:P q):cZ (met.map φ) (φ q)=(cZ met q).map φ:=by
 unfold cZ
 by_cases c:q∈met
 ·rw [Mw c,Mw (M3.mpr ⟨q,c,rfl⟩)]
 ·rw [Ms c,Ms,List.map_append];rfl
  intro z
  obtain⟨p,hp,e⟩:=M3.mp z
  exact c (inj p q (hm p hp) hq e▸hp)
theorem Ap {β:Type} [DecidableEq β] {P:β→Prop} {met:List β} {q:β} (hm:∀p∈met,P p) (hq:P q):∀p∈cZ met q,P p:=by
 intro p hp
 unfold cZ at hp
 by_cases c:q∈met
 ·rw [Mw c] at hp;exact hm p hp
 ·rw [Ms c] at hp
  rcases MP.mp hp with z | z
  ·exact hm p z
  ·rw [MK] at z;rw [z];exact hq
theorem Ah {β γ:Type} [DecidableEq β] [DecidableEq γ] {ha th:β→β} {ha' th':γ→γ} {φ:β→γ} {P:β→Prop} (cl:∀p,P p→P (ha p)∧P (th p)) (e1:∀p,P p→ha' (φ p)=φ (ha p)) (e2:∀p,P p→th' (φ p)=φ (th p))
  (inj:∀p q,P p→P q→φ p=φ q→p=q):∀n at_ met,(∀p∈met,P p)→nD ha' th' n at_ (met.map φ)=(nD ha th n at_ met).map φ
 | 0,_,_,_=>rfl
 | n + 1,at_,met,hm=>by
  rw [nD,nD,Mu]
  cases hp:met[at_]? with
  | none=>rfl
  | some p =>
   have ip:=hm p (MA hp)
   have i1:=Ap hm (cl p ip).1
   show nD ha' th' n (at_ + 1) (cZ (cZ (met.map φ) (ha' (φ p))) (th' (φ p)))=_
   rw [e1 p ip,e2 p ip,vS inj hm (cl p ip).1,vS inj i1 (cl p ip).2]
   exact Ah cl e1 e2 inj n (at_ + 1) _ (Ap i1 (cl p ip).2)
theorem xM {β:Type} [DecidableEq β] {ha th:β→β}:∀n k at_ met,(nD ha th n at_ met).length < n + at_→nD ha th (n + k) at_ met=nD ha th n at_ met
 | 0,k,at_,met,h=>by
  have h':met.length < 0 + at_:=h
  cases k with
  | zero=>rfl
  | succ k =>
   show nD ha th (0 + (k + 1)) at_ met=met
   rw [Nat.zero_add,nD,MF (by omega)]
 | n + 1,k,at_,met,h=>by
  rw [show n + 1 + k=(n + k) + 1 by omega,nD,nD]
  rw [nD] at h
  cases hp:met[at_]? with
  | none=>rfl
  | some p =>
   rw [hp] at h
   exact xM n k (at_ + 1) _ (by have:(nD ha th n (at_ + 1) (cZ (cZ met (ha p)) (th p))).length < n + 1 + at_:=h;omega)
def BE (a b:List Nat):Prop:=fX (b8 a) (b8 b) 0 a.length=List.range a.length
theorem BG {β:Type} [DecidableEq β] {ha th:β→β} {f:β} {P:β→Prop} {all:List β} (sy:Sy ha th f P all) (tb:l9 (cv (fX ha th f all.length) ha) (cv (fX ha th f all.length) th)):BE (cv (fX ha th f all.length) ha) (cv (fX ha th f all.length) th):=by
 have F:=jP sy
 have l1:=F.me.len sy
 have few:=sy.few
 unfold BE
 generalize hm:fX ha th f all.length=met at *
 have la:(cv met ha).length=met.length:=by unfold cv;rw [MB]
 have i0:met.idxOf f=0:=iP F.me.nd F.head
 have nat:∀(g:β→β) (p:β),p∈met→b8 (cv met g) (met.idxOf p)=met.idxOf (g p):=fun g p hp=>by
  have h1:=iX (g:=g) (fH hp)
  rw [bX (Mo.mp h1).1] at h1
  exact My h1
 have e:=Ah (ha:=ha) (th:=th) (ha':=b8 (cv met ha)) (th':=b8 (cv met th)) (φ:=met.idxOf) (P:=fun p=>p∈met) (fun p hp=>F.cl p hp) (nat ha) (nat th) (fun p q hp hq z=>by
  have h1:=fH hp
  rw [z,fH hq] at h1
  exact (My h1).symm) (all.length + 1) 0 [f] (fun p hp=>by rw [MK] at hp;rw [hp];exact MA F.head)
 have hm':nD ha th (all.length + 1) 0 [f]=met:=hm
 rw [hm',MQ,List.map_nil,i0] at e
 have hr:met.map (fun p=>met.idxOf p)=List.range met.length:=by
  apply List.ext_getElem?
  intro i
  rw [Mu]
  by_cases c:i < met.length
  ·rw [M5 c,Mq c]
   show some (met.idxOf met[i])=_
   rw [iP F.me.nd (Mq c)]
  ·rw [MF (by omega),MF (by simp;omega)];rfl
 have e':nD (b8 (cv met ha)) (b8 (cv met th)) (all.length + 1) 0 [0]=List.range met.length:=by rw [e];exact hr
 have sy':=tb.sy (by rw [la];omega) tb.pos
 have F':=jP sy'
 have l2:=F'.me.len sy'
 rw [List.length_range,la] at l2
 have m:=xM (ha:=b8 (cv met ha)) (th:=b8 (cv met th)) (met.length + 1) (all.length - met.length) 0 [0] (by
  have l3:(nD (b8 (cv met ha)) (b8 (cv met th)) (met.length + 1) 0 [0]).length≤met.length:=l2
  omega)
 rw [show met.length + 1 + (all.length - met.length)=all.length + 1 by omega,e'] at m
 rw [la]
 exact m.symm
theorem yL {row:List Z2} {ts:List fi} (t:eI row ts):ts.length + 2=row.length:=by
 induction t with
 | done h=>simpa using h.symm
 | cut h e _ ih =>
  have:=e.il
  rw [List.length_eraseIdx_of_lt (by omega)] at ih
  simp;omega
theorem Eh {fs:List Z2} {ms:List Mk} {ha th:bR→Option bR} {isP:bR→Prop} (hf:kW fs ms) (src:DT fs ms ha th isP) {met:List bR} (nd:met.Nodup) (inn:∀p∈met,isP p):met.length + 6≤4 * fs.length:=by
 rcases src with ⟨hn,ts,_,tl,_,hp⟩ | ⟨c,_,hp⟩
 ·have:=iD met ((eN ts).map .edge ++ (List.range fs.length).map .gap) nd fun p h=>by
   have q:=(hp p).mp (inn p h)
   cases p with
   | edge e=>exact MP.mpr (.inl (M3.mpr ⟨e,q,rfl⟩))
   | gap i=>exact MP.mpr (.inr (M3.mpr ⟨i,Na.mpr (dA hf.mar q),rfl⟩))
  rw [MS,MB,MB,vn,List.length_range] at this
  have:=yL tl
  omega
 ·have ml:=hf.mar.len
  have:=iD met [.gap 0,.gap 1] nd fun p h=>by
   obtain⟨i,hi,rfl⟩:=(hp p).mp (inn p h)
   have:=(Mo.mp hi).1
   have:i=0∨i=1:=by omega
   rcases this with rfl | rfl <;> simp
  simp at this
  omega
def Gj (x:D) (Q:D→Prop):Prop:=∃fs ms,x=rR fs ms∧kW fs ms∧∀a b:List Nat,l9 a b→BE a b→a.length≤500→a.length + 6≤4 * fs.length→Q (.tup [.tup (aM a),.tup (aM b)])
def dR:Fw:=F1 Gj
def jQ:bB:=(aE (kT (aw dQ (af (ag 0) au)) (iw 3 (ba (aR 1) (ba (aR 2) (ba (aR 3) h7))))) (bb (aw bE (af (ag 1) (af (ag 2) (af (ag 3) au))))))
theorem rQ:∀ds Q,dR ds Q→ds.length=1:=jZ
theorem ua:∀ds (Q:D→Prop),dR ds Q→jQ { nx:=fun _=>Q .non,rt:=Q } (aF ["_law_fan_here","_law_halves","_law_thirds","_law_first"] ds):=by
 rintro ds Q ⟨x,rfl,fs,ms,rfl,hf,h⟩
 simp_arith only [jQ,dQ,bE,iJ,lh,BU]
 refine⟨fs,ms,rfl,hf,fun hk tk ha th f e1 e2 hr=>?_⟩
 obtain⟨isP,all,sys,src,cnt⟩:=Iy hf hr
 have sy:Sy (fun p=>(ha p).getD p) (fun p=>(th p).getD p) f isP all:=⟨sys.f0,fun p hp=>by
  obtain⟨q,a1,i1⟩:=sys.h1 p hp
  obtain⟨r,a2,i2⟩:=sys.t1 p hp
  rw [a1,a2]
  exact⟨i1,i2⟩,sys.al,sys.few⟩
 have fm:=jP sy
 have tb:=fm.DS (fun p hp=>by
  obtain⟨q,a1,i1⟩:=sys.h1 p hp
  rw [a1,Option.getD_some,sys.hh p q hp a1,Option.getD_some]) (fun p hp=>by
  obtain⟨q,r,a1,a2,a3⟩:=sys.t3 p hp
  rw [a1,Option.getD_some,a2,Option.getD_some,a3,Option.getD_some])
 refine⟨bR,inferInstance,c8,_,_,f,isP,all,Fn,wV e1 (fun p hp=>let ⟨q,a,_⟩:=sys.h1 p hp;⟨q,a⟩),wV e2 (fun p hp=>let ⟨q,a,_⟩:=sys.t1 p hp;⟨q,a⟩),rfl,sy,h _ _ tb (BG sy tb) ?_ ?_⟩
 ·unfold cv
  rw [MB]
  exact M7 (fm.me.len sy) sys.few
 ·unfold cv
  rw [MB]
  exact Eh hf src fm.me.nd fm.me.inn
end KR
namespace KR
open PySem L2 L2.L3 K55
abbrev cN:Nat→D:=fun i=>.int (i:Int)
structure Kn (kvs:List (D×D)) (met:List Nat):Prop where
 ok:bZ kvs
 le:kvs.length≤met.length + 1
 any:∀q:Nat,(kvs.any fun kv=>a6 kv.1 (cN q))=decide (q∈met)
theorem Du (f:Nat):Kn [(cN f,.bl true),(.non,.bl true)] [f]:=by
 have e:[(cN f,D.bl true),(D.non,D.bl true)]=putN (putN [] (cN f) (.bl true)) .non (.bl true):=by
  simp [putN,a6]
 refine⟨?_,by simp,fun q=>?_⟩
 ·rw [e]
  exact (bZ.nil.put rfl (by simp [dep])).put rfl (by simp [dep])
 ·have h:=gG.eq f q
  simp only [List.any_cons,List.any_nil,Bool.or_false]
  rw [show a6 (cN f) (cN q)=decide (f=q) from h,show a6 D.non (cN q)=false by simp [a6]]
  rw [Bool.or_false,Bool.eq_iff_iff,decide_eq_true_eq,decide_eq_true_eq,MK]
  exact⟨Eq.symm,Eq.symm⟩
theorem Kn.put {kvs:List (D×D)} {met:List Nat} (k:Kn kvs met) {q:Nat} (h:q∉met):Kn (putN kvs (cN q) (.bl true)) (met ++ [q]):=by
 have e:putN kvs (cN q) (.bl true)=kvs ++ [(cN q,.bl true)]:=by
  unfold putN
  rw [Ms (by rw [k.any,decide_eq_true_eq];exact h)]
 refine⟨k.ok.put rfl (by simp [dep]),by rw [e];have:=k.le;simp;omega,fun r=>?_⟩
 rw [e,List.any_append,k.any]
 simp only [List.any_cons,List.any_nil,Bool.or_false]
 rw [show a6 (cN q) (cN r)=decide (q=r) from gG.eq q r,Bool.eq_iff_iff,Bool.or_eq_true,decide_eq_true_eq,decide_eq_true_eq,decide_eq_true_eq,MP,MK]
 exact or_congr Iff.rfl ⟨Eq.symm,Eq.symm⟩
structure Rw (x:D) (a:List Nat):Prop where
 ix:∀{i v:Nat} {Q:D→Prop},a[i]?=some v→bP x (.int (i:Int)) Q=Q (.int (v:Int))
 ln:∀{Q:D→Prop},gH [x] Q=Q (.int ((a.length:Nat):Int))
theorem Rw.tup {a:List Nat}:Rw (.tup (aM a)) a:=⟨fun h=>Ej h,fun {Q}=>by rw [lG];simp [aM]⟩
def Lu (x y z:D) (Q:D→Prop):Prop:=∃(a b:List Nat) (f:Nat),Rw x a∧Rw y b∧z=.int (f:Int)∧l9 a b∧a.length≤500∧f < a.length∧Q (.lst (aM (fX (b8 a) (b8 b) f a.length)))
def fg:Fw:=F3 Lu
def jJ:bB:=(Dx 5 (cC (.int 1)))
def mI:bB:=(c9 3 (bb (ag 3)))
def l7:bB:=(aE (cA 3 (pA (af (ag 2) au))) (aE (vC 4 (ag 2) (cC (.bl true)) (cC (.bl true))) (aE (aV 5 (cC (.int 0))) (aE (gC (aJ (aB yb (ag 5) (c7 3))) (aE (aV 6 (cM 3 (ag 5))) (aE (jV (bQ (af (aB bP (ag 0) (ag 6)) (af (aB bP (ag 1) (ag 6)) au))) (aR 7) (eR (zi true 4 (ag 7)) (aE (aX 4 (ag 7) (cC (.bl true))) (er 3 (ag 7))) a8)) jJ))) mI))))
theorem uS:∀ds Q,fg ds Q→ds.length=3:=qX
theorem wg:∀ds (Q:D→Prop),fg ds Q→l7 { nx:=fun _=>Q .non,rt:=Q } (aF ["halves","thirds","first","met","known","at","here","behind"] ds):=by
 rintro ds Q ⟨x,y,z,rfl,a,b,f,rx,ry,rfl,tb,few,hf,h⟩
 have sz:=PySem.sizeLine_eq
 have sy:=tb.sy few hf
 have le:=tb.ok.len
 simp_arith only [l7,vC,gC]
 refine⟨fun e=>∃(met:List Nat) (kvs:List (D×D)) (at_:Nat) (k6 k7:Option Lo),e=[some (.d x),some (.d y),some (.d (cN f)),some (.own (met.map cN)),some (.dic kvs),some (.d (.int at_)),k6,k7]∧Me (fun i=>i < a.length) met∧Kn kvs met∧at_≤met.length∧nD (b8 a) (b8 b) (a.length + 1 - at_) at_ met=fX (b8 a) (b8 b) f a.length,
  fun e=>a.length - Fj 5 e,⟨[f],_,0,none,none,rfl,⟨by simp,fun p hp=>by rw [MK] at hp;rw [hp];exact hf⟩,Du f,MX _,rfl⟩,?_⟩
 rintro env ⟨met,kvs,at_,k6,k7,rfl,m,kn,mle,hb⟩
 have ml:=m.len sy
 rw [List.length_range] at ml
 simp_arith only [MB]
 by_cases cc:at_ < met.length
 ·rw [Mw (by omega)]
  obtain⟨p,hp⟩:∃p,met[at_]?=some p:=⟨met[at_],Mq cc⟩
  have ip:=m.inn p (MA hp)
  obtain⟨i1,i2⟩:=sy.cl p ip
  have ai:kU (met.map cN) (at_:Int)=some (cN p):=gf _ _ _ _ hp
  refine⟨_,_,rfl,ai,?_⟩
  show bP x (.int (p:Int)) _
  rw [rx.ix (bX ip)]
  show bP y (.int (p:Int)) _
  rw [ry.ix (bX (by omega))]
  have m1:=m.add i1
  have m2:=m1.add i2
  let mm:Nat→List Nat:=fun i=>match i with
   | 0=>met
   | 1=>cZ met (b8 a p)
   | _=>cZ (cZ met (b8 a p)) (b8 b p)
  have hmm:∀i,Me (fun i=>i < a.length) (mm i):=fun i=>match i with
   | 0=>m
   | 1=>m1
   | _ + 2=>m2
  refine bD (fun i e=>i≤2∧∃kvs k7,e=[some (.d x),some (.d y),some (.d (cN f)),some (.own ((mm i).map cN)),some (.dic kvs),some (.d (.int at_)),some (.d (cN p)),k7]∧Kn kvs (mm i)) ?_ ?_ ⟨by omega,kvs,k7,rfl,kn⟩
  ·rintro i x' env N hx ⟨hi2,kvs,k7,rfl,kn⟩ hN
   obtain⟨q,rfl,eq⟩:∃q:Nat,x'=cN q∧mm (i + 1)=cZ (mm i) q:=by
    match i,hx with
    | 0,hx=>cases hx;exact⟨_,rfl,rfl⟩
    | 1,hx=>cases hx;exact⟨_,rfl,rfl⟩
   have hi:i < 2:=by have:=(Mo.mp hx).1;simpa using this
   have ml':=(hmm i).len sy
   rw [List.length_range] at ml'
   have kl:=kn.le
   simp_arith only [zi,aX,Lo.dic.injEq]
   refine⟨rfl,by simp [dep],kn.ok,?_⟩
   rw [kn.any]
   unfold cZ at eq
   by_cases c2:q∈mm i
   ·rw [Mw c2] at eq
    rw [decide_eq_true c2]
    refine hN _ ⟨by omega,kvs,some (.d (cN q)),?_,by rw [eq];exact kn⟩
    rw [eq]
   ·rw [Ms c2] at eq
    rw [decide_eq_false c2]
    refine⟨rfl,by simp [dep],kn.ok,by omega,?_⟩
    refine⟨by simp;omega,hN _ ⟨by omega,_,some (.d (cN q)),?_,by rw [eq];exact kn.put c2⟩⟩
    rw [eq,List.map_append];rfl
  ·rintro env ⟨_,kvs,k7,rfl,kn⟩
   simp_arith only [jJ,Dx]
   refine⟨⟨cZ (cZ met (b8 a p)) (b8 b p),kvs,at_ + 1,some (.d (cN p)),k7,rfl,rfl,by omega,rfl,rfl,m2,kn,?_,?_⟩,by simp only [Fj,List.getElem?_cons_zero,List.getElem?_cons_succ];omega⟩
   ·have:=(Mo.mp (cz (q:=b8 b p) (cz (q:=b8 a p) hp))).1
    omega
   ·rw [← hb,show a.length + 1 - at_=(a.length - at_) + 1 by omega,nD,hp]
    rw [show a.length + 1 - (at_ + 1)=a.length - at_ by omega]
 ·rw [Ms (by omega)]
  have ea:at_=met.length:=by omega
  subst ea
  have eM:fX (b8 a) (b8 b) f a.length=met:=by
   rw [← hb,show a.length + 1 - met.length=(a.length - met.length) + 1 by omega,nD,MF (Mx _)]
  rw [eM] at h
  simp_arith only [mI]
  exact h
end KR
namespace KR
open PySem L2 L2.L3 K55
structure Nm (kvs:List (D×D)) (l:List Nat):Prop where
 ok:bZ kvs
 le:kvs.length≤l.length
 get:∀q:Nat,iC kvs (cN q)=if q∈l then some (cN (l.idxOf q)) else none
theorem Hr:Nm [] []:=⟨bZ.nil,Mx _,fun q=>by simp [iC]⟩
theorem Nm.put {kvs:List (D×D)} {l:List Nat} (n:Nm kvs l) {q:Nat} (h:q∉l):Nm (putN kvs (cN q) (cN l.length)) (l ++ [q]):=by
 refine⟨n.ok.put rfl (by simp [dep]),?_,fun r=>?_⟩
 ·have:(putN kvs (cN q) (cN l.length)).length≤kvs.length + 1:=by
   unfold putN
   split <;> simp
  have:=n.le
  simp
  omega
 ·rw [qC n.ok rfl rfl,n.get,show a6 (cN q) (cN r)=decide (q=r) from gG.eq q r]
  by_cases c:q=r
  ·subst c
   rw [decide_eq_true rfl,Mw rfl,Mw (by simp),List.idxOf_append,Ms h]
   simp
  ·rw [decide_eq_false c,Ms (by simp)]
   by_cases m:r∈l
   ·rw [Mw m,Mw (by simp [m]),List.idxOf_append,Mw m]
   ·rw [Ms m,Ms (by simp [m];exact fun e=>c e.symm)]
theorem wq {Q:List (D×D)→Prop}:∀(rest done:List Nat) (kvs:List (D×D)),(done ++ rest).Nodup→(done ++ rest).length≤500→Nm kvs done→(∀kvs,Nm kvs (done ++ rest)→Q kvs) →
  js cJ (ag 1) (ag 0) [none,none] Q (rest.mapIdx fun i x=>D.tup [cN (done.length + i),cN x]) kvs
 | [],done,kvs,_,_,n,h=>by rw [MV] at h;exact h kvs n
 | x :: rest,done,kvs,nd,hl,n,h=>by
  have sz:=PySem.sizeLine_eq
  have e:done ++ x :: rest=(done ++ [x]) ++ rest:=by simp
  have hx:x∉done:=fun c=>(Ng.mp nd).2.2 x c x (by simp) rfl
  have ih:=wq (Q:=Q) rest (done ++ [x]) (putN kvs (cN x) (cN done.length)) (by rw [← e];exact nd) (by rw [← e];exact hl) (n.put hx) (by rw [← e];exact h)
  rw [List.mapIdx_cons]
  have le:=n.le
  simp only [MS,List.length_cons] at hl
  refine⟨_,_,rfl,?_⟩
  simp_arith only [and_true]
  refine⟨rfl,by simp [dep],n.ok,by omega,?_⟩
  rw [Nat.add_zero]
  have f:(fun i x=>D.tup [cN (done.length + (i + 1)),cN x])=fun i x=>D.tup [cN ((done ++ [x]).length + i),cN x]:=by
   funext i y
   simp only [MS,List.length_singleton]
   rw [show done.length + (i + 1)=done.length + 1 + i by omega]
  first | (rw [f];exact ih) | (simp only [MS,List.length_singleton] at ih;simp only [Nat.add_assoc,Nat.add_comm 1] at ih ⊢;exact ih)
theorem x5 {kvs:List (D×D)} {a met:List Nat} {x:D} (rx:Rw x a) (ok:bZ kvs) (hg:∀q∈met,iC kvs (cN q)=some (cN (met.idxOf q))) (few:met.length≤500) (cl:∀p∈met,p < a.length∧b8 a p∈met) {Q:List D→Prop} (h:Q (aM (cv met (b8 a)))) :
  comps cJ (aB J1 (ag 2) (aB bP (ag 1) (ag 0))) [none,some (.d x),some (.d (.obj (rX kvs)))] Q (aM met) []:=by
 refine kD (fun x y=>∀p,x=cN p→p∈met→y=cN (met.idxOf (b8 a p))) _ _ (fun x' hx N hN=>?_) (by simp [aM,PySem.sizeLine_eq];omega) (fun ys hy hR=>?_)
 ·obtain⟨p,hp,rfl⟩:=M3.mp hx
  obtain⟨c1,c2⟩:=cl p hp
  simp_arith only [and_true]
  show bP x (.int (p:Int)) _
  rw [rx.ix (bX c1)]
  refine⟨kvs,_,rfl,rfl,by simp [dep],ok,hg _ c2,hN _ fun p' ep _=>?_⟩
  have e:=gG.eq p p'
  have ep':cN p=cN p':=ep
  rw [show (D.int (p:Int))=D.int (p':Int) from ep',gG.eq] at e
  have:p=p':=by simpa using e.symm
  rw [this]
 ·have:[] ++ ys=aM (cv met (b8 a)):=by
   rw [List.nil_append]
   unfold aM cv
   rw [List.map_map]
   apply List.ext_getElem?
   intro i
   have hy':ys.length=met.length:=by simpa [aM] using hy
   rw [Mu]
   by_cases cc:i < met.length
   ·have h1:ys[i]?=some (ys[i]'(by omega)):=Mq _
    have h2:met[i]?=some met[i]:=Mq cc
    rw [h1,h2]
    have:=hR i (cN met[i]) _ (by unfold aM;rw [Mu,h2];rfl) h1 met[i] rfl (Nc cc)
    rw [this];rfl
   ·rw [MF (by omega),MF (by omega)];rfl
  rw [this];exact h
def Lb (x y z:D) (Q:D→Prop):Prop:=∃a b met:List Nat,Rw x a∧Rw y b∧z=.lst (aM met)∧met.Nodup∧met.length≤500∧(∀p∈met,p < a.length∧p < b.length∧b8 a p∈met∧b8 b p∈met)∧Q (.tup [.tup (aM (cv met (b8 a))),.tup (aM (cv met (b8 b)))])
def de:Fw:=F3 Lb
def kc:bB:=(aE (aX 3 (cC .non) (cC .non)) (cW 3 (bb (bQ (af (aw f7 (af (cY (hJ [0,3] (ag 2) cJ (aB J1 (ag 2) (aB bP (ag 1) (ag 0))))) au)) (af (aw f7 (af (cY (hJ [1,3] (ag 2) cJ (aB J1 (ag 2) (aB bP (ag 1) (ag 0))))) au)) au))))))
def jg:bB:=(aE (ou 3 [] (af (ag 2) au) cJ (ag 1) (ag 0)) kc)
theorem qA:∀ds Q,de ds Q→ds.length=3:=qX
theorem rN:∀ds (Q:D→Prop),de ds Q→jg { nx:=fun _=>Q .non,rt:=Q } (aF ["halves","thirds","met","numbers"] ds):=by
 rintro ds Q ⟨x,y,z,rfl,a,b,met,rx,ry,rfl,nd,few,cl,h⟩
 have sz:=PySem.sizeLine_eq
 simp_arith only [jg,ou,cb]
 refine⟨_,_,rfl,rfl,?_⟩
 have e:kj (aM met)=met.mapIdx fun i x=>D.tup [cN (([]:List Nat).length + i),cN x]:=by
  apply List.ext_getElem?
  intro i
  unfold kj aM
  rw [List.getElem?_mapIdx,List.getElem?_mapIdx,Mu]
  cases met[i]? with
  | none=>rfl
  | some p=>simp
 rw [e]
 refine wq met [] [] (by simpa using nd) (by simpa using few) Hr fun kvs nm=>?_
 rw [List.nil_append] at nm
 have le:=nm.le
 simp_arith only [kc,aX,cW,Lo.dic.injEq]
 refine⟨rfl,by simp [dep],nm.ok,by omega,?_⟩
 have ok:=nm.ok.put (k:=.non) (v:=.non) rfl (by simp [dep])
 have hg:∀q∈met,iC (putN kvs .non .non) (cN q)=some (cN (met.idxOf q)):=fun q hq=>by
  rw [qC nm.ok rfl rfl,show a6 D.non (cN q)=false by simp [a6],Ms (by simp),nm.get,Mw hq]
 refine x5 rx ok hg few (fun p hp=>⟨(cl p hp).1,(cl p hp).2.2.1⟩) ?_
 refine x5 ry ok hg few (fun p hp=>⟨(cl p hp).2.1,(cl p hp).2.2.2⟩) ?_
 exact h
end KR
namespace KR
open PySem L2 L2.L3 K55
theorem l9.low {a b:List Nat} (t:l9 a b) {met:List Nat} (cl:∀p∈met,b8 a p∈met∧b8 b p∈met) (inn:∀p∈met,p < a.length):∀n q,q≤n→q∈met→0∈met
 | 0,q,h,m=>by rw [show q=0 by omega] at m;exact m
 | n + 1,q,h,m=>by
  by_cases c:q=0
  ·rw [c] at m;exact m
  ·have hq:=inn q m
   have le:=t.ok.len
   obtain⟨i,hi,e⟩:=t.num q (by omega) hq
   refine l9.low t cl inn n i (by omega) ?_
   rcases e with e | e
   ·have:=t.ok.aa _ _ e
    rw [bX hq] at this
    rw [← My this]
    exact (cl q m).1
   ·have h1:=bX (a:=b) (i:=q) (by omega)
    have h2:=t.ok.bbb _ _ _ e h1
    have l1:=t.ok.bl _ _ h1
    rw [bX (a:=b) (by omega)] at h2
    rw [← My h2]
    exact (cl _ (cl q m).2).2
theorem l9.high {a b:List Nat} (t:l9 a b) {met:List Nat} (cl:∀p∈met,b8 a p∈met∧b8 b p∈met) (h0:0∈met):∀n j,j≤n→j < a.length→j∈met
 | 0,j,h,_=>by rw [show j=0 by omega];exact h0
 | n + 1,j,h,hj=>by
  by_cases c:j=0
  ·rw [c];exact h0
  ·have le:=t.ok.len
   obtain⟨i,hi,e⟩:=t.num j (by omega) hj
   have ih:=l9.high t cl h0 n i (by omega) (by omega)
   rcases e with e | e
   ·rw [bX (by omega)] at e
    rw [← My e];exact (cl i ih).1
   ·rw [bX (by omega)] at e
    rw [← My e];exact (cl i ih).2
theorem l9.DM {a b:List Nat} (t:l9 a b) (hl:a.length≤500) {k:Nat} (hk:k < a.length):Full (b8 a) (b8 b) k (fun i=>i < a.length) (fX (b8 a) (b8 b) k a.length)∧(fX (b8 a) (b8 b) k a.length).length=a.length:=by
 have f:=jP (t.sy hl hk)
 have l1:=f.me.len (t.sy hl hk)
 rw [List.length_range] at f l1
 have h0:=t.low f.cl f.me.inn k k (Mx _) (MA f.head)
 have l2:=iD (List.range a.length) _ List.nodup_range fun p hp=>t.high f.cl h0 p p (Mx _) (Na.mp hp)
 rw [List.length_range] at l2
 exact⟨f,by omega⟩
def JF (x y:D) (Q:D→Prop):Prop:=∃a b:List Nat,Rw x a∧Rw y b∧l9 a b∧a.length≤500∧Q (.bl true)
def dU:Fw:=F2 JF
def lA:bB:=(bb (cC (.bl true)))
def jL:bB:=(aE (gd iZ (af (aw gH (af (ag 0) au)) au) (aR 2) (eR (ya (aJ (aB lr (aB bP (ag 0) (aB bP (ag 0) (ag 2))) (ag 2))) (aJ (aB lr (aB bP (ag 1) (aB bP (ag 1) (aB bP (ag 1) (ag 2)))) (ag 2)))) (bb (cC (.bl false))) a8)) lA)
theorem sk:∀ds Q,dU ds Q→ds.length=2:=iE
theorem uR:∀ds (Q:D→Prop),dU ds Q→jL { nx:=fun _=>Q .non,rt:=Q } (aF ["halves","thirds","place"] ds):=by
 rintro ds Q ⟨x,y,rfl,a,b,rx,ry,t,hl,h⟩
 have sz:=PySem.sizeLine_eq
 have le:=t.ok.len
 simp_arith only [jL]
 rw [rx.ln]
 simp_arith only [and_true]
 refine⟨by omega,by omega,?_⟩
 refine bD (fun i e=>∃k2,e=[some (.d x),some (.d y),k2]) ?_ ?_ ⟨none,rfl⟩
 ·rintro i x' env N hx ⟨k2,rfl⟩ hN
  obtain⟨hi,rfl⟩:i < a.length∧x'=.int (i:Int):=by
   simp only [a9,Mu] at hx
   obtain⟨j,hj,rfl⟩:=MZ.mp hx
   have hl':=(Mo.mp hj).1
   rw [List.length_range] at hl'
   rw [M5 hl'] at hj
   cases hj
   exact⟨by omega,by rw [Int.zero_add]⟩
  simp_arith only [and_true]
  rw [rx.ix (bX hi),rx.ix (bX (t.ok.al _ _ (bX hi))),t.hh i hi]
  have b1:=bX (a:=b) (i:=i) (by omega)
  have l1:=t.ok.bl _ _ b1
  have b2:=bX (a:=b) (i:=b8 b i) (by omega)
  have l2:=t.ok.bl _ _ b2
  have b3:=bX (a:=b) (i:=b8 b (b8 b i)) (by omega)
  rw [qV]
  refine⟨_,rfl,?_⟩
  rw [Ms (by simp),ry.ix b1,ry.ix b2,ry.ix b3,t.t3 i hi,qV]
  refine⟨_,rfl,?_⟩
  rw [Ms (by simp)]
  exact hN _ ⟨_,rfl⟩
 ·rintro env ⟨k2,rfl⟩
  simp_arith only [lA]
  exact h
def pNum (x y z:D) (Q:D→Prop):Prop:=∃(a b:List Nat) (k:Nat),Rw x a∧Rw y b∧z=.int (k:Int)∧l9 a b∧a.length≤500∧k < a.length∧Q (.tup [.tup (aM (fJ a b k)),.tup (aM (gQ a b k))])
def fe:Fw:=F3 pNum
def lX:bB:=(aE (eR (mi (aJ (aw dU (af (ag 0) (af (ag 1) au))))) iU a8) (aE (aV 3 (aw fg (af (ag 0) (af (ag 1) (af (ag 2) au))))) (aE (eR (aJ (aB yb (aw gH (af (ag 3) au)) (aw gH (af (ag 0) au)))) iU a8) (bb (aw de (af (ag 0) (af (ag 1) (af (ag 3) au))))))))
theorem uY:∀ds Q,fe ds Q→ds.length=3:=qX
theorem wD:∀ds (Q:D→Prop),fe ds Q→lX { nx:=fun _=>Q .non,rt:=Q } (aF ["halves","thirds","first","met"] ds):=by
 rintro ds Q ⟨x,y,z,rfl,a,b,k,rx,ry,rfl,t,hl,hk,h⟩
 obtain⟨f,fl⟩:=t.DM hl hk
 have le:=t.ok.len
 simp_arith only [lX,dU,fg,de,cU,lh]
 refine⟨a,b,rx,ry,t,hl,true,rfl,?_⟩
 rw [Ms (by simp)]
 refine⟨a,b,k,rx,ry,rfl,t,hl,hk,?_⟩
 have lm:(aM (fX (b8 a) (b8 b) k a.length)).length=a.length:=by simp [aM,fl]
 show gH [D.lst (aM (fX (b8 a) (b8 b) k a.length))] _
 rw [lL,lm,rx.ln]
 simp_arith only [and_true]
 rw [Ms (by omega)]
 exact⟨a,b,_,rx,ry,rfl,f.me.nd,by omega,fun p hp=>⟨f.me.inn p hp,by have:=f.me.inn p hp;omega,f.cl p hp⟩,h⟩
end KR
namespace KR
open PySem L2 L2.L3 K55
abbrev cI (a b:List Nat):D:=.tup [.tup (aM a),.tup (aM b)]
theorem ow:∀a b:List Nat,dm (aM a) (aM b)=decide (a=b)
 | [],[]=>by simp [aM,dm]
 | [],_ :: _=>by simp [aM,dm]
 | _ :: _,[]=>by simp [aM,dm]
 | x :: a,y :: b=>by
  have e:dm (aM (x :: a)) (aM (y :: b))=(a6 (cN x) (cN y) && dm (aM a) (aM b)):=by simp only [aM,MQ,dm]
  rw [e,ow a b,show a6 (cN x) (cN y)=decide (x=y) from gG.eq x y,Bool.eq_iff_iff]
  simp
theorem eL:∀a:List Nat,b9 (aM a)≤8
 | []=>by simp [aM,b9]
 | x :: a=>by
  have:=eL a
  simp only [aM,MQ,b9,dep] at this ⊢
  omega
theorem zS {a b c d:List Nat} {Q:D→Prop}:gN (cI a b) (cI c d) Q=Q (.bl (decide (a=c∧b=d))):=by
 have d1:=eL a
 have d2:=eL b
 have d3:=eL c
 have d4:=eL d
 have e:a6 (cI a b) (cI c d)=decide (a=c∧b=d):=by
  simp only [cI,a6,dm,ow,Bool.and_true]
  rw [Bool.eq_iff_iff];simp
 unfold gN
 rw [e]
 refine propext ⟨fun h=>h.2,fun h=>⟨?_,h⟩⟩
 simp only [gA,cI,dep,b9]
 omega
theorem FQ {n i:Nat} {x:D} (hx:(a9 0 ((n:Nat):Int).toNat)[i]?=some x):i < n∧x=.int (i:Int):=by
 simp only [a9,Mu] at hx
 obtain⟨j,hj,rfl⟩:=MZ.mp hx
 have hl':=(Mo.mp hj).1
 rw [List.length_range] at hl'
 rw [M5 hl'] at hj
 cases hj
 exact⟨by omega,by rw [Int.zero_add]⟩
end KR
namespace KR
open PySem L2 L2.L3 K55
end KR
namespace KR
open PySem L2 L2.L3 K55
section
variable {α β:Type} [DecidableEq α] [DecidableEq β] {φ:α→β}
end
structure La (a b c d:List Nat) (φ:Nat→Nat):Prop where
 len:c.length=a.length
 lt:∀i,i < a.length→φ i < c.length
 inj:∀i j,i < a.length→j < a.length→φ i=φ j→i=j
 h:∀i,i < a.length→φ (b8 a i)=b8 c (φ i)
 t:∀i,i < a.length→φ (b8 b i)=b8 d (φ i)
theorem La.lw {a b c d:List Nat} {φ:Nat→Nat} (s:La a b c d φ) (ta:l9 a b) {k:Nat} (hk:k < a.length) (w:List Nat):φ (lw a b w k)=lw c d w (φ k):=by
 refine snoc_ind (P:=fun w=>φ (K55.lw a b w k)=K55.lw c d w (φ k)) rfl (fun r x ih=>?_) w
 rw [gj,gj,← ih]
 have hl:=j8 ta.ok hk r
 generalize K55.lw a b r k=p at hl
 unfold lp
 split
 ·exact s.h p hl
 ·split
  ·exact s.t p hl
  ·show φ (b8 b (b8 b p))=b8 d (b8 d (φ p))
   rw [s.t (b8 b p) (oz ta.ok hl),s.t p hl]
theorem Bo {a b:List Nat} (t:l9 a b) (hl:a.length≤500) {k:Nat} (hk:k < a.length):La (fJ a b k) (gQ a b k) a b (fun i=>(fX (b8 a) (b8 b) k a.length).getD i 0)∧(fX (b8 a) (b8 b) k a.length).getD 0 0=k∧(fJ a b k).length=a.length:=by
 obtain⟨f,fl⟩:=t.DM hl hk
 have la:(fJ a b k).length=a.length:=by unfold fJ cv;rw [MB];exact fl
 have lb:(gQ a b k).length=a.length:=by unfold gQ cv;rw [MB];exact fl
 have hd:(fX (b8 a) (b8 b) k a.length).getD 0 0=k:=by rw [MU,f.head];rfl
 generalize hm:fX (b8 a) (b8 b) k a.length=met at *
 have at_:∀i,i < a.length→met[i]?=some (met.getD i 0):=fun i hi=>getD_at (by omega)
 have st:∀(g:Nat→Nat),(∀p∈met,g p∈met)→∀i,i < a.length→met.getD (b8 (cv met g) i) 0=g (met.getD i 0):=fun g hg i hi=>by
  have h1:=at_ i hi
  have h2:=iX (g:=g) h1
  have h3:b8 (cv met g) i=met.idxOf (g (met.getD i 0)):=by
   unfold b8;rw [MU,h2];rfl
  rw [h3,MU,fH (hg _ (MA h1))];rfl
 refine⟨⟨la.symm,fun i hi=>?_,fun i j hi hj e=>?_,fun i hi=>?_,fun i hi=>?_⟩,hd,la⟩
 ·rw [la] at hi;exact f.me.inn _ (MA (at_ i hi))
 ·rw [la] at hi hj
  exact (List.getElem?_inj (by omega) f.me.nd).mp (by rw [at_ i hi,at_ j hj];exact congrArg some e)
 ·rw [la] at hi
  have:=st (b8 a) (fun p hp=>(f.cl p hp).1) i hi
  unfold fJ;rw [hm];exact this
 ·rw [la] at hi
  have:=st (b8 b) (fun p hp=>(f.cl p hp).2) i hi
  unfold gQ;rw [hm];exact this
end KR
namespace KR
open PySem L2 L2.L3 K55
end KR
namespace KR
open PySem L2 L2.L3 K55
theorem lO {a b:List Nat} (t:tm a b) {x:Nat} (h:x < a.length):a[x]?=some (a.getD x 0)∧b[x]?=some (b.getD x 0):=⟨getD_at h,getD_at (l:=b) (by rw [t.len];exact h)⟩
def L6 (t p l:D) (Q:D→Prop):Prop:=∃(a b:List Nat) (x c:Nat),t=cI a b∧p=.int (x:Int)∧l=.str (d9 c)∧tm a b∧x < a.length∧isLet c∧Q (.int ((lp a b x c:Nat):Int))
def cF:Fw:=F3 L6
def gI:bB:=(aE (kT (ag 0) (iw 2 (ba (aR 3) (ba (aR 4) h7)))) (aE (eR (aJ (aB gN (ag 2) (cC (.str "s")))) (bb (aB bP (ag 3) (ag 1))) a8) (aE (aV 5 (aB bP (ag 4) (ag 1))) (aE (eR (n8 (aJ (aB gN (ag 2) (cC (.str "q")))) (aJ (aB (et true) (ag 5) (cC .non)))) (bb (aB bP (ag 4) (ag 5))) a8) (bb (ag 5))))))
theorem oo:∀ds Q,cF ds Q→ds.length=3:=qX
theorem o6:∀ds (Q:D→Prop),cF ds Q→gI { nx:=fun _=>Q .non,rt:=Q } (aF ["table","place","letter","halves","thirds","behind"] ds):=by
 rintro ds Q ⟨t,p,l,rfl,a,b,x,c,rfl,rfl,rfl,tab,hx,hc,h⟩
 have hb:=oz tab hx
 simp_arith only [gI,et,m4]
 rw [Ej (lO tab hx).1,Ej (lO tab hx).2]
 rcases hc with z | z | z <;> subst z
 ·rw [Mw (by rfl)];exact h
 ·rw [Ms (by decide),Ms (by decide)];exact h
 ·rw [Ms (by decide),Mw (by rfl),Ej (lO tab hb).2]
  exact h
def K4 (t w p:D) (Q:D→Prop):Prop:=∃(a b:List Nat) (z:Str) (x:Nat),t=cI a b∧w=.str z∧p=.int (x:Int)∧tm a b∧x < a.length∧LW z∧z.length≤100000∧Q (.int ((lw a b z.cps.toList x:Nat):Int))
def cS:Fw:=F3 K4
def ic:bB:=(aE (aV 3 (ag 2)) (aE (jV (ag 1) (aR 4) (aE (eR (aJ (aB (et false) (ag 3) (cC .non))) (bb (cC .non)) a8) (aV 3 (aw cF (af (ag 0) (af (ag 3) (af (ag 4) au))))))) (bb (ag 3))))
theorem pF:∀ds Q,cS ds Q→ds.length=3:=qX
theorem qe:∀ds (Q:D→Prop),cS ds Q→ic { nx:=fun _=>Q .non,rt:=Q } (aF ["table","word","first","place","letter"] ds):=by
 rintro ds Q ⟨t,w,p,rfl,a,b,z,x,rfl,rfl,rfl,tab,hx,hz,hl,h⟩
 simp_arith only [ic,cX]
 refine bD (fun i e=>∃k,e=[some (.d (cI a b)),some (.d (.str z)),some (.d (.int (x:Int))),some (.d (.int ((lw a b (z.cps.toList.take i) x:Nat):Int))),k]) ?_ ?_ ⟨_,rfl⟩
 ·rintro i x' env N hx' ⟨k,rfl⟩ hN
  unfold dq at hx'
  rw [Mu] at hx'
  cases hc:z.cps.toList[i]? with
  | none=>rw [hc] at hx';cases hx'
  | some c =>
   rw [hc] at hx'
   cases hx'
   have hcl:=hz c (MA hc)
   simp_arith only [cF,lh,et,m4]
   refine⟨a,b,_,c,rfl,rfl,rfl,tab,j8 tab hx _,hcl,hN _ ⟨some (.d (.str ⟨#[c]⟩)),?_⟩⟩
   rw [Nk,hc]
   simp only [Option.toList]
   rw [gj]
 ·rintro env ⟨k,rfl⟩
  simp_arith only [and_true]
  rw [Nb (by simp [dq])]
  exact h
def cG:Fw:=fun ds Q=>∃t w p,ds=[t,p,w]∧K4 t w p Q
theorem gh {t w p:D} {Q:D→Prop}:cG [t,p,w] Q=K4 t w p Q:=by
 unfold cG
 exact propext ⟨fun⟨_,_,_,e,h⟩=>by cases e;exact h,fun h=>⟨_,_,_,rfl,h⟩⟩
def nU:bB:=(aE (jV (ag 2) (aR 3) (eR (aJ (aB gN (ag 3) (cC (.str "s")))) (aV 1 (aB bP (aB bP (ag 0) (cC (.int 0))) (ag 1))) (eR (aJ (aB gN (ag 3) (cC (.str "r")))) (aV 1 (aB bP (aB bP (ag 0) (cC (.int 1))) (ag 1))) (aV 1 (aB bP (aB bP (ag 0) (cC (.int 1))) (aB bP (aB bP (ag 0) (cC (.int 1))) (ag 1))))))) (bb (ag 1)))
theorem wd:∀ds Q,cG ds Q→ds.length=3:=by rintro ds Q ⟨t,w,p,rfl,_⟩;rfl
theorem yR:∀ds (Q:D→Prop),cG ds Q→nU { nx:=fun _=>Q .non,rt:=Q } (aF ["_law_table_here","_law_place","_law_word_here","_law_letter"] ds):=by
 rintro ds Q ⟨t,w,p,rfl,a,b,z,x,rfl,rfl,rfl,tab,hx,hz,hl,h⟩
 simp_arith only [nU,cX]
 refine bD (fun i e=>∃k,e=[some (.d (cI a b)),some (.d (.int ((lw a b (z.cps.toList.take i) x:Nat):Int))),some (.d (.str z)),k]) ?_ ?_ ⟨_,rfl⟩
 ·rintro i x' env N hx' ⟨k,rfl⟩ hN
  unfold dq at hx'
  rw [Mu] at hx'
  cases hc:z.cps.toList[i]? with
  | none=>rw [hc] at hx';cases hx'
  | some c =>
   rw [hc] at hx'
   cases hx'
   have hcl:=hz c (MA hc)
   have hi:=j8 tab hx (z.cps.toList.take i)
   have hb:=oz tab hi
   have fin:N [some (.d (cI a b)),some (.d (.int ((lp a b (lw a b (z.cps.toList.take i) x) c:Nat):Int))),some (.d (.str z)),some (.d (.str ⟨#[c]⟩))]:=by
    refine hN _ ⟨some (.d (.str ⟨#[c]⟩)),?_⟩
    rw [Nk,hc]
    simp only [Option.toList]
    rw [gj]
   simp_arith only [cI,wc,vP]
   rcases hcl with w | w | w <;> subst w
   ·rw [Mw (by rfl),Ej (lO tab hi).1];exact fin
   ·rw [Ms (by decide),Mw (by rfl),Ej (lO tab hi).2];exact fin
   ·rw [Ms (by decide),Ms (by decide),Ej (lO tab hi).2,Ej (lO tab hb).2];exact fin
 ·rintro env ⟨k,rfl⟩
  simp_arith only [and_true]
  rw [Nb (by simp [dq])]
  exact h
theorem yV (cs:List Nat) (h:∀c∈cs,isLet c):∃v,aW v∧Eqv (aQ v) (aQ cs)∧v.length≤cs.length:=by
 revert h
 refine snoc_ind (P:=fun cs=>(∀c∈cs,isLet c)→∃v,aW v∧Eqv (aQ v) (aQ cs)∧v.length≤cs.length) (fun _=>⟨[],⟨trivial,fun c hc=>nomatch hc⟩,.refl _,Mx _⟩) (fun r c ih h=>?_) cs
 obtain⟨v,hv,ve,vl⟩:=ih fun x hx=>h x (List.mem_append_left _ hx)
 obtain⟨g1,g2,g3⟩:=l4 hv (h c (by simp))
 refine⟨gc v c,g1,g2.trans ?_,by simp;omega⟩
 rw [cL,cL]
 exact ve.mul (.refl _)
end KR
namespace KR
open PySem L2 L2.L3 K55
def L8 (x y:D) (Q:D→Prop):Prop:=∃m:Nat,x=.obj dE∧y=.int (m:Int)∧m≤1000∧∀z:Str,LW z→z.length≤m→Q (.str z)
def eU:Fw:=F2 L8
theorem xv (a b:Str):(a ++ b).cps.toList=a.cps.toList ++ b.cps.toList:=by show (a.cps ++ b.cps).toList=_;simp
theorem IY (z:Str):z.length=z.cps.toList.length:=by simp [Str.length]
theorem GP:LW (Str.ofString ""):=fun c hc=>nomatch (show c∈([]:List Nat) from hc)
def lE:bB:=(aE (aV 2 (cC (.str ""))) (aE (aV 3 (aw az (af (ag 0) (af (cC (.int 2)) au)))) (aE (gd iZ (af (aw az (af (ag 0) (af (aB bK (ag 1) (cC (.int 1))) au))) au) (aR 4) (eR (aJ (aB gN (aB pg (aB bK (ag 3) (ag 4)) (cC (.int 2))) (cC (.int 0)))) (aV 2 (aB bK (ag 2) (cC (.str "s")))) (aV 2 (aB bK (ag 2) (aB bP (cC (.str "rq")) (aw az (af (ag 0) (af (cC (.int 2)) au)))))))) (bb (ag 2)))))
theorem uM:∀ds Q,eU ds Q→ds.length=2:=iE
theorem xi:∀ds (Q:D→Prop),eU ds Q→lE { nx:=fun _=>Q .non,rt:=Q } (aF ["_law_rest","_law_most","_law_word_here","_law_first","_law_k"] ds):=by
 rintro ds Q ⟨x,y,rfl,m,rfl,rfl,hm,h⟩
 simp_arith only [lE,az,cU]
 refine⟨2,rfl,rfl,by decide,by decide,fun d0 a0 b0=>?_⟩
 simp_arith only [and_true]
 refine⟨_,rfl,rfl,by omega,by omega,fun d1 a1 b1=>?_⟩
 obtain⟨n,rfl⟩:=Int.eq_ofNat_of_zero_le a1
 simp_arith only [and_true]
 refine⟨by omega,by omega,?_⟩
 refine bD (fun i e=>∃z k4,LW z∧z.length≤i∧e=[some (.d (.obj dE)),some (.d (.int (m:Int))),some (.d (.str z)),some (.d (.int d0)),k4]) ?_ ?_ ⟨Str.ofString "",_,GP,by decide,rfl⟩
 ·rintro i x env N hx ⟨z,k4,hz,hzl,rfl⟩ hN
  obtain⟨hi,rfl⟩:=FQ hx
  have add:∀w:Str,(∀c∈w.cps.toList,isLet c)→w.length=1→N [some (.d (.obj dE)),some (.d (.int (m:Int))),some (.d (.str (z ++ w))),some (.d (.int d0)),some (.d (.int (i:Int)))]:=fun w hw hl=>by
   refine hN _ ⟨z ++ w,_,fun c hc=>?_,?_,rfl⟩
   ·rw [xv] at hc
    exact (MP.mp hc).elim (hz c) (hw c)
   ·rw [IY,xv,MS,← IY,← IY];omega
  simp_arith only [az,cU]
  refine⟨by (first | exact y1 _ (by decide) | exact x4 _ _ (by decide) | exact nz _ (by first | decide | omega) | exact ef (by decide) (by decide) | exact fO (by decide) (by decide) | omega | decide),?_⟩
  split
  ·exact⟨by rw [show (Str.ofString "s").length=1 from rfl];omega,add _ (fun c hc=>by have:c∈[115]:=hc;unfold isLet;simp at this;omega) rfl⟩
  ·refine⟨2,rfl,rfl,by decide,by decide,fun d a' b'=>?_⟩
   have hd:d=0∨d=1:=by omega
   rcases hd with rfl | rfl
   ·refine⟨by decide,114,rfl,?_⟩
    show bK (D.str z) (D.str ⟨#[114]⟩) _
    rw [eD]
    exact⟨by rw [PySem.sizeLine_eq,show (⟨#[114]⟩:Str).length=1 from rfl];omega,add _ (fun c hc=>by have:c∈[114]:=hc;unfold isLet;simp at this;omega) rfl⟩
   ·refine⟨by decide,113,rfl,?_⟩
    show bK (D.str z) (D.str ⟨#[113]⟩) _
    rw [eD]
    exact⟨by rw [PySem.sizeLine_eq,show (⟨#[113]⟩:Str).length=1 from rfl];omega,add _ (fun c hc=>by have:c∈[113]:=hc;unfold isLet;simp at this;omega) rfl⟩
 ·rintro env ⟨z,k4,hz,hzl,rfl⟩
  simp_arith only [and_true]
  refine h z hz ?_
  simp [a9] at hzl
  omega
theorem Fm {a b c d:List Nat} {Q:D→Prop}:lr (cI a b) (cI c d) Q=Q (.bl (!decide (a=c∧b=d))):=by
 have h:=zS (a:=a) (b:=b) (c:=c) (d:=d) (Q:=fun x=>∃k,x=.bl k∧Q (.bl (!k)))
 unfold gN at h
 unfold lr
 have e:a6 (cI a b) (cI c d)=decide (a=c∧b=d):=by
  simp only [cI,a6,dm,ow,Bool.and_true]
  rw [Bool.eq_iff_iff];simp
 rw [e]
 have dk:gA (cI a b) (cI c d):=by
  have d1:=eL a
  have d2:=eL b
  have d3:=eL c
  have d4:=eL d
  simp only [gA,cI,dep,b9]
  omega
 exact propext ⟨fun h=>h.2,fun h=>⟨dk,h⟩⟩
end KR
namespace L2.L3
open PySem
def G1 (P:D→(D→Prop)→(Str→Prop)→Prop):A4:=fun ds Q R=>∃x,ds=[x]∧P x Q R
theorem JK {P}:∀ds (Q:D→Prop) (R:Str→Prop),G1 P ds Q R→ds.length=1:=by rintro ds Q R ⟨x,rfl,_⟩;rfl
theorem JH {P} {x:D} {Q R}:G1 P [x] Q R=P x Q R:=by
 unfold G1;apply propext;constructor
 ·rintro⟨x',e,h⟩;cases e;exact h
 ·intro h;exact⟨_,rfl,h⟩
def Dj (x y:D) (Q:D→Prop) (R:Str→Prop):Prop:=∃(cs:List Nat) (m:M4) (most:Nat),x=m.toD∧y=.int (most:Int)∧aW cs∧Eqv m (aQ cs)∧most≤100000∧(cs.length≤most→Q (.str ⟨cs.toArray⟩))∧(most < cs.length→R "TooLong")
def cE:A4:=G2 Dj
def gD:sv:=(rM (Bn (cA 2 (pA au))) (rM (Bn (aV 3 (ag 0))) (rM (yJ (ya (aJ (aB lr (aB bP (ag 3) (cC (.int 1))) (cC (.int 0)))) (aJ (aB lr (aB bP (ag 3) (cC (.int 2))) (cC (.int 0))))) (rM (Jm (aJ (aB gN (c7 2) (ag 1))) (lI "TooLong" (af (cC (.str "the short word has more letters")) au)) (Bn a8)) (rM (Bn (er 2 (aw bW (af (ag 3) au)))) (Bn (aV 3 (aw eZ (af (cM 2 (qS jD (cC (.int 1)))) (af (ag 3) au)))))))) (Bn (c9 2 (bb (wY (cC (.str "")) (af (ag 2) au))))))))
theorem og:∀ds (Q:D→Prop) (R:Str→Prop),cE ds Q R→ds.length=2:=DW
theorem pf:∀ds (Q:D→Prop) (R:Str→Prop),cE ds Q R→gD { nx:=fun _=>Q .non,rt:=Q,xc:=R } (aF ["one","most","letters","left"] ds):=by
 rintro ds Q R ⟨x,y,rfl,cs,m,most,rfl,rfl,hs,he,hm,hq,hr⟩
 simp_arith! only [gD,yJ]
 refine⟨fun e=>∃(k:Nat) (lf:M4),k≤cs.length∧k≤most∧Eqv lf (aQ (cs.drop k))∧e=[some (.d m.toD),some (.d (.int (most:Int))),some (.own ((cs.take k).map o4)),some (.d lf.toD)],
  fun e=>match e with | [_,_,some (.own xs),_]=>cs.length - xs.length | _=>0,⟨0,m,MX _,MX _,he,rfl⟩,?_⟩
 rintro env ⟨k,lf,hk,hkm,hlf,rfl⟩
 have tl:((cs.take k).map o4).length=k:=by simp;omega
 refine⟨lf.toD,rfl,?_⟩
 simp_arith! only [K0,Lv]
 rcases Nf k cs.length with hlt | hge
 ·have hd:cs.drop k=cs[k] :: cs.drop (k + 1):=List.drop_eq_getElem_cons hlt
  have hsh:=hs.drop k
  have hlf':=hlf
  rw [hd] at hsh hlf'
  obtain⟨f1,f2⟩:=mC hsh hlf'
  have hc:isLet cs[k]:=hsh.2 _ MN
  have e1:(cs.take (k + 1)).map o4=(cs.take k).map o4 ++ [D.str (d9 cs[k])]:=by
   rw [Nk,Mq hlt,List.map_append];rfl
  have tl2:((cs.take (k + 1)).map o4).length=k + 1:=by simp;omega
  have nxt:k < most→∃(k':Nat) (lf':M4),k'≤cs.length∧k'≤most∧Eqv lf' (aQ (cs.drop k'))∧(cs.take k).map o4 ++ [D.str (d9 cs[k])]=(cs.take k').map o4∧(pC cs[k] lf).toD=lf'.toD:=fun hlm=>⟨k + 1,pC cs[k] lf,by omega,by omega,nQ hc hlf',e1.symm,rfl⟩
  have mu:cs.length - ((cs.take k).map o4 ++ [D.str (d9 cs[k])]).length < cs.length - ((cs.take k).map o4).length:=by rw [← e1,tl2,tl];omega
  by_cases hb:lf.b=0
  ·have hc0:lf.c≠0:=f2.resolve_left fun z=>z hb
   simp_arith! only [hb,hc0,not_true,not_false_eq_true,bW,eZ,iJ,cU,tl]
   by_cases hm':k=most
   ·rw [Mw (by omega)];exact hr (by omega)
   ·rw [Ms (by omega)]
    refine⟨by omega,lf,rfl,?_⟩
    rw [f1]
    exact⟨-1,o4 cs[k],rfl,vY,cs[k],lf,rfl,hc,rfl,nxt (by omega),by have:=mu;rw [tl] at this;exact this⟩
  ·simp_arith! only [hb,not_false_eq_true,bW,eZ,iJ,cU,tl]
   by_cases hm':k=most
   ·rw [Mw (by omega)];exact hr (by omega)
   ·rw [Ms (by omega)]
    refine⟨by omega,lf,rfl,?_⟩
    rw [f1]
    exact⟨-1,o4 cs[k],rfl,vY,cs[k],lf,rfl,hc,rfl,nxt (by omega),by have:=mu;rw [tl] at this;exact this⟩
 ·have hk':k=cs.length:=by omega
  have hdr:cs.drop k=[]:=M6 hge
  rw [hdr] at hlf
  obtain⟨hb,hc⟩:=qN hlf
  simp_arith! only [hb,hc,not_true,wY]
  refine⟨_,rfl,cs.map d9,?_,by decide,by rw [rD];simp;omega,?_⟩
  ·rw [hk',List.take_length];simp [o4]
  ·rw [yF];exact hq (by omega)
def Ed (x:D) (Q:D→Prop) (R:Str→Prop):Prop:=∃(cs:List Nat) (m:M4),x=m.toD∧aW cs∧Eqv m (aQ cs)∧(cs.length≤2000→Q (.str ⟨cs.toArray⟩))∧(2000 < cs.length→R "TooLong")
def eV:A4:=G1 Ed
def lF:sv:=(AB (jr cE (af (ag 0) (af (cC (.int 2000)) au))))
theorem vc:∀ds (Q:D→Prop) (R:Str→Prop),eV ds Q R→ds.length=1:=JK
theorem xn:∀ds (Q:D→Prop) (R:Str→Prop),eV ds Q R→lF { nx:=fun _=>Q .non,rt:=Q,xc:=R } (aF ["one"] ds):=by
 rintro ds Q R ⟨x,rfl,cs,m,rfl,hs,he,hq,hr⟩
 simp_arith! only [lF,cE,Cg]
 exact⟨cs,m,2000,rfl,rfl,hs,he,by omega,hq,hr⟩
end L2.L3
namespace KR
open PySem L2 L2.L3 K55
def Li (t o:D) (Q:D→Prop) (R:Str→Prop):Prop:=∃(a b v:List Nat) (m:M4),t=cI a b∧o=m.toD∧tm a b∧0 < a.length∧aW v∧Eqv m (aQ v)∧(v.length≤2000→Q (.int ((lw a b v 0:Nat):Int)))∧(2000 < v.length→R "TooLong")
def dY:A4:=G2 Li
def kb:sv:=(Dz (KP cS 0) (ag 0) (jr eV (af (ag 1) au)))
theorem rV:∀ds (Q:D→Prop) (R:Str→Prop),dY ds Q R→ds.length=2:=DW
theorem uV:∀ds (Q:D→Prop) (R:Str→Prop),dY ds Q R→kb { nx:=fun _=>Q .non,rt:=Q,xc:=R } (aF ["table","one"] ds):=by
 rintro ds Q R ⟨t,o,rfl,a,b,v,m,rfl,rfl,tab,ha,hv,he,hq,hr⟩
 simp_arith only [kb,Dz,cS,eV,JH,KP,List.cons_append,List.nil_append,lh]
 refine⟨v,m,rfl,hv,he,fun hl=>⟨a,b,⟨v.toArray⟩,0,rfl,rfl,rfl,tab,ha,fun c hc=>hv.2 c (by simpa using hc),by show v.toArray.size≤100000;simp;omega,?_⟩,hr⟩
 rw [show (⟨v.toArray⟩:Str).cps.toList=v by simp]
 exact hq hl
def Lp (t o:D) (Q:D→Prop) (R:Str→Prop):Prop:=∃(a b v:List Nat) (m:M4),t=cI a b∧o=m.toD∧l9 a b∧a.length≤500∧aW v∧Eqv m (aQ v)∧(v.length≤2000→Q (cI (fJ a b (lw a b v 0)) (gQ a b (lw a b v 0))))∧(2000 < v.length→R "TooLong")
def gv:A4:=G2 Lp
def nI:sv:=(CT fe (aB bP (ag 0) (cC (.int 0))) (aB bP (ag 0) (cC (.int 1))) (jr dY (af (ag 0) (af (ag 1) au))))
theorem wZ:∀ds (Q:D→Prop) (R:Str→Prop),gv ds Q R→ds.length=2:=DW
theorem yH:∀ds (Q:D→Prop) (R:Str→Prop),gv ds Q R→nI { nx:=fun _=>Q .non,rt:=Q,xc:=R } (aF ["table","one"] ds):=by
 rintro ds Q R ⟨t,o,rfl,a,b,v,m,rfl,rfl,tab,la,hv,he,hq,hr⟩
 simp_arith only [nI,CT,wc,vP,dY,fe,Cg,lh]
 exact⟨a,b,v,m,rfl,rfl,tab.ok,tab.pos,hv,he,fun hl=>⟨a,b,_,.tup,.tup,rfl,tab,la,j8 tab.ok tab.pos v,hq hl⟩,hr⟩
def K5 (x:D) (Q:D→Prop):Prop:=x=.exc "TooLong"∧Q (.str "TooLong")
def cQ:Fw:=F1 K5
def ir:bB:=(aE (eR (ya (mi (aJ (aw (uT "TooLong" (.ty "ValueError") true) (af (ag 0) (af (cC (.ty "ValueError")) au))))) (aJ (aw (uT "TooLong" (.tup [.cls "Full",.cls "NoFan",.cls "NoText",.cls "NotIn",.cls "NoTurning",.cls "Open"]) false) (af (ag 0) (af (bQ (af (cC (.cls "Full")) (af (cC (.cls "NoFan")) (af (cC (.cls "NoText")) (af (cC (.cls "NotIn")) (af (cC (.cls "NoTurning")) (af (cC (.cls "Open")) au))))))) au))))) (bb (cC (.str "other"))) a8) (aE (aV 1 (gB (af (aw (uT "TooLong" (.cls "NoTable") false) (af (ag 0) (af (cC (.cls "NoTable")) au))) (af (aw (uT "TooLong" (.cls "TooLong") true) (af (ag 0) (af (cC (.cls "TooLong")) au))) (af (aw (uT "TooLong" (.cls "TooMany") false) (af (ag 0) (af (cC (.cls "TooMany")) au))) au))))) (aE (eR (aJ (aB lr (vf (ag 1) (cC (.bl true))) (cC (.int 1)))) (bb (cC (.str "other"))) a8) (bb (aB bP (gB (af (cC (.str "NoTable")) (af (cC (.str "TooLong")) (af (cC (.str "TooMany")) au)))) (l8 (ag 1) (cC (.bl true))))))))
theorem o5:∀ds Q,cQ ds Q→ds.length=1:=jZ
theorem qW:∀ds (Q:D→Prop),cQ ds Q→ir { nx:=fun _=>Q .non,rt:=Q } (aF ["_law_e","_law_kinds"] ds):=by
 rintro ds Q ⟨x,rfl,rfl,h⟩
 simp_arith only [ir,vf,l8]
 have d0:b9 [D.bl false,D.bl true,D.bl false]≤60:=by simp [b9,dep]
 have d1:dep (D.bl true)≤60:=by simp [dep]
 refine⟨d0,d1,?_⟩
 rw [Ms (by simp [List.countP_cons,a6])]
 refine⟨d0,d1,1,by simp [a6],fun m hm=>?_,_,rfl,h⟩
 obtain rfl:m=0:=by omega
 simp [a6]
end KR
namespace KR
open PySem L2 L2.L3 K55
theorem iL (z:Str):z.length=z.cps.toList.length:=by simp [Str.length]
theorem ei (a b:Str):(a ++ b).cps.toList=a.cps.toList ++ b.cps.toList:=by show (a.cps ++ b.cps).toList=_;simp
theorem E9 {a b:Str} (h:a.cps.toList=b.cps.toList):a=b:=by
 cases a;cases b
 simp only [Str.mk.injEq]
 exact Array.ext' h
theorem tL (a:Array Nat):∀(k:Nat) (acc:Array Nat),((List.replicate k a).foldl (· ++ ·) acc).toList=acc.toList ++ (List.replicate k a.toList).flatten
 | 0,acc=>by simp
 | k + 1,acc=>by
  rw [List.replicate_succ,List.foldl_cons,tL a k,List.replicate_succ,List.flatten_cons]
  simp
theorem wa (n:Int) (x:Str):(uH n x).cps.toList=fU n.toNat x.cps.toList:=by
 unfold uH fU
 split
 ·rename_i h
  rw [show n.toNat=0 by omega];rfl
 ·split
  ·rename_i h1 h2
   rw [Bool.or_eq_true] at h2
   rcases h2 with z | z
   ·have:n=1:=beq_iff_eq.mp z
    subst this;simp
   ·have z':x.length=0:=beq_iff_eq.mp z
    have:x.cps.toList=[]:=List.eq_nil_of_length_eq_zero (by simpa [Str.length] using z')
    rw [this];simp
  ·show ((List.replicate n.toNat x.cps).foldl (· ++ ·) #[]).toList=_
   rw [tL];simp
theorem Ai {x:Str} {n:Int} {Q:D→Prop} (h1:x.length=2) (h2:-100000≤n) (h3:n≤100000) (hq:∀z:Str,z.cps.toList=fU n.toNat x.cps.toList→z.length=2 * n.toNat→Q (.str z)):o9 (.str x) (.int n) Q:=by
 have e:=wa n x
 have l:(uH n x).length=2 * n.toNat:=by
  rw [iL,e];unfold fU;simp;rw [iL] at h1;simp at h1;rw [h1];omega
 exact⟨⟨by omega,by omega⟩,by rw [h1];omega,by rw [l,PySem.sizeLine_eq];omega,hq _ e l⟩
theorem DO (n:Nat):Builtin.Str.strSliceIndices (some (-1)) none 1 (n + 1)=[n]:=by
 unfold Builtin.Str.strSliceIndices sliceRange
 simp only [show ((1:Int) > 0) by decide,if_true,show ((-1:Int) < 0) by omega]
 have hm:max 0 (min ((-1:Int) + ((n + 1:Nat):Int)) ((n + 1:Nat):Int))=(n:Int):=by omega
 rw [hm]
 have hc:(if (n:Int) < ((n + 1:Nat):Int) then ((((n + 1:Nat):Int) - (n:Int) + 1 - 1) / 1) else 0).toNat=1:=by
  rw [Mw (by omega),Int.ediv_one];omega
 rw [hc]
 simp
theorem Cf (n:Nat):Builtin.Str.strSliceIndices none (some (-1)) 1 (n + 1)=List.range n:=by
 unfold Builtin.Str.strSliceIndices sliceRange
 simp only [show ((1:Int) > 0) by decide,if_true,show ((-1:Int) < 0) by omega]
 have hm:max 0 (min ((-1:Int) + ((n + 1:Nat):Int)) ((n + 1:Nat):Int))=(n:Int):=by omega
 rw [hm]
 have hc:(if (0:Int) < (n:Int) then (((n:Int) - 0 + 1 - 1) / 1) else 0).toNat=n:=by
  split
  ·rw [Int.ediv_one];omega
  ·omega
 rw [hc]
 refine Eq.trans (List.map_congr_left (g:=id) fun k hk=>?_) (List.map_id _)
 show (0 + 1 * (k:Int)).toNat=k
 omega
theorem sE {f g:Nat→Option Nat}:∀l:List Nat,(∀k∈l,f k=g k)→l.filterMap f=l.filterMap g
 | [],_=>rfl
 | k :: r,h=>by
  rw [List.filterMap_cons,List.filterMap_cons,h k MN,sE r fun x hx=>h x (ME _ hx)]
theorem xF (u:List Nat) (c:Nat):(List.range u.length).filterMap (fun i=>(u ++ [c]).toArray[i]?)=u:=by
 apply List.ext_getElem?
 intro i
 have e:(List.range u.length).filterMap (fun i=>(u ++ [c]).toArray[i]?)=(List.range u.length).map fun i=>u.getD i 0:=by
  rw [← List.filterMap_eq_map]
  refine sE _ fun k hk=>?_
  have hk':=Na.mp hk
  simp [MJ hk',Mq hk']
 rw [e,Mu]
 rcases Nf i u.length with h | h
 ·rw [M5 h];simp [h]
 ·rw [MF (by simpa using h),MF h];rfl
theorem y4 (u:List Nat) (c:Nat):Txt.slice ⟨(u ++ [c]).toArray⟩ (some (-1)) none=d9 c:=by
 have hl:(⟨(u ++ [c]).toArray⟩:Str).length=u.length + 1:=by simp [Str.length]
 unfold Txt.slice
 rw [hl,DO]
 split
 ·rename_i h
  have:u=[]:=by
   simp only [beq_self_eq_true,Bool.true_and,List.length_singleton,beq_iff_eq] at h
   exact List.eq_nil_of_length_eq_zero (by omega)
  subst this;rfl
 ·simp [d9]
theorem yi (u:List Nat) (c:Nat):Txt.slice ⟨(u ++ [c]).toArray⟩ none (some (-1))=⟨u.toArray⟩:=by
 have hl:(⟨(u ++ [c]).toArray⟩:Str).length=u.length + 1:=by simp [Str.length]
 unfold Txt.slice
 rw [hl,Cf]
 split
 ·rename_i h
  simp at h
 ·simp only
  rw [xF]
theorem yv {r:List Nat} {x c:Nat} (h:kZ x c=none):gc (r ++ [x]) c=r ++ [x] ++ [c]:=by
 unfold gc;rw [Nh];simp only [h]
theorem iW {r w:List Nat} {x c:Nat} (h:kZ x c=some w):gc (r ++ [x]) c=r ++ w:=by
 unfold gc;rw [Nh];simp only [h,List.dropLast_concat]
def Ld (x:D) (Q:D→Prop):Prop:=∃z:Str,x=.str z∧LW z∧z.length≤100000∧∀u:List Nat,aW u→Eqv (aQ u) (aQ z.cps.toList)→u.length≤z.length→Q (.str ⟨u.toArray⟩)
def cR:Fw:=F1 Ld
def hU:bB:=(aE (aV 3 (Cj (ag 1) (ju (qS jD (cC (.int 1)))) fF)) (eR (ya (aJ (aB gN (ag 3) (cC (.str "")))) (aJ (aB lr (aB gN (ag 3) (cC (.str "s"))) (aB gN (ag 2) (cC (.str "s")))))) (aV 1 (aB bK (ag 1) (ag 2))) (eR (aJ (aB gN (ag 2) (cC (.str "s")))) (aV 1 (Cj (ag 1) fF (ju (qS jD (cC (.int 1)))))) (aV 1 (aB bK (Cj (ag 1) fF (ju (qS jD (cC (.int 1))))) (aB Kt (ny [.inr "rr",.inr "qq",.inr "rq",.inr "qr"] (af (cC (.str "q")) (af (cC (.str "r")) (af (cC (.str "")) (af (cC (.str "")) au))))) (aB bK (ag 3) (ag 2))))))))
def iy:bB:=(aE (aV 1 (cC (.str ""))) (aE (jV (ag 0) (aR 2) hU) (bb (ag 1))))
theorem o3:∀ds Q,cR ds Q→ds.length=1:=jZ
theorem rf:∀ds (Q:D→Prop),cR ds Q→iy { nx:=fun _=>Q .non,rt:=Q } (aF ["_law_word_here","_law_row","_law_letter","_law_last"] ds):=by
  rintro ds Q ⟨x,rfl,z,rfl,hz,hl,h⟩
  have hzc:=iL z
  simp_arith only [iy,cX]
  refine bD (fun i e=>∃(u:List Nat) (k2 k3:Option Lo),aW u∧Eqv (aQ u) (aQ (z.cps.toList.take i))∧u.length≤i∧e=[some (.d (.str z)),some (.d (.str ⟨u.toArray⟩)),k2,k3]) ?_ ?_ ⟨[],_,_,⟨trivial,fun c hc=>nomatch hc⟩,.refl _,Mx _,rfl⟩
  · rintro i x env N hx ⟨u,k2,k3,hu,ue,ul,rfl⟩ hN
    unfold dq at hx
    rw [Mu] at hx
    cases hc:z.cps.toList[i]? with
    | none=>rw [hc] at hx;cases hx
    | some c =>
      rw [hc] at hx
      cases hx
      have hi:=(Mo.mp hc).1
      have hcl:=hz c (MA hc)
      obtain⟨g1,g2,g3⟩:=l4 hu hcl
      have fin:∀k3,N [some (.d (.str z)),some (.d (.str ⟨(gc u c).toArray⟩)),some (.d (.str ⟨#[c]⟩)),k3]:=fun k3=>by
        refine hN _ ⟨gc u c,_,k3,g1,?_,by omega,rfl⟩
        refine g2.trans ?_
        rw [Nk,hc]
        simp only [Option.toList]
        rw [cL,cL]
        exact ue.mul (.refl _)
      have ul2:(⟨u.toArray⟩:Str).length=u.length:=by simp [Str.length]
      simp_arith only [hU,Cj,Lj]
      refine⟨by omega,?_⟩
      rcases Nn u with e | ⟨r,x,e⟩
      · subst e
        rw [show Txt.slice ⟨([]:List Nat).toArray⟩ (some (-1)) none=Str.ofString "" from rfl,Mw (by rfl)]
        exact⟨by rw [ul2,show (⟨#[c]⟩:Str).length=1 from rfl];simp,fin _⟩
      · rw [Nl] at e
        subst e
        rw [y4,yi]
        have hxl:isLet x:=hu.2 x (by simp)
        have sz:=PySem.sizeLine_eq
        have len2:(⟨(r ++ [x]).toArray⟩:Str).length=r.length + 1:=by simp [Str.length]
        have lenr:(⟨r.toArray⟩:Str).length=r.length:=by simp [Str.length]
        have ru:r.length + 1≤i:=by simpa using ul
        have neb:∀(a b:Bool) (P:D→Prop),lr (.bl a) (.bl b) P=P (.bl (!(a == b))):=fun a b P=>by
          unfold lr gA;simp only [dep,a6,MX,and_self,true_and]
        have add:∀(c':Nat) (v w:List Nat),(⟨v.toArray⟩ ++ ⟨w.toArray⟩:Str)=⟨(v ++ w).toArray⟩:=fun _ v w=>E9 (by rw [ei])
        have fin':∀(w:Str) (k3:Option Lo),w=⟨(gc (r ++ [x]) c).toArray⟩→N [some (.d (.str z)),some (.d (.str w)),some (.d (.str ⟨#[c]⟩)),k3]:=fun w k3 e=>e▸fin k3
        rcases hxl with rfl | rfl | rfl <;> rcases hcl with rfl | rfl | rfl
        all_goals rw [Ms (by decide),neb]
        all_goals refine⟨_,rfl,?_⟩
        all_goals first
          | (rw [Mw (by decide)]
             refine⟨by rw [len2,show ∀c:Nat,(⟨#[c]⟩:Str).length=1 from fun _=>rfl];omega,fin' _ _ ?_⟩
             rw [yv (by decide)]
             exact add 0 _ [_])
          | (rw [Ms (by decide),Mw (by rfl)]
             refine⟨by omega,fin' _ _ ?_⟩
             rw [iW (w:=[]) (by decide),MV])
          | (rw [Ms (by decide),Ms (by decide)]
             refine⟨by omega,by decide,_,_,rfl,rfl,?_⟩
             show bK _ (D.str _) _
             rw [eD]
             refine⟨by rw [lenr];refine M7 (Nat.add_le_add_left (show _≤1 by decide) _) (by omega),fin' _ _ ?_⟩
             first
               | (rw [iW (w:=[113]) (by decide)];exact add 0 r [113])
               | (rw [iW (w:=[114]) (by decide)];exact add 0 r [114])
               | (rw [iW (w:=[]) (by decide)];exact add 0 r []))
  · rintro env ⟨u,k2,k3,hu,ue,ul,rfl⟩
    simp_arith only [and_true]
    rw [Nb (by simp [dq])] at ue
    refine h u hu ue ?_
    simp [dq] at ul
    rw [iL];simpa using ul
end KR
namespace KR
open PySem L2 L2.L3 K55
def tM (k:Int):M4:=⟨1,k,0,1⟩
theorem B9 (j k:Int):(tM j).mul (tM k)=tM (j + k):=by apply wK <;> simp [M4.mul,tM] <;> omega
theorem gm (n:Nat) (w:List Nat):fU (n + 1) w=w ++ fU n w:=by unfold fU;rw [List.replicate_succ,List.flatten_cons]
theorem gp (w:List Nat):fU 0 w=[]:=rfl
theorem tN (n:Nat) (w:List Nat):(fU n w).length=n * w.length:=by unfold fU;simp
theorem tq (u v:List Nat):aQ (u ++ v)=(aQ u).mul (aQ v):=by
 induction u with
 | nil=>show aQ v=M4.one.mul (aQ v);rw [mE]
 | cons a s ih=>show (bC a).mul (aQ (s ++ v))=((bC a).mul (aQ s)).mul (aQ v);rw [ih,iM]
theorem Lc:Eqv (aQ [115,114]) (tM (-1)):=.inr (by decide)
theorem KL:Eqv (aQ [113,115]) (tM 1):=.inr (by decide)
theorem zP:∀n:Nat,Eqv (aQ (fU n [115,114])) (tM (-(n:Int)))
 | 0=>.inl (by rw [gp];rfl)
 | n + 1=>by
  rw [gm,tq]
  have:=Lc.mul (zP n)
  rw [B9] at this
  rw [show (-((n + 1:Nat):Int)) = -1 + -(n:Int) by omega]
  exact this
theorem Al:∀n:Nat,Eqv (aQ (fU n [113,115])) (tM (n:Int))
 | 0=>.inl (by rw [gp];rfl)
 | n + 1=>by
  rw [gm,tq]
  have:=KL.mul (Al n)
  rw [B9] at this
  rw [show (((n + 1:Nat):Int))=1 + (n:Int) by omega]
  exact this
def tw (k:Int):List Nat:=if 0 < k then fU k.toNat [113,115] else fU (-k).toNat [115,114]
theorem BD (k:Int):Eqv (aQ (tw k)) (tM k):=by
 unfold tw;split
 ·have:=Al k.toNat
  rwa [show ((k.toNat:Nat):Int)=k by omega] at this
 ·have:=zP (-k).toNat
  rwa [show (-(((-k).toNat:Nat):Int))=k by omega] at this
theorem G4 (k:Int):(tw k).length=2 * k.natAbs:=by
 unfold tw;split <;> rw [tN] <;> simp only [List.length_cons,List.length_nil] <;> omega
theorem rm {w:List Nat} (h:∀c∈w,isLet c) (n:Nat):∀c∈fU n w,isLet c:=fun c hc=>by
 unfold fU at hc
 obtain⟨l,hl,hc⟩:=List.mem_flatten.mp hc
 rw [List.eq_of_mem_replicate hl] at hc
 exact h c hc
theorem Dw (k:Int):∀c∈tw k,isLet c:=by
 unfold tw;split
 ·exact rm (fun c hc=>by unfold isLet;simp at hc;omega) _
 ·exact rm (fun c hc=>by unfold isLet;simp at hc;omega) _
theorem je {c:Nat} {r:List Nat} (hc:isLet c) (h:aW r) (hx:∀x s,r=x :: s→(c=115↔¬ x=115)):aW (c :: r):=by
 refine⟨?_,fun x hx'=>?_⟩
 ·cases r with
  | nil=>trivial
  | cons x s=>exact⟨hx x s rfl,h.1⟩
 ·rcases ML.mp hx' with rfl | hx'
  ·exact hc
  ·exact h.2 x hx'
theorem zI:isLet 115:=.inl rfl
theorem Gh:isLet 114:=.inr (.inl rfl)
theorem Gf:isLet 113:=.inr (.inr rfl)
theorem tS:aW []:=⟨trivial,fun c hc=>nomatch hc⟩
theorem wQ {w:List Nat} (h:aW w) (hw:∀x s,w=x :: s→x=115):∀n,aW (fU n [115,114] ++ w)∧∀x s,fU n [115,114] ++ w=x :: s→x=115
 | 0=>⟨by rw [gp];exact h,by rw [gp];exact hw⟩
 | n + 1=>by
  obtain⟨ih,ihx⟩:=wQ h hw n
  rw [gm]
  show aW (115 :: 114 :: (fU n [115,114] ++ w))∧∀x s,115 :: 114 :: (fU n [115,114] ++ w)=x :: s→x=115
  refine⟨je zI (je Gh ih fun x s e=>?_) fun x s e=>by cases e;decide,fun x s e=>by cases e;rfl⟩
  have:=ihx x s e
  subst this;decide
theorem xX {w:List Nat} (h:aW w) (hw:∀x s,w=x :: s→x≠115):∀n,aW (fU n [113,115] ++ w)∧∀x s,fU n [113,115] ++ w=x :: s→x≠115
 | 0=>⟨by rw [gp];exact h,by rw [gp];exact hw⟩
 | n + 1=>by
  obtain⟨ih,ihx⟩:=xX h hw n
  rw [gm]
  show aW (113 :: 115 :: (fU n [113,115] ++ w))∧∀x s,113 :: 115 :: (fU n [113,115] ++ w)=x :: s→x≠115
  refine⟨je Gf (je zI ih fun x s e=>?_) fun x s e=>by cases e;decide,fun x s e=>by cases e;decide⟩
  have:=ihx x s e
  exact⟨fun _=>this,fun _=>rfl⟩
def L9 (v:List Nat):Prop:=v=[]∨(∃u,v=113 :: u)∨∃u,v=115 :: 114 :: u
theorem CO (k:Int):L9 (tw k)∧aW (tw k):=by
 unfold tw;split
 ·obtain⟨n,hn⟩:∃n:Nat,k.toNat=n + 1:=⟨k.toNat - 1,by omega⟩
  have:=(xX tS (fun x s e=>nomatch e) k.toNat).1
  rw [MV] at this
  refine⟨?_,this⟩
  rw [hn,gm];exact .inr (.inl ⟨_,rfl⟩)
 ·have:=(wQ tS (fun x s e=>nomatch e) (-k).toNat).1
  rw [MV] at this
  refine⟨?_,this⟩
  cases e:(-k).toNat with
  | zero=>exact .inl rfl
  | succ n=>rw [gm];exact .inr (.inr ⟨_,rfl⟩)
theorem yy {A:Prop} {k:Int} {Q:D→Prop} (hA:A) (h1:-100000≤k) (h2:k≤100000) (hq:∀z:Str,z.cps.toList=tw k→z.length=2 * k.natAbs→Q (.str z)) :
  o9 (.str (Str.ofString "sr")) (.int (0 - k)) fun x=>A∧o9 (.str (Str.ofString "qs")) (.int k) fun y=>A∧bP (.lst [x,y]) (.int (if 0 < k then 1 else 0)) Q:=by
 refine Ai rfl (by omega) (by omega) fun z1 e1 l1=>⟨hA,Ai rfl (by omega) (by omega) fun z2 e2 l2=>⟨hA,?_⟩⟩
 by_cases h:0 < k
 ·rw [Mw h]
  refine⟨_,rfl,hq z2 ?_ ?_⟩
  ·rw [e2];unfold tw;rw [Mw h];rfl
  ·rw [l2];omega
 ·rw [Ms h]
  refine⟨_,rfl,hq z1 ?_ ?_⟩
  ·rw [e1];unfold tw;rw [Ms h,show (0 - k) = -k by omega];rfl
  ·rw [l1];omega
end KR
namespace KR
open PySem L2 L2.L3 K55
def Md (x:D) (Q:D→Prop):Prop:=∃k:Int,x=(tM k).toD∧k.natAbs≤1000000000∧((tw k).length≤2000→Q (.str ⟨(tw k).toArray⟩))∧(2000 < (tw k).length→Q .non)
def cP:Fw:=F1 Md
def jw:bB:=(aE (eR (aJ (aB Fd (aB bK (ag 6) (aB gF (cC (.int 2)) (aw pE (af (ag 2) au)))) (cC (.int 12000)))) (bb (cC .non)) a8) (aE (aV 5 (aw cR (af (aB bK (ag 5) (aB bP (gB (af (aB o9 (cC (.str "sr")) (aB fW (cC (.int 0)) (aB gF (ag 2) (ag 4)))) (af (aB o9 (cC (.str "qs")) (aB gF (ag 2) (ag 4))) au))) (aw qY (af (aB Fd (aB gF (ag 2) (ag 4)) (cC (.int 0))) au)))) au))) (aE (eR (aJ (aB Fd (aw gH (af (ag 5) au)) (cC (.int 2000)))) (bb (cC .non)) a8) (bb (ag 5)))))
def nr:bB:=(aE (aV 7 (aB zU (ag 1) (ag 3))) (aE (aV 6 (aB bK (aB bK (ag 6) (aB gF (cC (.int 2)) (aw pE (af (ag 7) au)))) (cC (.int 1)))) (aE (eR (aJ (aB Fd (ag 6) (cC (.int 12000)))) (bb (cC .non)) a8) (aE (aV 5 (aB bK (aB bK (ag 5) (aB bP (gB (af (aB o9 (cC (.str "sr")) (aB fW (cC (.int 0)) (ag 7))) (af (aB o9 (cC (.str "qs")) (ag 7)) au))) (aw qY (af (aB Fd (ag 7) (cC (.int 0))) au)))) (cC (.str "s")))) (kT (bQ (af (aB fW (cC (.int 0)) (ag 3)) (af (aB fW (cC (.int 0)) (ag 4)) (af (aB fW (ag 1) (aB gF (ag 7) (ag 3))) (af (aB fW (ag 2) (aB gF (ag 7) (ag 4))) au))))) (iw 4 (ba (aR 1) (ba (aR 2) (ba (aR 3) (ba (aR 4) h7))))))))))
def iB:bB:=(aE (kT (ag 0) (iw 4 (ba (aR 1) (ba (aR 2) (ba (aR 3) (ba (aR 4) h7)))))) (aE (aV 5 (cC (.str ""))) (aE (aV 6 (cC (.int 0))) (aE (gC (aJ (aB lr (ag 3) (cC (.int 0)))) nr) jw))))
theorem pv:∀ds Q,cP ds Q→ds.length=1:=jZ
theorem qj:∀ds (Q:D→Prop),cP ds Q→iB { nx:=fun _=>Q .non,rt:=Q } (aF ["_law_one","_law_a","_law_b","_law_c","_law_d","_law_word_here","_law_many","_law_step"] ds):=by
 rintro ds Q ⟨x,rfl,k,rfl,hk,hq,hr⟩
 have sz:=PySem.sizeLine_eq
 have tl:=G4 k
 simp_arith only [iB,M4.toD,tM,gC]
 refine⟨fun e=>e=[some (.d (tM k).toD),some (.d (.int 1)),some (.d (.int k)),some (.d (.int 0)),some (.d (.int 1)),some (.d (.str (Str.ofString ""))),some (.d (.int 0)),none],fun _=>0,rfl,?_⟩
 rintro env rfl
 simp_arith only [jw,Int.mul_one,Int.zero_add,not_true]
 refine⟨by (first | exact y1 _ (by decide) | exact x4 _ _ (by decide) | exact nz _ (by first | decide | omega) | exact ef (by decide) (by decide) | exact fO (by decide) (by decide) | omega | decide),?_⟩
 by_cases hl:6000 < k.natAbs
 ·rw [Mw (by omega)]
  exact hr (by omega)
 ·rw [Ms (by omega)]
  have mo:IntMulOk k 1:=ef (by omega) (by omega)
  refine⟨mo,yy mo (by omega) (by omega) fun z ez lz=>?_⟩
  rw [eD]
  have ew:(Str.ofString "" ++ z).cps.toList=tw k:=by rw [ei,ez];rfl
  have el:(Str.ofString "" ++ z).length=z.length:=by rw [iL,ew,iL,ez]
  simp only [cR,iJ]
  refine⟨by rw [show (Str.ofString "").length=0 from rfl];omega,_,rfl,fun c hc=>Dw k c (by rwa [ew] at hc),by omega,fun u hu ue ul=>?_⟩
  rw [ew] at ue
  have:u=tw k:=nB u _ hu (CO k).2 ue
  subst this
  have lu:(⟨(tw k).toArray⟩:Str).length=(tw k).length:=by simp [Str.length]
  show gH [D.str ⟨(tw k).toArray⟩] _
  rw [lT]
  refine⟨by omega,?_⟩
  rw [lu]
  simp_arith only [and_true]
  by_cases h2:2000 < (tw k).length
  ·rw [Mw (by omega)];exact hr h2
  ·rw [Ms (by omega)];exact hq (by omega)
end KR
namespace KR
open PySem L2 L2.L3 K55
theorem C6 {x:Str} {n:Int} {Q:D→Prop} (h1:x.length≤2) (h2:0≤n) (h3:n≤100000) (hq:∀z:Str,z.cps.toList=fU n.toNat x.cps.toList→z.length≤2 * n.toNat→Q (.str z)):o9 (.str x) (.int n) Q:=by
 have e:=wa n x
 have l:(uH n x).length=n.toNat * x.length:=by
  rw [iL,e,tN,← iL]
 have l2:n.toNat * x.length≤n.toNat * 2:=Nat.mul_le_mul_left _ h1
 exact⟨⟨by omega,by omega⟩,by rw [Nat.mul_comm];omega,by rw [l,PySem.sizeLine_eq];omega,hq _ e (by rw [l];omega)⟩
def LN (x y:D) (Q:D→Prop):Prop:=∃a b c d:List Nat,x=cI a b∧y=cI c d∧a.length≤500∧b.length≤500∧Q (.bl (decide (a=c∧b=d)))
def br:Fw:=F2 LN
def fj:bB:=(aE (eR (ya (mi (aJ (nP "tuple" (ag 0)))) (aJ (aB lr (aw gH (af (ag 0) au)) (cC (.int 2))))) (bb (cC (.bl false))) a8) (aE (jV (ag 0) (aR 2) (eR (ya (mi (aJ (nP "tuple" (ag 2)))) (mi (aJ (aw FJ (af (cY (hJ [] (ag 2) cJ (aw dX (af (ag 0) au)))) au))))) (bb (cC (.bl false))) a8)) (bb (aB gN (ag 0) (ag 1)))))
theorem lH:∀ds Q,br ds Q→ds.length=2:=iE
theorem mM:∀ds (Q:D→Prop),br ds Q→fj { nx:=fun _=>Q .non,rt:=Q } (aF ["_law_found","_law_due","_law_row"] ds):=by
 rintro ds Q ⟨x,y,rfl,a,b,c,d,rfl,rfl,la,lb,h⟩
 have sz:=PySem.sizeLine_eq
 simp_arith only [fj]
 refine zT (by simp [Pl,cI,Jd]) ⟨_,rfl,?_⟩
 rw [Ms (by simp [isTup,cI])]
 simp_arith only [cI]
 refine bD (fun i e=>∃k,e=[some (.d (cI a b)),some (.d (cI c d)),k]) ?_ ?_ ⟨_,rfl⟩
 ·rintro i x env N hx ⟨k,rfl⟩ hN
  have hx':∃l:List Nat,l.length≤500∧x=.tup (aM l):=by
   match i,hx with
   | 0,hx=>cases hx;exact⟨a,la,rfl⟩
   | 1,hx=>cases hx;exact⟨b,lb,rfl⟩
   | _ + 2,hx=>simp at hx
  obtain⟨l,ll,rfl⟩:=hx'
  simp_arith only [and_true]
  refine zT (by simp [Pl,Jd]) ⟨_,rfl,?_⟩
  rw [Ms (by simp [isTup])]
  refine iF (fun _=>.bl true) _ _ (fun x hx N2 hN2=>?_) (by simp [aM];omega) ?_
  ·obtain⟨j,_,rfl⟩:=M3.mp hx
   simp_arith only [cb,dX,iJ,yK]
   exact⟨by simp [Pl,Jd],hN2⟩
  ·have e:([] ++ List.map (fun x=>D.bl true) (aM l))=((aM l).map fun _=>true).map D.bl:=by simp
   rw [e]
   refine⟨_,Bi _,_,rfl,?_⟩
   rw [Ms (by simp)]
   exact hN _ ⟨_,rfl⟩
 ·rintro env ⟨k,rfl⟩
  simp_arith only [and_true]
  rw [zS]
  exact h
def JG (x y:D) (Q:D→Prop):Prop:=∃m:Nat,x=.obj dE∧y=.int (m:Int)∧m≤3000∧∀z:Str,LW z→z.length≤m→Q (.str z)
def fy:Fw:=F2 JG
def lV:bB:=(aE (aV 2 (cC (.str ""))) (aE (gd iZ (af (aB bK (cC (.int 1)) (aw az (af (ag 0) (af (cC (.int 8)) au)))) au) (aR 3) (aE (aV 4 (aB bK (cC (.int 1)) (aw az (af (ag 0) (af (aB bP (gB (af (cC (.int 3)) (af (cC (.int 3)) (af (cC (.int 12)) (af (cC (.int 400)) au))))) (aw az (af (ag 0) (af (cC (.int 4)) au)))) au))))) (aE (aV 5 (aB bK (ag 2) (aB o9 (aB bP (gB (af (cC (.str "sr")) (af (cC (.str "qs")) (af (cC (.str "qs")) (af (cC (.str "s")) au))))) (aw az (af (ag 0) (af (cC (.int 4)) au)))) (ag 4)))) (eR (n8 (aJ (aB LR (aw gH (af (ag 5) au)) (ag 1))) (aJ (aB yb (aw Aa (af (cY (hJ [] (aw bj (af (ag 5) au)) cJ (aw pE (af (ag 0) au)))) au)) (aB CN (cC (.int 10)) (cC (.int 12)))))) (aV 2 (ag 5)) a8)))) (bb (ag 2))))
theorem uW:∀ds Q,fy ds Q→ds.length=2:=iE
theorem wX:∀ds (Q:D→Prop),fy ds Q→lV { nx:=fun _=>Q .non,rt:=Q } (aF ["_law_rest","_law_most","_law_word_here","_law_turn","_law_many","_law_more"] ds):=by
 rintro ds Q ⟨x,y,rfl,m,rfl,rfl,hm,h⟩
 have sz:=PySem.sizeLine_eq
 simp_arith only [lV,az,cU]
 refine⟨8,rfl,rfl,by decide,by decide,fun d0 a0 b0=>?_⟩
 simp_arith only [and_true]
 refine⟨by omega,by omega,?_⟩
 refine bD (fun i e=>∃z k3 k4 k5,LW z∧z.length≤m∧e=[some (.d (.obj dE)),some (.d (.int (m:Int))),some (.d (.str z)),k3,k4,k5]) ?_ ?_ ⟨Str.ofString "",_,_,_,GP,by rw [show (Str.ofString "").length=0 from rfl];omega,rfl⟩
 ·rintro i x env N hx ⟨z,k3,k4,k5,hz,hzl,rfl⟩ hN
  simp_arith only [az,cU,bj,iJ]
  refine⟨4,rfl,rfl,by decide,by decide,fun d1 a1 b1=>?_⟩
  refine ze a1 (by simpa using b1) fun v hv=>?_
  obtain⟨B,rfl,hB1,hB2⟩:∃B:Int,v=.int B∧3≤B∧B≤400:=by
   simp only [ML,MT,or_false] at hv
   rcases hv with rfl | rfl | rfl | rfl <;> exact⟨_,rfl,by decide,by decide⟩
  refine⟨B,rfl,rfl,by omega,by omega,fun d2 a2 b2=>?_⟩
  simp_arith only [and_true]
  refine⟨4,rfl,rfl,by decide,by decide,fun d3 a3 b3=>?_⟩
  refine ze a3 (by simpa using b3) fun v hv=>?_
  obtain⟨y,rfl,hy1,hy2⟩:∃y:Str,v=.str y∧y.length≤2∧LW y:=by
   simp only [ML,MT,or_false] at hv
   rcases hv with rfl | rfl | rfl | rfl
   ·exact⟨_,rfl,by decide,fun c hc=>by have:c∈[115,114]:=hc;unfold isLet;simp at this;omega⟩
   ·exact⟨_,rfl,by decide,fun c hc=>by have:c∈[113,115]:=hc;unfold isLet;simp at this;omega⟩
   ·exact⟨_,rfl,by decide,fun c hc=>by have:c∈[113,115]:=hc;unfold isLet;simp at this;omega⟩
   ·exact⟨_,rfl,by decide,fun c hc=>by have:c∈[115]:=hc;unfold isLet;simp at this;omega⟩
  refine C6 hy1 (by omega) (by omega) fun z' ez lz=>?_
  simp_arith only [and_true]
  have el:(z ++ z').length=z.length + z'.length:=by rw [iL,ei,MS,← iL,← iL]
  have lw':LW (z ++ z'):=fun c hc=>by
   rw [ei] at hc
   rcases MP.mp hc with hc | hc
   ·exact hz c hc
   ·rw [ez] at hc;exact rm hy2 _ c hc
  refine⟨by omega,by omega,?_⟩
  by_cases c1:((z ++ z').length:Int)≤(m:Int)
  ·rw [Mw c1]
   refine⟨_,rfl,lw',by omega,_,rfl,?_⟩
   generalize jy (z ++ z').cps.toList=k
   refine iF (fun x=>match x with | .int i=>.int (i.natAbs:Int) | x=>x) _ _ (fun x hx N2 hN2=>?_) (by simp [M4.toD,sz]) ?_
   ·simp only [ML,MT,or_false] at hx
    rcases hx with rfl | rfl | rfl | rfl <;> simp_arith only [cb] <;> exact hN2
   ·refine⟨[(k.a.natAbs:Int),k.b.natAbs,k.c.natAbs,k.d.natAbs],rfl,by simp,fun M _ _=>?_⟩
    simp_arith only [and_true]
    refine⟨by (first | exact y1 _ (by decide) | exact x4 _ _ (by decide) | exact nz _ (by first | decide | omega) | exact ef (by decide) (by decide) | exact fO (by decide) (by decide) | omega | decide),?_⟩
    split
    ·exact hN _ ⟨z ++ z',_,_,_,lw',by omega,rfl⟩
    ·exact hN _ ⟨z,_,_,_,hz,hzl,rfl⟩
  ·rw [Ms c1]
   exact hN _ ⟨z,_,_,_,hz,hzl,rfl⟩
 ·rintro env ⟨z,k3,k4,k5,hz,hzl,rfl⟩
  simp_arith only [and_true]
  exact h z hz hzl
theorem Ct:∀cs:List Nat,(∀c∈cs,isLet c)→LW (Str.join (Str.ofString "s") (cs.map d9))∧(Str.join (Str.ofString "s") (cs.map d9)).length≤2 * cs.length
 | [],_=>⟨GP,by show (0:Nat)≤_;omega⟩
 | [c],h=>⟨fun x hx=>by have:x∈[c]:=hx;rw [MK.mp this];exact h c MN,by show (1:Nat)≤_;simp⟩
 | c :: y :: r,h=>by
  obtain⟨h1,h2⟩:=Ct (y :: r) fun x hx=>h x (ME _ hx)
  show LW (d9 c ++ Str.ofString "s" ++ Str.join (Str.ofString "s") ((y :: r).map d9))∧(d9 c ++ Str.ofString "s" ++ Str.join (Str.ofString "s") ((y :: r).map d9)).length≤_
  constructor
  ·intro x hx
   rw [ei,ei] at hx
   rcases MP.mp hx with hx | hx
   ·have:x∈[c,115]:=hx
    rcases ML.mp this with rfl | this
    ·exact h _ MN
    ·rw [MK.mp this];exact zI
   ·exact h1 x hx
  ·rw [iL,ei,MS,← iL,← iL]
   have:(d9 c ++ Str.ofString "s").length=2:=rfl
   simp only [List.length_cons] at h2 ⊢
   omega
theorem DI {ys:List D} (h:∀y∈ys,∃c:Nat,isLet c∧y=.str (d9 c)):∃cs:List Nat,ys=(cs.map d9).map D.str∧cs.length=ys.length∧∀c∈cs,isLet c:=by
 induction ys with
 | nil=>exact⟨[],rfl,rfl,fun c hc=>nomatch hc⟩
 | cons y r ih =>
  obtain⟨cs,e,l,hc⟩:=ih fun x hx=>h x (ME _ hx)
  obtain⟨c,h1,rfl⟩:=h y MN
  refine⟨c :: cs,by rw [e];rfl,by simp [l],fun x hx=>?_⟩
  rcases ML.mp hx with rfl | hx
  ·exact h1
  ·exact hc x hx
def IX (x:D) (Q:D→Prop):Prop:=x=.obj dE∧∀z:Str,LW z→z.length≤2000→Q (.str z)
def d8:Fw:=F1 IX
def kh:bB:=(aE (aV 1 (aB bK (cC (.int 1)) (aw az (af (ag 0) (af (cC (.int 3)) au))))) (aE (aV 2 (cY (gb iZ [0,1] (af (aB bK (cC (.int 940)) (aw az (af (ag 0) (af (cC (.int 41)) au)))) au) cJ (aB bP (cC (.str "rq")) (aB pg (aB bK (aB zU (ag 0) (ag 2)) (aw az (af (ag 1) (af (cC (.int 2)) au)))) (cC (.int 2))))))) (bb (aB bK (cC (.str "s")) (wY (cC (.str "s")) (af (ag 2) au))))))
theorem r8:∀ds Q,d8 ds Q→ds.length=1:=jZ
theorem vF:∀ds (Q:D→Prop),d8 ds Q→kh { nx:=fun _=>Q .non,rt:=Q } (aF ["_law_rest","_law_by","_law_letters"] ds):=by
 rintro ds Q ⟨x,rfl,rfl,h⟩
 have sz:=PySem.sizeLine_eq
 simp_arith only [kh,az,cU]
 refine⟨3,rfl,rfl,by decide,by decide,fun d0 a0 b0=>?_⟩
 simp_arith only [and_true]
 refine⟨41,rfl,rfl,by decide,by decide,fun d1 a1 b1=>?_⟩
 simp_arith only [and_true]
 refine⟨by omega,by omega,?_⟩
 refine kD (fun _ y=>∃c:Nat,isLet c∧y=.str (d9 c)) _ _ (fun x hx N2 hN2=>?_) (by simp [a9,sz];omega) fun ys hys hr=>?_
 ·obtain⟨j,_,rfl⟩:=M3.mp hx
  simp_arith only [cb,az,cU]
  refine⟨Dy (n:=64) (by unfold dg;omega) (by omega) (by decide),2,rfl,rfl,by decide,by decide,fun d2 a2 b2=>?_⟩
  simp_arith only [and_true]
  refine⟨by (first | exact y1 _ (by decide) | exact x4 _ _ (by decide) | exact nz _ (by first | decide | omega) | exact ef (by decide) (by decide) | exact fO (by decide) (by decide) | omega | decide),?_⟩
  have r2:=ja (a:=(0 + (j:Int)).fdiv (1 + d0) + d2) (b:=2) (by decide)
  generalize ((0 + (j:Int)).fdiv (1 + d0) + d2).fmod 2=q at *
  have hd:q=0∨q=1:=by omega
  rcases hd with rfl | rfl
  ·exact⟨by decide,114,rfl,hN2 _ ⟨114,Gh,rfl⟩⟩
  ·exact⟨by decide,113,rfl,hN2 _ ⟨113,Gf,rfl⟩⟩
 ·have lys:ys.length=(940 + d1).toNat:=by rw [hys];simp [a9]
  obtain⟨cs,e,lc,hc⟩:=DI (ys:=ys) fun y hy=>by
   obtain⟨i,hi,rfl⟩:=List.getElem_of_mem hy
   exact hr i _ _ (Mq (by rw [← hys];exact hi)) (Mq hi)
  obtain⟨j1,j2⟩:=Ct cs hc
  simp_arith only [wY]
  refine⟨_,rfl,cs.map d9,by rw [e],by decide,by rw [rD,MB];omega,?_⟩
  rw [show Txt.join (Str.ofString "s") (cs.map d9)=Str.join (Str.ofString "s") (cs.map d9) from StrLaws.glued_eq_join _ _]
  generalize Str.join (Str.ofString "s") (cs.map d9)=w at *
  show bK (D.str (Str.ofString "s")) (D.str w) Q
  rw [eD]
  have l1:(Str.ofString "s").length=1:=rfl
  refine⟨by omega,h _ (fun x hx=>?_) ?_⟩
  ·rw [ei] at hx
   rcases MP.mp hx with hx | hx
   ·have:x∈[115]:=hx
    rw [MK.mp this];exact zI
   ·exact j1 x hx
  ·rw [iL,ei,MS,← iL,← iL];omega
theorem Eo {z z':Str} {Q:D→Prop}:lr (.str z) (.str z') Q=Q (.bl (!(z == z'))):=by
 unfold lr gA;simp only [dep,a6,MX,and_self,true_and]
theorem Eu {a b:Bool} {Q:D→Prop}:lr (.bl a) (.bl b) Q=Q (.bl (!(a == b))):=by
 unfold lr gA;simp only [dep,a6,MX,and_self,true_and]
end KR
namespace KR
open PySem L2 L2.L3 K55
def DZ (t o:D) (Q:D→Prop):Prop:=∃(a b v:List Nat) (m:M4),t=cI a b∧o=m.toD∧l9 a b∧a.length≤500∧aW v∧Eqv m (aQ v)∧(v.length≤2000→Q (cI (fJ a b (lw a b v 0)) (gQ a b (lw a b v 0))))∧(2000 < v.length→Q (.str "TooLong"))
def cn:Fw:=F2 DZ
def lR:bB:=(DY 2 "TooLong" (jr gv (af (ag 0) (af (ag 1) au))) (bb (aw cQ (af (ag 2) au))))
theorem uO:∀ds Q,cn ds Q→ds.length=2:=iE
theorem xa:∀ds (Q:D→Prop),cn ds Q→lR { nx:=fun _=>Q .non,rt:=Q } (aF ["_law_table_here","_law_one","_law_e"] ds):=by
 rintro ds Q ⟨t,o,rfl,a,b,v,m,rfl,rfl,tab,la,hv,he,hq,hr⟩
 simp_arith only [lR,DY,gv,cQ,iJ,Cg]
 exact⟨a,b,v,m,rfl,rfl,tab,la,hv,he,hq,fun hl=>⟨rfl,rfl,hr hl⟩⟩
theorem xS {a b:List Nat} (t:l9 a b) (la:a.length≤500) {k:Nat} (hk:k < a.length):(fJ a b k).length≤500∧(gQ a b k).length≤500:=by
 obtain⟨t1,l1⟩:=t.anew la hk
 have:=t1.ok.len
 omega
theorem tJ {a b:List Nat} (t:l9 a b) (la:a.length≤500) {w:List Nat} (hw:∀c∈w,isLet c) (hl:w.length≤2000) {Q:D→Prop} (h:Q (cI (fJ a b (lw a b w 0)) (gQ a b (lw a b w 0)))):DZ (cI a b) (jy w).toD Q:=by
 obtain⟨v,v1,v2,v3⟩:=yV w hw
 refine⟨a,b,v,jy w,rfl,rfl,t,la,v1,(AE w).trans v2.symm,fun _=>?_,fun h'=>by omega⟩
 rw [EM t.ok v1.2 hw v2 t.pos]
 exact h
theorem FR:∀ds Q,Bj 63 ds Q→ds.length=1:=by rintro ds Q ⟨ns,rfl,_⟩;rfl
def nN:bB:=(aE (aV 9 (aB gF (aB bP (gB (af (aB bK (cC (.int 998)) (aw az (af (ag 2) (af (cC (.int 6)) au)))) (af (aB CN (cC (.int 10)) (cC (.int 9))) au))) (aw az (af (ag 2) (af (cC (.int 2)) au)))) (aB fW (cC (.int 1)) (aB gF (cC (.int 2)) (aw az (af (ag 2) (af (cC (.int 2)) au))))))) (aE (aV 10 (bQ (af (cC (.int 1)) (af (ag 9) (af (cC (.int 0)) (af (cC (.int 1)) au)))))) (aE (aV 11 (aw cP (af (ag 10) au))) (aE (aV 6 (aw cn (af (ag 3) (af (ag 10) au)))) (eR (aJ (aB (et false) (ag 11) (cC .non))) (eR (aJ (aB lr (ag 6) (cC (.str "TooLong")))) (bb (cC (.bl false))) a8) (eR (mi (aJ (aw br (af (ag 6) (af (aw bE (af (aB bP (ag 3) (cC (.int 0))) (af (aB bP (ag 3) (cC (.int 1))) (af (aw cG (af (ag 3) (af (cC (.int 0)) (af (ag 11) au)))) au)))) au))))) (bb (cC (.bl false))) a8))))))
def nF:bB:=(aE (eR (aJ (aB gN (aw az (af (ag 2) (af (cC (.int 4)) au))) (cC (.int 1)))) (aE (aV 4 (aw d8 (af (ag 2) au))) (eR (aJ (aB lr (aw cn (af (ag 3) (af (aw bj (af (ag 4) au)) au))) (aw bE (af (aB bP (ag 3) (cC (.int 0))) (af (aB bP (ag 3) (cC (.int 1))) (af (aw cG (af (ag 3) (af (cC (.int 0)) (af (ag 4) au)))) au)))))) (bb (cC (.bl false))) a8)) a8) nN)
def tO:bB:=(aE (gd iZ (af (cC (.int 4)) au) (aR 7) (aE (aV 8 (aw eU (af (ag 2) (af (cC (.int 30)) au)))) (eR (aJ (aB lr (aB gN (aw cG (af (ag 6) (af (cC (.int 0)) (af (ag 8) au)))) (cC (.int 0))) (aB gN (aw cG (af (ag 3) (af (ag 5) (af (ag 8) au)))) (ag 5)))) (bb (cC (.bl false))) a8))) nF)
def tZ:bB:=(aE (aV 4 (aw fy (af (ag 2) (af (cC (.int 1500)) au)))) (aE (aV 5 (aw cG (af (ag 3) (af (cC (.int 0)) (af (ag 4) au))))) (aE (aV 6 (aw cn (af (ag 3) (af (aw bj (af (ag 4) au)) au)))) (aE (eR (mi (aJ (aw br (af (ag 6) (af (aw bE (af (aB bP (ag 3) (cC (.int 0))) (af (aB bP (ag 3) (cC (.int 1))) (af (ag 5) au)))) au))))) (bb (cC (.bl false))) a8) tO))))
def DQ:bB:=(aE (gd iZ (af (aw Bv (af (cC (.int 1)) (af (aw DU (af (cC (.int 4)) (af (aw gH (af (ag 0) au)) au))) au))) au) (aR 1) (aE (qa 2 (aw gq (af (ag 0) (af (ag 1) au)))) (aE (aV 3 (aw dR (af (aw gn (af (ag 2) (af (cC (.int 7)) (af (cC (.int 16)) au)))) au))) tZ))) (bb (cC (.bl true))))
theorem Ht:∀ds (Q:D→Prop),Bj 63 ds Q→DQ { nx:=fun _=>Q .non,rt:=Q } (aF ["_law_script","_law_k","_law_rest","_law_table_here","_law_word_here","_law_place","_law_found","_law_turn","_law_more","_law_step","_law_far","_law_due"] ds):=by
 rintro ds Q ⟨ns,rfl,hl,h⟩
 have sz:=PySem.sizeLine_eq
 simp_arith only [DQ,MB]
 refine⟨by omega,by omega,?_⟩
 refine bD (fun _ e=>∃k1 k2 k3 k4 k5 k6 k7 k8 k9 k10 k11,e=[some (.d (.lst (ns.map D.int))),k1,k2,k3,k4,k5,k6,k7,k8,k9,k10,k11]) ?_ ?_ ⟨_,_,_,_,_,_,_,_,_,_,_,rfl⟩
 ·rintro i x env N hx ⟨k1,k2,k3,k4,k5,k6,k7,k8,k9,k10,k11,rfl⟩ hN
  have hi:=(Mo.mp hx).1
  have hxe:x=.int (0 + (i:Int)):=by
   unfold a9 at hx
   rw [Mu] at hx
   simp [a9] at hi
   rw [M5 (by omega)] at hx
   cases hx;rfl
  subst hxe
  have hi2:i < 4:=by simp [a9] at hi;omega
  simp_arith only [qa,gq,gn,dR,iJ,cU,lh,JR,Gw,Gj]
  refine⟨ns,_,rfl,rfl,by omega,by omega,fun r=>⟨7,16,rfl,rfl,by omega,by omega,by omega,by omega,fun fs ms hf _=>?_⟩⟩
  refine⟨fs,ms,rfl,hf,fun a b t sm la _=>?_⟩
  have s8:∀(Z:Ends3) (q4 q5 q6 q7 q8:Option Lo),Z.nx=N→nN Z [some (.d (.lst (ns.map D.int))),some (.d (.int (0 + (i:Int)))),some (.d (.obj dE)),some (.d (cI a b)),q4,q5,q6,q7,q8,k9,k10,k11]:=by
   intro Z q4 q5 q6 q7 q8 hZ
   simp_arith only [nN,az,cU,wc,vP,cP,cn,br,bE,iJ,lh,gh]
   refine⟨6,rfl,rfl,by decide,by decide,fun d0 a0 b0=>?_⟩
   simp_arith only [and_true]
   refine⟨by (first | exact y1 _ (by decide) | exact x4 _ _ (by decide) | exact nz _ (by first | decide | omega) | exact ef (by decide) (by decide) | exact fO (by decide) (by decide) | omega | decide),2,rfl,rfl,by decide,by decide,fun d1 a1 b1=>?_⟩
   have hN':∀e,(∃k1 k2 k3 k4 k5 k6 k7 k8 k9 k10 k11,e=[some (.d (.lst (ns.map D.int))),k1,k2,k3,k4,k5,k6,k7,k8,k9,k10,k11])→Z.nx e:=by rw [hZ];exact hN
   refine ze a1 (by simpa using b1) fun v hv=>?_
   obtain⟨B,rfl,hB1,hB2⟩:∃B:Int,v=.int B∧900≤B∧B≤1000000000:=by
    simp only [ML,MT,or_false] at hv
    rcases hv with rfl | rfl
    ·exact⟨_,rfl,by omega,by omega⟩
    ·exact⟨_,rfl,by decide,by decide⟩
   refine⟨2,rfl,rfl,by decide,by decide,fun d2 a2 b2=>?_⟩
   simp_arith only [and_true]
   have hd2:d2=0∨d2=1:=by omega
   refine⟨by (first | exact y1 _ (by decide) | exact x4 _ _ (by decide) | exact nz _ (by first | decide | omega) | exact ef (by decide) (by decide) | exact fO (by decide) (by decide) | omega | decide),ef (by omega) (by omega),?_⟩
   have hst:(B * (1 - 2 * d2)).natAbs≤1000000000:=by rcases hd2 with rfl | rfl <;> omega
   generalize B * (1 - 2 * d2)=st at *
   refine⟨st,rfl,by omega,fun hl=>?_,fun hl=>?_⟩
   ·refine⟨a,b,tw st,tM st,rfl,rfl,t,la,(CO st).2,(BD st).symm,fun _=>?_,fun h'=>by omega⟩
    show et _ _ _ _
    refine⟨rfl,false,rfl,?_⟩
    rw [Ms (by decide)]
    have vz:(⟨(tw st).toArray⟩:Str).cps.toList=tw st:=by simp
    refine⟨a,b,⟨(tw st).toArray⟩,0,rfl,rfl,rfl,t.ok,t.pos,fun c hc=>Dw st c (by rwa [vz] at hc),by rw [iL,vz];omega,?_⟩
    rw [vz]
    refine qd t la (j8 t.ok t.pos _) ?_
    obtain⟨l1,l2⟩:=xS t la (j8 t.ok t.pos (tw st))
    refine⟨_,_,_,_,rfl,rfl,l1,l2,_,rfl,?_⟩
    rw [Ms (by simp)]
    exact hN' _ ⟨_,_,_,_,_,_,_,_,_,_,_,rfl⟩
   ·refine⟨a,b,tw st,tM st,rfl,rfl,t,la,(CO st).2,(BD st).symm,fun h'=>by omega,fun _=>?_⟩
    show et _ _ _ _
    refine⟨rfl,true,rfl,?_⟩
    rw [Mw rfl,Eo]
    refine⟨_,rfl,?_⟩
    rw [Ms (by simp)]
    exact hN' _ ⟨_,_,_,_,_,_,_,_,_,_,_,rfl⟩
  have s7:∀(Z:Ends3) (q4 q5 q6 q7 q8:Option Lo),Z.nx=N→nF Z [some (.d (.lst (ns.map D.int))),some (.d (.int (0 + (i:Int)))),some (.d (.obj dE)),some (.d (cI a b)),q4,q5,q6,q7,q8,k9,k10,k11]:=by
   intro Z q4 q5 q6 q7 q8 hZ
   simp_arith only [nF,az,d8,cU,iJ,lh]
   refine⟨4,rfl,rfl,by decide,by decide,fun d0 a0 b0=>?_⟩
   simp_arith only [and_true]
   split
   ·refine⟨rfl,fun z hz hl=>?_⟩
    simp_arith only [cn,bj,bE,iJ,cU,lh,gh,wc,vP]
    refine⟨z,rfl,hz,by omega,tJ t la hz (by rw [← iL];exact hl) ?_⟩
    refine⟨a,b,z,0,rfl,rfl,rfl,t.ok,t.pos,hz,by omega,qd t la (j8 t.ok t.pos _) ?_⟩
    show lr (cI _ _) (cI _ _) _
    rw [Fm]
    refine⟨_,rfl,?_⟩
    rw [Ms (by simp)]
    exact s8 Z _ _ _ _ _ hZ
   ·exact s8 Z _ _ _ _ _ hZ
  simp_arith only [tZ,fy,bj,cn,br,bE,iJ,cU,lh,gh,wc,vP]
  refine⟨1500,rfl,rfl,by decide,fun z hz hzl=>⟨a,b,z,0,rfl,rfl,rfl,t.ok,t.pos,hz,by omega,z,rfl,hz,by omega,tJ t la hz (by rw [← iL];omega) (qd t la (j8 t.ok t.pos _) ?_)⟩⟩
  have hp:=j8 t.ok t.pos z.cps.toList
  obtain⟨l1,l2⟩:=xS t la hp
  refine⟨_,_,_,_,rfl,rfl,l1,l2,_,rfl,?_⟩
  rw [Ms (by simp)]
  generalize lw a b z.cps.toList 0=p at *
  obtain⟨iso,iz,il⟩:=Bo t la hp
  obtain⟨t1,_⟩:=t.anew la hp
  generalize hph:(fun i=>(fX (b8 a) (b8 b) p a.length).getD i 0)=φ at *
  have z':φ 0=p:=by rw [← hph];exact iz
  simp_arith only [tO]
  refine bD (fun _ e=>∃q7 q8,e=[some (.d (.lst (ns.map D.int))),some (.d (.int (0 + (i:Int)))),some (.d (.obj dE)),some (.d (cI a b)),some (.d (.str z)),some (.d (.int (p:Int))),some (.d (cI (fJ a b p) (gQ a b p))),q7,q8,k9,k10,k11]) ?_ ?_ ⟨_,_,rfl⟩
  ·rintro j x env N2 _ ⟨q7,q8,rfl⟩ hN2
   simp_arith only [eU,gh,cU]
   refine⟨30,rfl,rfl,by decide,fun z2 hz2 hl2=>⟨_,_,z2,0,rfl,rfl,rfl,t1.ok,t1.pos,hz2,by omega,?_⟩⟩
   simp_arith only [and_true]
   refine⟨a,b,z2,p,rfl,rfl,rfl,t.ok,hp,hz2,by omega,?_⟩
   have e:=iso.lw t1 t1.pos z2.cps.toList
   rw [z'] at e
   have q1:=j8 t1.ok t1.pos z2.cps.toList
   have key:lw (fJ a b p) (gQ a b p) z2.cps.toList 0=0↔lw a b z2.cps.toList p=p:=by
    rw [← e]
    constructor
    ·intro w;rw [w];exact z'
    ·intro w;exact iso.inj _ _ q1 t1.pos (w.trans z'.symm)
   simp_arith only [and_true]
   rw [Eu]
   refine⟨_,rfl,?_⟩
   have key2:decide (((lw (fJ a b p) (gQ a b p) z2.cps.toList 0:Nat):Int)=0)=decide (((lw a b z2.cps.toList p:Nat):Int)=(p:Int)):=by
    rw [decide_eq_decide];omega
   rw [key2,Ms (by simp)]
   exact hN2 _ ⟨_,_,rfl⟩
  ·rintro env ⟨q7,q8,rfl⟩
   exact s7 _ _ _ _ _ _ rfl
 ·rintro env ⟨k1,k2,k3,k4,k5,k6,k7,k8,k9,k10,k11,rfl⟩
  simp_arith only [and_true]
  exact h
end KR
namespace KR
open PySem L2 L2.L3
open K55
def top (i:Nat):Stmt:=PySem.Challenge.pw_fanglue_k44_turned.main.body.getD i (.Pass ⟨0,0,0,0⟩)
structure HX where
 c_Open:Addr
 c_NoTurning:Addr
 c_NotIn:Addr
 c_NoText:Addr
 c_NoFan:Addr
 c_Full:Addr
 c_TooMany:Addr
 c_TooLong:Addr
 c_NoTable:Addr
 c_FanError:Addr
 t_MOST_LETTERS:Tok
structure Tc (K:PySem.W.Frag) (w:World) (n:HX):Prop where
 g_MOST_LETTERS:PySem.W.nsIn K mainGlobals "MOST_LETTERS" = some (some (.int 2000 n.t_MOST_LETTERS))
 n_Open:PySem.W.nsIn K mainGlobals "Open" = some (some (.ref n.c_Open))
 n_NoTurning:PySem.W.nsIn K mainGlobals "NoTurning" = some (some (.ref n.c_NoTurning))
 n_NotIn:PySem.W.nsIn K mainGlobals "NotIn" = some (some (.ref n.c_NotIn))
 n_NoText:PySem.W.nsIn K mainGlobals "NoText" = some (some (.ref n.c_NoText))
 n_NoFan:PySem.W.nsIn K mainGlobals "NoFan" = some (some (.ref n.c_NoFan))
 n_Full:PySem.W.nsIn K mainGlobals "Full" = some (some (.ref n.c_Full))
 n_TooMany:PySem.W.nsIn K mainGlobals "TooMany" = some (some (.ref n.c_TooMany))
 n_TooLong:PySem.W.nsIn K mainGlobals "TooLong" = some (some (.ref n.c_TooLong))
 n_NoTable:PySem.W.nsIn K mainGlobals "NoTable" = some (some (.ref n.c_NoTable))
 n_FanError:PySem.W.nsIn K mainGlobals "FanError" = some (some (.ref n.c_FanError))
 e_TooLong:PySem.W.excIn K n.c_TooLong [.type "ValueError",.type "Exception",.type "BaseException",.type "object"] "ValueError.__new__" = true
 o1_TooLong:PySem.W.findIn K (.ref n.c_TooLong) "__getattribute__" = some (some (.builtin "BaseException.__getattribute__"))
 o2_TooLong:PySem.W.findIn K (.ref n.c_TooLong) "__getattr__" = some none
 o3_TooLong:PySem.W.hasDictIn K n.c_TooLong=true
 o4_TooLong:PySem.W.findIn K (.ref n.c_TooLong) "__class__" = some (some (.builtin "object.__class__"))
 o5_TooLong:PySem.W.specialIn K (.builtin "object.__class__") "__get__" = some (some (.builtin "getset_descriptor.__get__"))
 o6_TooLong:PySem.W.takesIn K (.builtin "object.__class__")=some true
 o7_TooLong:PySem.W.mroIn K n.c_TooLong (.type "object")=some true
 o8_TooLong:PySem.W.subIn K (.ref n.c_TooLong) (.type "BaseException")=some true
 u1_TooLong_FanError:PySem.W.typeIn K (.ref n.c_FanError)=some (.type "type")
 u2_TooLong_FanError:PySem.W.hasDictIn K n.c_FanError=true
 u3_TooLong_FanError:PySem.W.subIn K (.ref n.c_FanError) (.type "BaseException")=some true
 u4_TooLong_FanError:PySem.W.subIn K (.ref n.c_TooLong) (.ref n.c_FanError)=some true
 kt0:PySem.W.kitAny K (.ref n.c_TooLong) [.ref n.c_Full,.ref n.c_NoFan,.ref n.c_NoText,.ref n.c_NotIn,.ref n.c_NoTurning,.ref n.c_Open]=some false
 kt1:PySem.W.kitOne K (.ref n.c_TooLong) (.type "ValueError")=some true
 kt2:PySem.W.kitOne K (.ref n.c_TooLong) (.ref n.c_TooMany)=some false
 kt3:PySem.W.kitOne K (.ref n.c_TooLong) (.ref n.c_TooLong)=some true
 kt4:PySem.W.kitOne K (.ref n.c_TooLong) (.ref n.c_NoTable)=some false
theorem Tc.lM {K:PySem.W.Frag} {w:World} {n:HX} (TC:Tc K w n):C3 K n.c_TooLong n.c_FanError:=⟨TC.u1_TooLong_FanError,TC.u2_TooLong_FanError,TC.u3_TooLong_FanError,TC.u4_TooLong_FanError⟩
theorem Tc.iH {K:PySem.W.Frag} {w:World} {n:HX} (TC:Tc K w n):xb K n.c_TooLong:=⟨TC.o1_TooLong,TC.o2_TooLong,TC.o3_TooLong,TC.o4_TooLong,TC.o5_TooLong,TC.o6_TooLong,TC.o7_TooLong,TC.o8_TooLong⟩
abbrev c5:Stmt:=top 13
abbrev eF:Stmt:=top 14
abbrev kS:Stmt:=top 15
abbrev fD:Stmt:=top 16
abbrev kN:Stmt:=top 17
abbrev jc:Stmt:=top 19
abbrev cO:Stmt:=top 20
abbrev gP:Stmt:=top 21
abbrev iR:Stmt:=top 22
abbrev eh:Stmt:=top 23
abbrev fB:Stmt:=top 24
abbrev jj:Stmt:=top 25
abbrev mY:Stmt:=top 27
abbrev fz:Stmt:=top 29
abbrev kA:Stmt:=top 30
abbrev g9:Stmt:=top 31
abbrev dM:Stmt:=top 32
abbrev fR:Stmt:=top 33
abbrev kB:Stmt:=top 34
abbrev gZ:Stmt:=top 35
abbrev gw:Stmt:=top 36
abbrev gU:Stmt:=top 37
abbrev e7:Stmt:=top 38
abbrev g8:Stmt:=top 39
abbrev hV:Stmt:=top 40
abbrev cH:Stmt:=top 41
abbrev fQ:Stmt:=top 42
abbrev fE:Stmt:=top 43
abbrev kI:Stmt:=top 44
abbrev fG:Stmt:=top 45
abbrev fI:Stmt:=top 46
abbrev fA:Stmt:=top 47
abbrev gJ:Stmt:=top 48
abbrev ji:Stmt:=top 49
abbrev fK:Stmt:=top 50
abbrev jk:Stmt:=top 51
abbrev DE:Stmt:=top 52
structure Txt (mg:Str→Option Value):Prop where
 ValueError:mg "ValueError" = none
 abs:mg "abs" = none
 all:mg "all" = none
 bool:mg "bool" = none
 enumerate:mg "enumerate" = none
 int:mg "int" = none
 isinstance:mg "isinstance" = none
 len:mg "len" = none
 list:mg "list" = none
 max:mg "max" = none
 min:mg "min" = none
 range:mg "range" = none
 tuple:mg "tuple" = none
theorem gW:aH ["p","q"] ["p","q"] (ak c5):=⟨rfl,rfl,rfl,by decide +kernel,rfl,by decide +kernel,by decide +kernel⟩
theorem jB:aH ["one","a","b","c","d","upper","lower"] ["one"] (ak eF):=⟨rfl,rfl,rfl,by decide +kernel,rfl,by decide +kernel,by decide +kernel⟩
theorem qH:aH ["letter","one","a","b","c","d"] ["letter","one"] (ak kS):=⟨rfl,rfl,rfl,by decide +kernel,rfl,by decide +kernel,by decide +kernel⟩
theorem j5:aH ["one","most","letters","left"] ["one","most"] (ak fD):=⟨rfl,rfl,rfl,by decide +kernel,rfl,by decide +kernel,by decide +kernel⟩
theorem qJ:aH ["one"] ["one"] (ak kN):=⟨rfl,rfl,rfl,by decide +kernel,rfl,by decide +kernel,by decide +kernel⟩
theorem oA:aH ["halves","thirds","first","met","known","at","here","behind"] ["halves","thirds","first"] (ak jc):=⟨rfl,rfl,rfl,by decide +kernel,rfl,by decide +kernel,by decide +kernel⟩
theorem lD:aH ["halves","thirds","met","numbers"] ["halves","thirds","met"] (ak cO):=⟨rfl,rfl,rfl,by decide +kernel,rfl,by decide +kernel,by decide +kernel⟩
theorem mS:aH ["halves","thirds","place"] ["halves","thirds"] (ak gP):=⟨rfl,rfl,rfl,by decide +kernel,rfl,by decide +kernel,by decide +kernel⟩
theorem oI:aH ["halves","thirds","first","met"] ["halves","thirds","first"] (ak iR):=⟨rfl,rfl,rfl,by decide +kernel,rfl,by decide +kernel,by decide +kernel⟩
theorem jz:aH ["table","place","letter","halves","thirds","behind"] ["table","place","letter"] (ak eh):=⟨rfl,rfl,rfl,by decide +kernel,rfl,by decide +kernel,by decide +kernel⟩
theorem jT:aH ["table","word","first","place","letter"] ["table","word","first"] (ak fB):=⟨rfl,rfl,rfl,by decide +kernel,rfl,by decide +kernel,by decide +kernel⟩
theorem oM:aH ["table","one"] ["table","one"] (ak jj):=⟨rfl,rfl,rfl,by decide +kernel,rfl,by decide +kernel,by decide +kernel⟩
theorem sM:aH ["table","one"] ["table","one"] (ak mY):=⟨rfl,rfl,rfl,by decide +kernel,rfl,by decide +kernel,by decide +kernel⟩
theorem jM:aH ["_law_script","_law_k"] ["_law_script","_law_k"] (ak fz):=⟨rfl,rfl,rfl,by decide +kernel,rfl,by decide +kernel,by decide +kernel⟩
theorem qp:aH ["_law_script","_law_at","_law_by","_law_prime","_law_cell","_law_big_here","_law_k","_law_one"] ["_law_script","_law_at"] (ak kA):=⟨rfl,rfl,rfl,by decide +kernel,rfl,by decide +kernel,by decide +kernel⟩
theorem my:aH ["_law_rest","_law_many","_law_digit_here"] ["_law_rest","_law_many"] (ak g9):=⟨rfl,rfl,rfl,by decide +kernel,rfl,by decide +kernel,by decide +kernel⟩
theorem iO:aH ["_law_rest","_law_many","_law_row","_law_k","_law_at"] ["_law_rest","_law_many"] (ak dM):=⟨rfl,rfl,rfl,by decide +kernel,rfl,by decide +kernel,by decide +kernel⟩
theorem mJ:aH ["_law_rest","_law_many","_law_marks_here","_law_left","_law_gap","_law_way","_law_other"] ["_law_rest","_law_many"] (ak fR):=⟨rfl,rfl,rfl,by decide +kernel,rfl,by decide +kernel,by decide +kernel⟩
theorem rE:aH ["_law_rest","_law_most","_law_great_here","_law_many"] ["_law_rest","_law_most","_law_great_here"] (ak kB):=⟨rfl,rfl,rfl,by decide +kernel,rfl,by decide +kernel,by decide +kernel⟩
theorem m6:aH ["_law_fractions_here","_law_row","_law_tiles_here","_law_i","_law_near","_law_far"] ["_law_fractions_here"] (ak gZ):=⟨rfl,rfl,rfl,by decide +kernel,rfl,by decide +kernel,by decide +kernel⟩
theorem oQ:aH ["_law_fractions_here"] ["_law_fractions_here"] (ak gw):=⟨rfl,rfl,rfl,by decide +kernel,rfl,by decide +kernel,by decide +kernel⟩
theorem m5:aH ["_law_fan_here","_law_fractions_here","_law_marks_here","_law_gaps_here","_law_thirds","_law_one","_law_mid","_law_other","_law_halves","_law_i","_law_mark","_law_first"] ["_law_fan_here"] (ak gU):=⟨rfl,rfl,rfl,by decide +kernel,rfl,by decide +kernel,by decide +kernel⟩
theorem oU:aH ["_law_halves","_law_thirds","_law_first","_law_met","_law_at","_law_behind"] ["_law_halves","_law_thirds","_law_first"] (ak e7):=⟨rfl,rfl,rfl,by decide +kernel,rfl,by decide +kernel,by decide +kernel⟩
theorem mK:aH ["_law_fan_here","_law_halves","_law_thirds","_law_first"] ["_law_fan_here"] (ak g8):=⟨rfl,rfl,rfl,by decide +kernel,rfl,by decide +kernel,by decide +kernel⟩
theorem mG:aH ["_law_thing"] ["_law_thing"] (ak hV):=⟨rfl,rfl,rfl,by decide +kernel,rfl,by decide +kernel,by decide +kernel⟩
theorem gR:aH ["_law_found","_law_due","_law_row"] ["_law_found","_law_due"] (ak cH):=⟨rfl,rfl,rfl,by decide +kernel,rfl,by decide +kernel,by decide +kernel⟩
theorem ma:aH ["_law_one","_law_other","_law_a","_law_b","_law_c","_law_d","_law_e","_law_f","_law_g","_law_h","_law_found"] ["_law_one","_law_other"] (ak fQ):=⟨rfl,rfl,rfl,by decide +kernel,rfl,by decide +kernel,by decide +kernel⟩
theorem jR:aH ["_law_word_here","_law_found","_law_letter"] ["_law_word_here"] (ak fE):=⟨rfl,rfl,rfl,by decide +kernel,rfl,by decide +kernel,by decide +kernel⟩
theorem ra:aH ["_law_table_here","_law_place","_law_word_here","_law_letter"] ["_law_table_here","_law_place","_law_word_here"] (ak kI):=⟨rfl,rfl,rfl,by decide +kernel,rfl,by decide +kernel,by decide +kernel⟩
theorem jG:aH ["_law_word_here","_law_row","_law_letter","_law_last"] ["_law_word_here"] (ak fG):=⟨rfl,rfl,rfl,by decide +kernel,rfl,by decide +kernel,by decide +kernel⟩
theorem j4:aH ["_law_one","_law_a","_law_b","_law_c","_law_d","_law_word_here","_law_many","_law_step"] ["_law_one"] (ak fI):=⟨rfl,rfl,rfl,by decide +kernel,rfl,by decide +kernel,by decide +kernel⟩
theorem kr:aH ["_law_e","_law_kinds"] ["_law_e"] (ak fA):=⟨rfl,rfl,rfl,by decide +kernel,rfl,by decide +kernel,by decide +kernel⟩
theorem oW:aH ["_law_rest","_law_most","_law_word_here","_law_turn","_law_many","_law_more"] ["_law_rest","_law_most"] (ak gJ):=⟨rfl,rfl,rfl,by decide +kernel,rfl,by decide +kernel,by decide +kernel⟩
theorem oy:aH ["_law_rest","_law_most","_law_word_here","_law_first","_law_k"] ["_law_rest","_law_most"] (ak ji):=⟨rfl,rfl,rfl,by decide +kernel,rfl,by decide +kernel,by decide +kernel⟩
theorem mQ:aH ["_law_rest","_law_by","_law_letters"] ["_law_rest"] (ak fK):=⟨rfl,rfl,rfl,by decide +kernel,rfl,by decide +kernel,by decide +kernel⟩
theorem oG:aH ["_law_table_here","_law_one","_law_e"] ["_law_table_here","_law_one"] (ak jk):=⟨rfl,rfl,rfl,by decide +kernel,rfl,by decide +kernel,by decide +kernel⟩
theorem C4:aH ["_law_script","_law_k","_law_rest","_law_table_here","_law_word_here","_law_place","_law_found","_law_turn","_law_more","_law_step","_law_far","_law_due"] ["_law_script"] (ak DE):=⟨rfl,rfl,rfl,by decide +kernel,rfl,by decide +kernel,by decide +kernel⟩
section
variable {P:Program} {w:World} {K:PySem.W.Frag} {mg:Str→Option Value} {base:Heap}
theorem nq (F:Df K mg "differ_in_sign" c5 ["p","q"]):Known P w K mg base 1 "differ_in_sign" bF :=
 have nd:=gW.nd;F.known gW lN fun fa cdv A outer s H E hr=>⟨eY,(ao (aN (JQ (CC (qv 0) av (qv 1)) (BX (CC (qv 1) av (qv 0)))))),mT⟩
theorem pB (F:Df K mg "first_letter" eF ["one"]) (T:Txt mg) (k_differ_in_sign:Known P w K mg base 1 "differ_in_sign" bF):Known P w K mg base 2 "first_letter" bW :=
 have nd:=jB.nd;F.known jB nE fun fa cdv A outer s H E hr=>⟨gy,(ah (iT (qv 0) (fc rfl (aL (aD 1 nd) (aL (aD 2 nd) (aL (aD 3 nd) (aL (aD 4 nd) c4)))))) (ah (aI 5 nd (bq (oN T.abs (ae (qv 1) aj)) (oN T.abs (ae (qv 2) aj)))) (ah (aI 6 nd (bq (oN T.abs (ae (qv 3) aj)) (oN T.abs (ae (qv 4) aj)))) (ah (bc (QW.t (md (iq hr.units (qv 5) (qv 6)) (md (ig (aK k_differ_in_sign (hr.mono (by decide)) (ae (qv 1) (ae (qv 3) aj)))) (j7 (ig (aK k_differ_in_sign (hr.mono (by decide)) (ae (qv 2) (ae (qv 4) aj)))))))) (ao (aN bL)) aS) (ao (aN (Ko (w8 (qv 5) (qv 6)) bL bL))))))),pD⟩
theorem yT (F:Df K mg "without" kS ["letter","one"]):Known P w K mg base 1 "without" eZ :=
 have nd:=qH.nd;F.known qH v7 fun fa cdv A outer s H E hr=>⟨nM,(ah (iT (qv 1) (fc rfl (aL (aD 2 nd) (aL (aD 3 nd) (aL (aD 4 nd) (aL (aD 5 nd) c4)))))) (ah (bc (iq hr.units (qv 0) bL) (ao (aN (aY (ae (gS (qv 4)) (ae (gS (qv 5)) (ae (qv 2) (ae (qv 3) aj))))))) aS) (ah (bc (iq hr.units (qv 0) bL) (ao (aN (aY (ae (dH (qv 2) (qv 4)) (ae (dH (qv 3) (qv 5)) (ae (qv 2) (ae (qv 3) aj))))))) aS) (ao (aN (aY (ae (gS (qv 4)) (ae (gS (qv 5)) (ae (dH (qv 2) (qv 4)) (ae (dH (qv 3) (qv 5)) aj)))))))))),zm⟩
theorem o8 (F:Df K mg "word_within" fD ["one","most"]) (T:Txt mg) {n:HX} (TC:Tc K w n) (k_first_letter:Known P w K mg base 2 "first_letter" bW) (k_without:Known P w K mg base 1 "without" eZ):fv P w K mg base 3 "word_within" cE :=
 have nd:=j5.nd;F.zf j5 og fun fa cdv A outer s H E hr=>⟨gD,(ku (sJ (vQ (fb 2 nd (p6 aj)))) (ku (sJ (vQ (aI 3 nd (qv 0)))) (ku (Dm (QW.t (md (pG hr.units (bg (qv 3) av (fun _ _=>rfl)) av) (j7 (pG hr.units (bg (qv 3) av (fun _ _=>rfl)) av)))) (ku (sJ (Ka (iq hr.units (fP 2 T.len) (qv 1)) (pP (AK TC.n_TooLong TC.e_TooLong (ae bL aj))) (Hj aS))) (ku (sJ (vQ (kP 2 (aK k_first_letter (hr.mono (by decide)) (ae (qv 3) aj))))) (zX (sJ (vQ (aI 3 nd (aK k_without (hr.mono (by decide)) (ae (dJ 2 (gS av) (fun _ _=>rfl)) (ae (qv 3) aj)))))))))) (zX (sJ (vQ (gu 2 (aN (BF bL (ae (qv 2) aj)))))))))),pf⟩
theorem x3 (F:Df K mg "word_of" kN ["one"]) {n:HX} (TC:Tc K w n) (kx_word_within:fv P w K mg base 3 "word_within" cE):fv P w K mg base 4 "word_of" eV :=
 have nd:=qJ.nd;F.rF qJ vc fun fa cdv A outer s H E hr=>⟨lF,(pP (IM (pO kx_word_within (hr.mono (by decide)) (ae (qv 0) (ae (Mh TC.g_MOST_LETTERS) aj))))),xn⟩
theorem wj (F:Df K mg "met_from" jc ["halves","thirds","first"]) (T:Txt mg):Known P w K mg base 1 "met_from" fg :=
 have nd:=oA.nd;F.known oA uS fun fa cdv A outer s H E hr=>⟨l7,(ah (fb 3 nd (p6 (ae (qv 2) aj))) (ah (Bm 4 nd (qv 2) zc zc) (ah (aI 5 nd av) (ah (jW PassesOwn.never (w8 (qv 5) (fP 3 T.len)) (ah (aI 6 nd (dJ 3 (qv 5) (fun _ _=>rfl))) (ah (jo PassesOwn.never rfl (aY (ae (bg (qv 0) (qv 6) (fun _ _=>rfl)) (ae (bg (qv 1) (qv 6) (fun _ _=>rfl)) aj))) (aD 7 nd) (ao (bc (BA 4 hr.units (qv 7)) (ah (cg 4 hr.units (qv 7) zc) (ao (kP 3 (qv 7)))) aS))) (ao (ES 5 nd av))))) (ao (gu 3 (aN (qv 3)))))))),wg⟩
theorem sa (F:Df K mg "renumbered" cO ["halves","thirds","met"]) (T:Txt mg):Known P w K mg base 1 "renumbered" de :=
 have nd:=lD.nd;F.known lD qA fun fa cdv A outer s H E hr=>⟨jg,(ah (v5 (N':=["number","place"]) (ix:=[]) 3 nd hr.units rfl (bM.of (ak cO) rfl rfl (by decide +kernel) (by decide +kernel) (by decide +kernel) (fun j i h=>by simp at h) rfl) (by decide) rfl rfl rfl rfl rfl T.enumerate (ae (qv 2) aj) (fun C s H fp pins=>cV) (fun C s H fp pins=>(qv 1)) (fun C s H fp pins=>(qv 0))) (ah (cg 3 hr.units uF uF) (ao (lS 3 (aN (aY (ae (fu T.tuple (ae (QF.e (i8 (N':=["place","halves","numbers"]) (ix:=[0,3]) rfl (bM.of (ak cO) rfl rfl (by decide +kernel) (by decide +kernel) (by decide +kernel) (fun j i h=>match j,h with | 0,h=>by cases h;exact⟨_,rfl,rfl,by decide,rfl⟩ | 1,h=>by cases h;exact⟨_,rfl,rfl,by decide,rfl⟩ | _ + 2,h=>by simp at h) rfl) (by decide) rfl rfl (qv 2) (fun C s H fp pins=>cV) (fun C s H fp pins=>(DF hr.units (qv 2) (bg (qv 1) (qv 0) (fun _ _=>rfl)) (fun _ _=>rfl))))) aj)) (ae (fu T.tuple (ae (QF.e (i8 (N':=["place","thirds","numbers"]) (ix:=[1,3]) rfl (bM.of (ak cO) rfl rfl (by decide +kernel) (by decide +kernel) (by decide +kernel) (fun j i h=>match j,h with | 0,h=>by cases h;exact⟨_,rfl,rfl,by decide,rfl⟩ | 1,h=>by cases h;exact⟨_,rfl,rfl,by decide,rfl⟩ | _ + 2,h=>by simp at h) rfl) (by decide) rfl rfl (qv 2) (fun C s H fp pins=>cV) (fun C s H fp pins=>(DF hr.units (qv 2) (bg (qv 1) (qv 0) (fun _ _=>rfl)) (fun _ _=>rfl))))) aj)) aj)))))))),rN⟩
theorem u2 (F:Df K mg "lead_back" gP ["halves","thirds"]) (T:Txt mg):Known P w K mg base 1 "lead_back" dU :=
 have nd:=mS.nd;F.known mS sk fun fa cdv A outer s H E hr=>⟨jL,(ah (gM PassesOwn.never rfl rfl T.range (ae (jA T.len (ae (qv 0) aj)) aj) (aD 2 nd) (ao (bc (QW.t (md (pG hr.units (bg (qv 0) (bg (qv 0) (qv 2) (fun _ _=>rfl)) (fun _ _=>rfl)) (qv 2)) (j7 (pG hr.units (bg (qv 1) (bg (qv 1) (bg (qv 1) (qv 2) (fun _ _=>rfl)) (fun _ _=>rfl)) (fun _ _=>rfl)) (qv 2))))) (ao (aN zc)) aS))) (ao (aN zc))),uR⟩
theorem wR (F:Df K mg "numbered" iR ["halves","thirds","first"]) (T:Txt mg) (k_lead_back:Known P w K mg base 1 "lead_back" dU) (k_met_from:Known P w K mg base 1 "met_from" fg) (k_renumbered:Known P w K mg base 1 "renumbered" de):Known P w K mg base 2 "numbered" fe :=
 have nd:=oI.nd;F.known oI uY fun fa cdv A outer s H E hr=>⟨lX,(ah (bc (lY (ig (aK k_lead_back (hr.mono (by decide)) (ae (qv 0) (ae (qv 1) aj))))) (ao vW) aS) (ah (aI 3 nd (aK k_met_from (hr.mono (by decide)) (ae (qv 0) (ae (qv 1) (ae (qv 2) aj))))) (ah (bc (w8 (jA T.len (ae (qv 3) aj)) (jA T.len (ae (qv 0) aj))) (ao vW) aS) (ao (aN (aK k_renumbered (hr.mono (by decide)) (ae (qv 0) (ae (qv 1) (ae (qv 3) aj))))))))),wD⟩
theorem pw (F:Df K mg "place_behind" eh ["table","place","letter"]):Known P w K mg base 1 "place_behind" cF :=
 have nd:=jz.nd;F.known jz oo fun fa cdv A outer s H E hr=>⟨gI,(ah (iT (qv 0) (fc rfl (aL (aD 3 nd) (aL (aD 4 nd) c4)))) (ah (bc (iq hr.units (qv 2) bL) (ao (aN (bg (qv 3) (qv 1) (fun _ _=>rfl)))) aS) (ah (aI 5 nd (bg (qv 4) (qv 1) (fun _ _=>rfl))) (ah (bc (QW.t (nT (iq hr.units (qv 2) bL) (kQ (GQ (qv 5) uF)))) (ao (aN (bg (qv 4) (qv 5) (fun _ _=>rfl)))) aS) (ao (aN (qv 5))))))),o6⟩
theorem q0 (F:KC K mg "place_along" fB ["table","word","first"] 0) (k_place_behind:Known P w K mg base 1 "place_behind" cF):rh P w K mg base 2 "place_along" cS 0 :=
 have nd:=jT.nd;F.known jT pF fun fa cdv A outer s H E hr=>⟨ic,(ah (aI 3 nd (qv 2)) (ah (jo PassesOwn.never rfl (qv 1) (aD 4 nd) (ah (bc (Gb (qv 3) uF) (ao (aN uF)) aS) (ao (aI 3 nd (aK k_place_behind (hr.mono (by decide)) (ae (qv 0) (ae (qv 3) (ae (qv 4) aj)))))))) (ao (aN (qv 3))))),qe⟩
theorem vp (F:Df K mg "place_of" jj ["table","one"]) (k_place_along:rh P w K mg base 2 "place_along" cS 0) (kx_word_of:fv P w K mg base 4 "word_of" eV):fv P w K mg base 5 "place_of" dY :=
 have nd:=oM.nd;F.rF oM rV fun fa cdv A outer s H E hr=>⟨kb,(pP (EI k_place_along (hr.mono (by decide)) (qv 0) (pO kx_word_of (hr.mono (by decide)) (ae (qv 1) aj)))),uV⟩
theorem yP (F:Df K mg "turned" mY ["table","one"]) (k_numbered:Known P w K mg base 2 "numbered" fe) (kx_place_of:fv P w K mg base 5 "place_of" dY):fv P w K mg base 6 "turned" gv :=
 have nd:=sM.nd;F.rF sM wZ fun fa cdv A outer s H E hr=>⟨nI,(pP (Es k_numbered (hr.mono (by decide)) (bg (qv 0) av (fun _ _=>rfl)) (bg (qv 0) av (fun _ _=>rfl)) (pO kx_place_of (hr.mono (by decide)) (ae (qv 0) (ae (qv 1) aj))))),yH⟩
theorem qi (F:Df K mg "_law_cell_at" fz ["_law_script","_law_k"]) (T:Txt mg):Known P w K mg base 1 "_law_cell_at" bU :=
 have nd:=jM.nd;F.known jM pb fun fa cdv A outer s H E hr=>⟨kY,(ah (bc (w8 (qv 1) (jA T.len (ae (qv 0) aj))) (ao (aN (bg (qv 0) (qv 1) (fun _ _=>rfl)))) aS) (ao (aN av))),qI⟩
theorem yu (F:Df K mg "_law_big" kA ["_law_script","_law_at"]) (T:Txt mg) (k_law_cell_at:Known P w K mg base 1 "_law_cell_at" bU):Known P w K mg base 2 "_law_big" gq :=
 have nd:=qp.nd;F.known qp vN fun fa cdv A outer s H E hr=>⟨nR,(ah (aI 2 nd (aY (ae av (ae av (ae av (ae av (ae av (ae av (ae av (ae av aj)))))))))) (ah (aI 3 nd (aY (ae av (ae av (ae av (ae av (ae av (ae av (ae av (ae av aj)))))))))) (ah (aI 4 nd (aK k_law_cell_at (hr.mono (by decide)) (ae (qv 0) (ae (qv 1) aj)))) (ah (bc (Ln (qv 4) (zL av av)) (ao (aN (qv 4))) aS) (ah (aI 5 nd av) (ah (gM PassesOwn.never rfl rfl T.range (ae av aj) (aD 6 nd) (ah (aI 7 nd (bq (bq (jH (aK k_law_cell_at (hr.mono (by decide)) (ae (qv 0) (ae (bq (qv 1) (jH (qv 6) av)) aj))) (zL av av)) av) (df (qv 6) (qv 6)))) (ao (aI 5 nd (bq (df (qv 5) av) (jH (jH (df (qv 7) (bg (qv 2) (jH (qv 6) av) (fun _ _=>rfl))) (bg (qv 3) (jH (qv 6) av) (fun _ _=>rfl))) av)))))) (ao (aN (qv 5))))))))),yQ⟩
theorem uJ (F:Df K mg "_law_digit" g9 ["_law_rest","_law_many"]):Known P w K mg base 1 "_law_digit" az :=
 have nd:=my.nd;F.known my sx fun fa cdv A outer s H E hr=>⟨jS,(ah (aI 2 nd (jH (Dp (qv 0)) (qv 1))) (ah (y2 (qv 0) (ye (Dp (qv 0)) (qv 1))) (ao (aN (qv 2))))),vd⟩
theorem nG (F:Df K mg "_law_fractions" dM ["_law_rest","_law_many"]) (T:Txt mg) (k_law_digit:Known P w K mg base 1 "_law_digit" az):Known P w K mg base 2 "_law_fractions" cf :=
 have nd:=iO.nd;F.known iO mX fun fa cdv A outer s H E hr=>⟨fZ,(ah (fb 2 nd (p6 (ae (aY (ae (gS av) (ae av aj))) (ae (aY (ae av (ae av aj))) (ae (aY (ae av (ae av aj))) aj))))) (ah (gM PassesOwn.never rfl rfl T.range (ae (dH (qv 1) av) aj) (aD 3 nd) (ah (aI 4 nd (aK k_law_digit (hr.mono (by decide)) (ae (qv 0) (ae (dH (fP 2 T.len) av) aj)))) (ao (A5 2 (bq (qv 4) av) (aY (ae (bq (bg (dJ 2 (qv 4) (fun _ _=>rfl)) av (fun _ _=>rfl)) (bg (dJ 2 (bq (qv 4) av) (fun _ _=>rfl)) av (fun _ _=>rfl))) (ae (bq (bg (dJ 2 (qv 4) (fun _ _=>rfl)) av (fun _ _=>rfl)) (bg (dJ 2 (bq (qv 4) av) (fun _ _=>rfl)) av (fun _ _=>rfl))) aj))))))) (ao (gu 2 (aN (fu T.tuple (ae (bq (fw (ae (aY (ae av (ae av aj))) aj)) (KQ (qv 2) (mF av) (mF (dH (jA T.len (ae (qv 2) aj)) av)))) aj))))))),oa⟩
theorem ur (F:Df K mg "_law_marks" fR ["_law_rest","_law_many"]) (T:Txt mg) (k_law_digit:Known P w K mg base 1 "_law_digit" az):Known P w K mg base 2 "_law_marks" dW :=
 have nd:=mJ.nd;F.known mJ sh fun fa cdv A outer s H E hr=>⟨j9,(ah (pH 2 nd (N':=["_law_gap"]) (ix:=[]) rfl (bM.of (ak fR) rfl rfl (by decide +kernel) (by decide +kernel) (by decide +kernel) (fun j i h=>by simp at h) rfl) (by decide) rfl rfl rfl T.range (ae (qv 1) aj) (fun C s H fp pins=>cV) (fun C s H fp pins=>bL)) (ah (fb 3 nd (Di T.list T.range (ae (qv 1) aj))) (ah (jW PassesOwn.never (Ag 3 hr.units) (ah (tK 4 3 nd av) (ah (aI 5 nd (aK k_law_digit (hr.mono (by decide)) (ae (qv 0) (ae av aj)))) (ah (bc (iq hr.units (qv 5) av) (ao (yz 2 (qv 4) bL)) aS) (ao (bc (QW.t (nT (CK (qv 5) av) (kQ (Ag 3 hr.units)))) (ah (tK 6 3 nd (aK k_law_digit (hr.mono (by decide)) (ae (qv 0) (ae (fP 3 T.len) aj)))) (ah (yz 2 (qv 4) (qv 6)) (ao (yz 2 (qv 6) (qv 4))))) aS)))))) (ah (gu 2 (bc (QW.t (nT (iq hr.units (qv 1) av) (kQ (IQ hr.units bL (qv 2))))) (ao (aI 2 nd (fw (ae bL (ae bL aj))))) aS)) (ao (aN (fu T.tuple (ae (qv 2) aj)))))))),ub⟩
theorem yX (F:Df K mg "_law_fan" kB ["_law_rest","_law_most","_law_great_here"]) (k_law_digit:Known P w K mg base 1 "_law_digit" az) (k_law_fractions:Known P w K mg base 2 "_law_fractions" cf) (k_law_marks:Known P w K mg base 2 "_law_marks" dW):Known P w K mg base 3 "_law_fan" gn :=
 have nd:=rE.nd;F.known rE wk fun fa cdv A outer s H E hr=>⟨oh,(ah (aI 3 nd (bq av (aK k_law_digit (hr.mono (by decide)) (ae (qv 0) (ae (dH (qv 1) av) aj))))) (ah (bc (iq hr.units (aK k_law_digit (hr.mono (by decide)) (ae (qv 0) (ae av aj))) av) (ao (aI 3 nd (bq av (aK k_law_digit (hr.mono (by decide)) (ae (qv 0) (ae (dH (qv 2) av) aj)))))) aS) (ao (aN (aY (ae (aK k_law_fractions (hr.mono (by decide)) (ae (qv 0) (ae (qv 3) aj))) (ae (aK k_law_marks (hr.mono (by decide)) (ae (qv 0) (ae (qv 3) aj))) aj))))))),yD⟩
theorem vI (F:Df K mg "_law_tiles" gZ ["_law_fractions_here"]) (T:Txt mg):Known P w K mg base 1 "_law_tiles" dS :=
 have nd:=m6.nd;F.known m6 rP fun fa cdv A outer s H E hr=>⟨ky,(ah (fb 1 nd (AU T.list (ae (qv 0) aj))) (ah (fb 2 nd (p6 aj)) (ah (jW PassesOwn.never (CK (fP 1 T.len) av) (ao (B5 PassesOwn.never rfl rfl T.range (ae av (ae (fP 1 T.len) aj)) (aD 3 nd) (ah (aI 4 nd (dJ 1 (dH (qv 3) av) (fun _ _=>rfl))) (ah (aI 5 nd (dJ 1 (jH (bq (qv 3) av) (fP 1 T.len)) (fun _ _=>rfl))) (ao (bc (QW.t (nT (pG hr.units (dJ 1 (qv 3) (fun _ _=>rfl)) (aY (ae av (ae av aj)))) (kQ (iq hr.units (oN T.abs (ae (dH (df (bg (qv 4) av (fun _ _=>rfl)) (bg (qv 5) av (fun _ _=>rfl))) (df (bg (qv 4) av (fun _ _=>rfl)) (bg (qv 5) av (fun _ _=>rfl)))) aj)) av)))) (ah (kP 2 (aY (ae (qv 4) (ae (dJ 1 (qv 3) (fun _ _=>rfl)) (ae (qv 5) aj))))) (ah (E8 1 (qv 3)) (ao C0))) aS))))))) (ao (gu 2 (aN (qv 2))))))),uD⟩
theorem xV (F:Df K mg "_law_gaps" gw ["_law_fractions_here"]) (T:Txt mg):Known P w K mg base 1 "_law_gaps" e8 :=
 have nd:=oQ.nd;F.known oQ va fun fa cdv A outer s H E hr=>⟨l5,(ao (aN (QF.e (AA (N':=["_law_i","_law_fractions_here"]) (ix:=[0]) rfl (bM.of (ak gw) rfl rfl (by decide +kernel) (by decide +kernel) (by decide +kernel) (fun j i h=>match j,h with | 0,h=>by cases h;exact⟨_,rfl,rfl,by decide,rfl⟩ | _ + 1,h=>by simp at h) rfl) (by decide) rfl rfl rfl T.range (ae (jA T.len (ae (qv 0) aj)) aj) (fun C s H fp pins=>cV) (fun C s H fp pins=>(aY (ae (bg (qv 1) (qv 0) (fun _ _=>rfl)) (ae (bg (qv 1) (jH (bq (qv 0) av) (jA T.len (ae (qv 1) aj))) (fun _ _=>rfl)) aj)))))))),vV⟩
theorem vg (F:Df K mg "_law_links" gU ["_law_fan_here"]) (T:Txt mg) (k_law_gaps:Known P w K mg base 1 "_law_gaps" e8) (k_law_tiles:Known P w K mg base 1 "_law_tiles" dS):Known P w K mg base 2 "_law_links" dQ :=
 have nd:=m5.nd;F.known m5 rL fun fa cdv A outer s H E hr=>⟨jI,(ah (iT (qv 0) (fc rfl (aL (aD 1 nd) (aL (aD 2 nd) c4)))) (ah (aI 3 nd (aK k_law_gaps (hr.mono (by decide)) (ae (qv 1) aj))) (ah (t7 4 nd) (ah (jo PassesOwn.never rfl (aK k_law_tiles (hr.mono (by decide)) (ae (qv 1) aj)) (fc rfl (aL (aD 5 nd) (aL (aD 6 nd) (aL (aD 7 nd) c4)))) (ah (cg 4 hr.units (aY (ae (qv 5) (ae (qv 6) aj))) (aY (ae (qv 6) (ae (qv 7) aj)))) (ah (cg 4 hr.units (aY (ae (qv 6) (ae (qv 7) aj))) (aY (ae (qv 7) (ae (qv 5) aj)))) (ao (cg 4 hr.units (aY (ae (qv 7) (ae (qv 5) aj))) (aY (ae (qv 5) (ae (qv 6) aj)))))))) (ah (t7 8 nd) (ah (AX 4 PassesOwn.never rfl (fc rfl (aL (aD 5 nd) (aL (aD 7 nd) c4))) (ao (cg 8 hr.units (aY (ae (qv 5) (ae (qv 7) aj))) (aY (ae (qv 7) (ae (qv 5) aj)))))) (ah (FA PassesOwn.never rfl rfl T.enumerate (ae (qv 2) aj) (fc rfl (aL (aD 9 nd) (aL (aD 10 nd) c4))) (ao (bc (iq hr.units (qv 10) bL) (ah (cg 4 hr.units (qv 9) (qv 9)) (ah (cg 8 hr.units (qv 9) (bg (qv 3) (qv 9) (fun _ _=>rfl))) (ao (cg 8 hr.units (bg (qv 3) (qv 9) (fun _ _=>rfl)) (qv 9))))) (ao (bc (iq hr.units (qv 10) bL) (ao (cg 8 hr.units (bg (qv 3) (qv 9) (fun _ _=>rfl)) (bg (qv 3) (qv 9) (fun _ _=>rfl)))) (ao (cg 8 hr.units (bg (qv 3) (qv 9) (fun _ _=>rfl)) (bg (qv 3) (qv 10) (fun _ _=>rfl))))))))) (ah (aI 11 nd (aY (ae (aY (ae av (ae av aj))) (ae (aY (ae av (ae av aj))) aj)))) (ah (lS 4 (bc (iq hr.units (jA T.len (ae (qv 1) aj)) av) (ah (aI 11 nd (bg (fw (ae av (ae av aj))) (pM T.int (ae (K8 hr.units (bg (qv 2) av (fun _ _=>rfl)) bL) aj)) (fun _ _=>rfl))) (ao (jo PassesOwn.never rfl (fw (ae av (ae av aj))) (aD 9 nd) (ao (bc (iq hr.units (bg (qv 2) (qv 9) (fun _ _=>rfl)) bL) (ao (cg 8 hr.units (qv 9) (bg (fw (ae (qv 9) (ae (dH av (qv 9)) aj))) (pM T.int (ae (AL hr.units (bg (qv 2) (dH av (qv 9)) (fun _ _=>rfl)) bL) aj)) (fun _ _=>rfl)))) aS))))) (ao (bc (IS hr.units (qv 11) (qv 4)) (ao (aI 11 nd (Cp 8 hr.units (bg (qv 3) (gS av) (fun _ _=>rfl)) (fun _ _=>rfl)))) aS)))) (ao (lS 8 (aN (aY (ae (qv 8) (ae (qv 4) (ae (qv 11) aj)))))))))))))))),vk⟩
theorem xI (F:Df K mg "_law_anew" e7 ["_law_halves","_law_thirds","_law_first"]) (T:Txt mg):Known P w K mg base 1 "_law_anew" bE :=
 have nd:=oU.nd;F.known oU vj fun fa cdv A outer s H E hr=>⟨lW,(ah (fb 3 nd (p6 (ae (qv 2) aj))) (ah (aI 4 nd av) (ah (jW PassesOwn.never (w8 (qv 4) (fP 3 T.len)) (ah (jo PassesOwn.never rfl (fw (ae (t9 hr.units (qv 0) (dJ 3 (qv 4) (fun _ _=>rfl)) (fun _ _=>rfl)) (ae (t9 hr.units (qv 1) (dJ 3 (qv 4) (fun _ _=>rfl)) (fun _ _=>rfl)) aj))) (aD 5 nd) (ao (bc (C9 3 hr.units (qv 5)) (ao (kP 3 (qv 5))) aS))) (ao (aI 4 nd (bq (qv 4) av))))) (ao (gu 3 (aN (aY (ae (fu T.tuple (ae (QF.e (i8 (N':=["_law_one","_law_halves","_law_met"]) (ix:=[0,3]) rfl (bM.of (ak e7) rfl rfl (by decide +kernel) (by decide +kernel) (by decide +kernel) (fun j i h=>match j,h with | 0,h=>by cases h;exact⟨_,rfl,rfl,by decide,rfl⟩ | 1,h=>by cases h;exact⟨_,rfl,rfl,by decide,rfl⟩ | _ + 2,h=>by simp at h) rfl) (by decide) rfl rfl (qv 3) (fun C s H fp pins=>cV) (fun C s H fp pins=>(uf hr.units (qv 2) (t9 hr.units (qv 1) (qv 0) (fun _ _=>rfl)))))) aj)) (ae (fu T.tuple (ae (QF.e (i8 (N':=["_law_one","_law_thirds","_law_met"]) (ix:=[1,3]) rfl (bM.of (ak e7) rfl rfl (by decide +kernel) (by decide +kernel) (by decide +kernel) (fun j i h=>match j,h with | 0,h=>by cases h;exact⟨_,rfl,rfl,by decide,rfl⟩ | 1,h=>by cases h;exact⟨_,rfl,rfl,by decide,rfl⟩ | _ + 2,h=>by simp at h) rfl) (by decide) rfl rfl (qv 3) (fun C s H fp pins=>cV) (fun C s H fp pins=>(uf hr.units (qv 2) (t9 hr.units (qv 1) (qv 0) (fun _ _=>rfl)))))) aj)) aj))))))))),wI⟩
theorem uA (F:Df K mg "_law_table" g8 ["_law_fan_here"]) (k_law_anew:Known P w K mg base 1 "_law_anew" bE) (k_law_links:Known P w K mg base 2 "_law_links" dQ):Known P w K mg base 3 "_law_table" dR :=
 have nd:=mK.nd;F.known mK rQ fun fa cdv A outer s H E hr=>⟨jQ,(ah (iT (aK k_law_links (hr.mono (by decide)) (ae (qv 0) aj)) (fc rfl (aL (aD 1 nd) (aL (aD 2 nd) (aL (aD 3 nd) c4))))) (ao (aN (aK k_law_anew (hr.mono (by decide)) (ae (qv 1) (ae (qv 2) (ae (qv 3) aj))))))),ua⟩
theorem uN (F:Df K mg "_law_whole" hV ["_law_thing"]) (T:Txt mg):Known P w K mg base 1 "_law_whole" dX :=
 have nd:=mG.nd;F.known mG sd fun fa cdv A outer s H E hr=>⟨oV,(ao (aN (G0 (zr T.isinstance T.int sA (qv 0)) (BX (Hf (zr T.isinstance T.bool zj (qv 0))))))),vE⟩
theorem mr (F:Df K mg "_law_are_places" cH ["_law_found","_law_due"]) (T:Txt mg) (k_law_whole:Known P w K mg base 1 "_law_whole" dX):Known P w K mg base 2 "_law_are_places" br :=
 have nd:=gR.nd;F.known gR lH fun fa cdv A outer s H E hr=>⟨fj,(ah (bc (QW.t (md (lY (ig (zr T.isinstance T.tuple jX (qv 0)))) (j7 (pG hr.units (jA T.len (ae (qv 0) aj)) av)))) (ao (aN zc)) aS) (ah (jo PassesOwn.never rfl (qv 0) (aD 2 nd) (ao (bc (QW.t (md (lY (ig (zr T.isinstance T.tuple jX (qv 2)))) (j7 (lY (ig (Jt T.all (ae (QF.e (i8 (N':=["_law_place"]) (ix:=[]) rfl (bM.of (ak cH) rfl rfl (by decide +kernel) (by decide +kernel) (by decide +kernel) (fun j i h=>by simp at h) rfl) (by decide) rfl rfl (qv 2) (fun C s H fp pins=>cV) (fun C s H fp pins=>(aK k_law_whole (hr.mono (by decide)) (ae (qv 0) aj))))) aj))))))) (ao (aN zc)) aS))) (ao (aN (AL hr.units (qv 0) (qv 1)))))),mM⟩
theorem ud (F:Df K mg "_law_times" fQ ["_law_one","_law_other"]) (T:Txt mg):Known P w K mg base 1 "_law_times" dP :=
 have nd:=ma.nd;F.known ma rT fun fa cdv A outer s H E hr=>⟨jY,(ah (iT (qv 0) (fc rfl (aL (aD 2 nd) (aL (aD 3 nd) (aL (aD 4 nd) (aL (aD 5 nd) c4)))))) (ah (iT (qv 1) (fc rfl (aL (aD 6 nd) (aL (aD 7 nd) (aL (aD 8 nd) (aL (aD 9 nd) c4)))))) (ah (aI 10 nd (aY (ae (bq (df (qv 2) (qv 6)) (df (qv 3) (qv 8))) (ae (bq (df (qv 2) (qv 7)) (df (qv 3) (qv 9))) (ae (bq (df (qv 4) (qv 6)) (df (qv 5) (qv 8))) (ae (bq (df (qv 4) (qv 7)) (df (qv 5) (qv 9))) aj)))))) (ah (bc (QW.t (md (w8 (bg (qv 10) av (fun _ _=>rfl)) av) (j7 (QW.t (nT (iq hr.units (bg (qv 10) av (fun _ _=>rfl)) av) (kQ (w8 (bg (qv 10) av (fun _ _=>rfl)) av))))))) (ao (aN (fu T.tuple (ae (QF.e (i8 (N':=["_law_number"]) (ix:=[]) rfl (bM.of (ak fQ) rfl rfl (by decide +kernel) (by decide +kernel) (by decide +kernel) (fun j i h=>by simp at h) rfl) (by decide) rfl rfl (qv 10) (fun C s H fp pins=>cV) (fun C s H fp pins=>(dH av (qv 0))))) aj)))) aS) (ao (aN (qv 10))))))),uI⟩
theorem rH (F:Df K mg "_law_turning" fE ["_law_word_here"]) (k_law_times:Known P w K mg base 1 "_law_times" dP):Known P w K mg base 2 "_law_turning" bj :=
 have nd:=jR.nd;F.known jR pq fun fa cdv A outer s H E hr=>⟨iA,(ah (aI 1 nd (aY (ae av (ae av (ae av (ae av aj)))))) (ah (jo PassesOwn.never rfl (qv 0) (aD 2 nd) (ao (aI 1 nd (aK k_law_times (hr.mono (by decide)) (ae (qv 1) (ae (Gu hr.units (DC (yA (aY (ae av (ae (gS av) (ae av (ae av aj))))) (yA (aY (ae av (ae (gS av) (ae av (ae (gS av) aj))))) (yA (aY (ae av (ae (gS av) (ae av (ae av aj))))) CM)))) (qv 2) (fun _ _=>rfl)) aj)))))) (ao (aN (qv 1))))),qq⟩
theorem yn (F:Df K mg "_law_led" kI ["_law_table_here","_law_place","_law_word_here"]):Known P w K mg base 1 "_law_led" cG :=
 have nd:=ra.nd;F.known ra wd fun fa cdv A outer s H E hr=>⟨nU,(ah (jo PassesOwn.never rfl (qv 2) (aD 3 nd) (ao (bc (iq hr.units (qv 3) bL) (ao (aI 1 nd (bg (bg (qv 0) av (fun _ _=>rfl)) (qv 1) (fun _ _=>rfl)))) (ao (bc (iq hr.units (qv 3) bL) (ao (aI 1 nd (bg (bg (qv 0) av (fun _ _=>rfl)) (qv 1) (fun _ _=>rfl)))) (ao (aI 1 nd (bg (bg (qv 0) av (fun _ _=>rfl)) (bg (bg (qv 0) av (fun _ _=>rfl)) (qv 1) (fun _ _=>rfl)) (fun _ _=>rfl))))))))) (ao (aN (qv 1)))),yR⟩
theorem qg (F:Df K mg "_law_shorter" fG ["_law_word_here"]):Known P w K mg base 1 "_law_shorter" cR :=
 have nd:=jG.nd;F.known jG o3 fun fa cdv A outer s H E hr=>⟨iy,(ah (aI 1 nd bL) (ah (jo PassesOwn.never rfl (qv 0) (aD 2 nd) (ah (aI 3 nd (Co (qv 1) (mF (gS av)) u4)) (ao (bc (QW.t (md (iq hr.units (qv 3) bL) (j7 (pG hr.units (AL hr.units (qv 3) bL) (AL hr.units (qv 2) bL))))) (ao (aI 1 nd (bq (qv 1) (qv 2)))) (ao (bc (iq hr.units (qv 2) bL) (ao (aI 1 nd (Co (qv 1) u4 (mF (gS av))))) (ao (aI 1 nd (bq (Co (qv 1) u4 (mF (gS av))) (Gu hr.units (DC (yA bL (yA bL (yA bL (yA bL CM))))) (bq (qv 3) (qv 2)) (fun _ _=>rfl))))))))))) (ao (aN (qv 1))))),rf⟩
theorem qz (F:Df K mg "_law_word_of" fI ["_law_one"]) (T:Txt mg) (k_law_shorter:Known P w K mg base 1 "_law_shorter" cR):Known P w K mg base 2 "_law_word_of" cP :=
 have nd:=j4.nd;F.known j4 pv fun fa cdv A outer s H E hr=>⟨iB,(ah (iT (qv 0) (fc rfl (aL (aD 1 nd) (aL (aD 2 nd) (aL (aD 3 nd) (aL (aD 4 nd) c4)))))) (ah (aI 5 nd bL) (ah (aI 6 nd av) (ah (jW PassesOwn.never (pG hr.units (qv 3) av) (ah (aI 7 nd (ye (qv 1) (qv 3))) (ah (aI 6 nd (bq (bq (qv 6) (df av (oN T.abs (ae (qv 7) aj)))) av)) (ah (bc (CK (qv 6) av) (ao (aN uF)) aS) (ah (aI 5 nd (bq (bq (qv 5) (bg (fw (ae (x6 bL (dH av (qv 7))) (ae (x6 bL (qv 7)) aj))) (pM T.int (ae (J7 (qv 7) av) aj)) (fun _ _=>rfl))) bL)) (ao (iT (aY (ae (dH av (qv 3)) (ae (dH av (qv 4)) (ae (dH (qv 1) (df (qv 7) (qv 3))) (ae (dH (qv 2) (df (qv 7) (qv 4))) aj))))) (fc rfl (aL (aD 1 nd) (aL (aD 2 nd) (aL (aD 3 nd) (aL (aD 4 nd) c4)))))))))))) (ah (bc (CK (bq (qv 6) (df av (oN T.abs (ae (qv 2) aj)))) av) (ao (aN uF)) aS) (ah (aI 5 nd (aK k_law_shorter (hr.mono (by decide)) (ae (bq (qv 5) (bg (fw (ae (x6 bL (dH av (df (qv 2) (qv 4)))) (ae (x6 bL (df (qv 2) (qv 4))) aj))) (pM T.int (ae (J7 (df (qv 2) (qv 4)) av) aj)) (fun _ _=>rfl))) aj))) (ah (bc (CK (jA T.len (ae (qv 5) aj)) av) (ao (aN uF)) aS) (ao (aN (qv 5)))))))))),qj⟩
theorem pj (F:Df K mg "_law_refusal" fA ["_law_e"]) (T:Txt mg) {n:HX} (TC:Tc K w n):rd P w K mg base 1 "_law_refusal" cQ :=
 have nd:=kr.nd;F.zg kr o5 fun fa cdv A outer s H E hr=>⟨ir,(ah (bc (QW.t (md (lY (ig (vL "TooLong" (.ty "ValueError") true T.isinstance TC.n_TooLong TC.iH (.ty TC.kt1) (ae (qv 0) (ae (LY rfl T.ValueError EW) aj))))) (j7 (ig (vL "TooLong" (.tup [.cls "Full",.cls "NoFan",.cls "NoText",.cls "NotIn",.cls "NoTurning",.cls "Open"]) false T.isinstance TC.n_TooLong TC.iH (.tup (.cons TC.n_Full (.cons TC.n_NoFan (.cons TC.n_NoText (.cons TC.n_NotIn (.cons TC.n_NoTurning (.cons TC.n_Open .nil)))))) TC.kt0) (ae (qv 0) (ae (aY (ae (vy TC.n_Full) (ae (vy TC.n_NoFan) (ae (vy TC.n_NoText) (ae (vy TC.n_NotIn) (ae (vy TC.n_NoTurning) (ae (vy TC.n_Open) aj))))))) aj))))))) (ao (aN bL)) aS) (ah (aI 1 nd (fw (ae (vL "TooLong" (.cls "NoTable") false T.isinstance TC.n_TooLong TC.iH (.cls TC.n_NoTable TC.kt4) (ae (qv 0) (ae (vy TC.n_NoTable) aj))) (ae (vL "TooLong" (.cls "TooLong") true T.isinstance TC.n_TooLong TC.iH (.cls TC.n_TooLong TC.kt3) (ae (qv 0) (ae (vy TC.n_TooLong) aj))) (ae (vL "TooLong" (.cls "TooMany") false T.isinstance TC.n_TooLong TC.iH (.cls TC.n_TooMany TC.kt2) (ae (qv 0) (ae (vy TC.n_TooMany) aj))) aj))))) (ah (bc (pG hr.units (BB hr.units (qv 1) zc) av) (ao (aN bL)) aS) (ao (aN (bg (fw (ae bL (ae bL (ae bL aj)))) (uf hr.units (qv 1) zc) (fun _ _=>rfl))))))),qW⟩
theorem xo (F:Df K mg "_law_long" gJ ["_law_rest","_law_most"]) (T:Txt mg) (k_law_digit:Known P w K mg base 1 "_law_digit" az) (k_law_turning:Known P w K mg base 2 "_law_turning" bj):Known P w K mg base 3 "_law_long" fy :=
 have nd:=oW.nd;F.known oW uW fun fa cdv A outer s H E hr=>⟨lV,(ah (aI 2 nd bL) (ah (gM PassesOwn.never rfl rfl T.range (ae (bq av (aK k_law_digit (hr.mono (by decide)) (ae (qv 0) (ae av aj)))) aj) (aD 3 nd) (ah (aI 4 nd (bq av (aK k_law_digit (hr.mono (by decide)) (ae (qv 0) (ae (bg (fw (ae av (ae av (ae av (ae av aj))))) (aK k_law_digit (hr.mono (by decide)) (ae (qv 0) (ae av aj))) (fun _ _=>rfl)) aj))))) (ah (aI 5 nd (bq (qv 2) (x6 (bg (fw (ae bL (ae bL (ae bL (ae bL aj))))) (aK k_law_digit (hr.mono (by decide)) (ae (qv 0) (ae av aj))) (fun _ _=>rfl)) (qv 4)))) (ao (bc (QW.t (nT (Lf (jA T.len (ae (qv 5) aj)) (qv 1)) (kQ (w8 (HI T.max (ae (QF.e (i8 (N':=["_law_number"]) (ix:=[]) rfl (bM.of (ak gJ) rfl rfl (by decide +kernel) (by decide +kernel) (by decide +kernel) (fun j i h=>by simp at h) rfl) (by decide) rfl rfl (aK k_law_turning (hr.mono (by decide)) (ae (qv 5) aj)) (fun C s H fp pins=>cV) (fun C s H fp pins=>(oN T.abs (ae (qv 0) aj))))) aj)) (zL av av))))) (ao (aI 2 nd (qv 5))) aS))))) (ao (aN (qv 2))))),wX⟩
theorem xw (F:Df K mg "_law_word" ji ["_law_rest","_law_most"]) (T:Txt mg) (k_law_digit:Known P w K mg base 1 "_law_digit" az):Known P w K mg base 2 "_law_word" eU :=
 have nd:=oy.nd;F.known oy uM fun fa cdv A outer s H E hr=>⟨lE,(ah (aI 2 nd bL) (ah (aI 3 nd (aK k_law_digit (hr.mono (by decide)) (ae (qv 0) (ae av aj)))) (ah (gM PassesOwn.never rfl rfl T.range (ae (aK k_law_digit (hr.mono (by decide)) (ae (qv 0) (ae (bq (qv 1) av) aj))) aj) (aD 4 nd) (ao (bc (iq hr.units (jH (bq (qv 3) (qv 4)) av) av) (ao (aI 2 nd (bq (qv 2) bL))) (ao (aI 2 nd (bq (qv 2) (bg bL (aK k_law_digit (hr.mono (by decide)) (ae (qv 0) (ae av aj))) (fun _ _=>rfl)))))))) (ao (aN (qv 2)))))),xi⟩
theorem vD (F:Df K mg "_law_great" fK ["_law_rest"]) (T:Txt mg) (k_law_digit:Known P w K mg base 1 "_law_digit" az):Known P w K mg base 2 "_law_great" d8 :=
 have nd:=mQ.nd;F.known mQ r8 fun fa cdv A outer s H E hr=>⟨kh,(ah (aI 1 nd (bq av (aK k_law_digit (hr.mono (by decide)) (ae (qv 0) (ae av aj))))) (ah (vB 2 nd (N':=["_law_k","_law_rest","_law_by"]) (ix:=[0,1]) rfl (bM.of (ak fK) rfl rfl (by decide +kernel) (by decide +kernel) (by decide +kernel) (fun j i h=>match j,h with | 0,h=>by cases h;exact⟨_,rfl,rfl,by decide,rfl⟩ | 1,h=>by cases h;exact⟨_,rfl,rfl,by decide,rfl⟩ | _ + 2,h=>by simp at h) rfl) (by decide) rfl rfl rfl T.range (ae (bq av (aK k_law_digit (hr.mono (by decide)) (ae (qv 0) (ae av aj)))) aj) (fun C s H fp pins=>cV) (fun C s H fp pins=>(bg bL (jH (bq (ye (qv 0) (qv 2)) (aK k_law_digit (hr.mono (by decide)) (ae (qv 1) (ae av aj)))) av) (fun _ _=>rfl)))) (ao (aN (bq bL (BF bL (ae (qv 2) aj))))))),vF⟩
theorem xQ (F:Df K mg "_law_told" jk ["_law_table_here","_law_one"]) {n:HX} (TC:Tc K w n) (kx_turned:fv P w K mg base 6 "turned" gv) (kh_law_refusal:rd P w K mg base 1 "_law_refusal" cQ):Known P w K mg base 7 "_law_told" cn :=
 have nd:=oG.nd;F.known oG uO fun fa cdv A outer s H E hr=>⟨lR,(ao (FE 2 nd rfl rfl TC.n_FanError TC.n_TooLong TC.lM (pO kx_turned (hr.mono (by decide)) (ae (qv 0) (ae (qv 1) aj))) (fun _=>(ao (aN (E1 kh_law_refusal ((hr.mono (by decide)).hand _) (ae (qv 2) aj))))))),xa⟩
theorem Iv {fa:Addr} {fd:FuncData} (F:pz K "law" "law" DE fa fd) (T:Txt mg) (k_law_anew:Known P w K mg base 1 "_law_anew" bE) (k_law_are_places:Known P w K mg base 2 "_law_are_places" br) (k_law_big:Known P w K mg base 2 "_law_big" gq) (k_law_digit:Known P w K mg base 1 "_law_digit" az) (k_law_fan:Known P w K mg base 3 "_law_fan" gn) (k_law_great:Known P w K mg base 2 "_law_great" d8) (k_law_led:Known P w K mg base 1 "_law_led" cG) (k_law_long:Known P w K mg base 3 "_law_long" fy) (k_law_table:Known P w K mg base 3 "_law_table" dR) (k_law_told:Known P w K mg base 7 "_law_told" cn) (k_law_turning:Known P w K mg base 2 "_law_turning" bj) (k_law_word:Known P w K mg base 2 "_law_word" eU) (k_law_word_of:Known P w K mg base 2 "_law_word_of" cP):nV P w K mg base tH 8 fa fd ["_law_script"] (Ep K (Bj 63)) :=
 have nd:=C4.nd;pz.Fe F C4 FR fun cdv A outer s H E hr=>⟨DQ,(ah (gM PassesOwn.never rfl rfl T.range (ae (JL T.max (ae av (ae (Jr T.min (ae av (ae (jA T.len (ae (qv 0) aj)) aj))) aj))) aj) (aD 1 nd) (ah (yg 2 nd (aK k_law_big (hr.mono (by decide)) (ae (qv 0) (ae (qv 1) aj)))) (ah (aI 3 nd (aK k_law_table (hr.mono (by decide)) (ae (aK k_law_fan (hr.mono (by decide)) (ae (qv 2) (ae av (ae av aj)))) aj))) (ah (aI 4 nd (aK k_law_long (hr.mono (by decide)) (ae (qv 2) (ae av aj)))) (ah (aI 5 nd (aK k_law_led (hr.mono (by decide)) (ae (qv 3) (ae av (ae (qv 4) aj))))) (ah (aI 6 nd (aK k_law_told (hr.mono (by decide)) (ae (qv 3) (ae (aK k_law_turning (hr.mono (by decide)) (ae (qv 4) aj)) aj)))) (ah (bc (lY (ig (aK k_law_are_places (hr.mono (by decide)) (ae (qv 6) (ae (aK k_law_anew (hr.mono (by decide)) (ae (bg (qv 3) av (fun _ _=>rfl)) (ae (bg (qv 3) av (fun _ _=>rfl)) (ae (qv 5) aj)))) aj))))) (ao (aN zc)) aS) (ah (gM PassesOwn.never rfl rfl T.range (ae av aj) (aD 7 nd) (ah (aI 8 nd (aK k_law_word (hr.mono (by decide)) (ae (qv 2) (ae av aj)))) (ao (bc (pG hr.units (AL hr.units (aK k_law_led (hr.mono (by decide)) (ae (qv 6) (ae av (ae (qv 8) aj)))) av) (AL hr.units (aK k_law_led (hr.mono (by decide)) (ae (qv 3) (ae (qv 5) (ae (qv 8) aj)))) (qv 5))) (ao (aN zc)) aS)))) (ah (bc (iq hr.units (aK k_law_digit (hr.mono (by decide)) (ae (qv 2) (ae av aj))) av) (ah (aI 4 nd (aK k_law_great (hr.mono (by decide)) (ae (qv 2) aj))) (ao (bc (pG hr.units (aK k_law_told (hr.mono (by decide)) (ae (qv 3) (ae (aK k_law_turning (hr.mono (by decide)) (ae (qv 4) aj)) aj))) (aK k_law_anew (hr.mono (by decide)) (ae (bg (qv 3) av (fun _ _=>rfl)) (ae (bg (qv 3) av (fun _ _=>rfl)) (ae (aK k_law_led (hr.mono (by decide)) (ae (qv 3) (ae av (ae (qv 4) aj)))) aj))))) (ao (aN zc)) aS))) aS) (ah (aI 9 nd (df (bg (fw (ae (bq av (aK k_law_digit (hr.mono (by decide)) (ae (qv 2) (ae av aj)))) (ae (zL av av) aj))) (aK k_law_digit (hr.mono (by decide)) (ae (qv 2) (ae av aj))) (fun _ _=>rfl)) (dH av (df av (aK k_law_digit (hr.mono (by decide)) (ae (qv 2) (ae av aj))))))) (ah (aI 10 nd (aY (ae av (ae (qv 9) (ae av (ae av aj)))))) (ah (aI 11 nd (aK k_law_word_of (hr.mono (by decide)) (ae (qv 10) aj))) (ah (aI 6 nd (aK k_law_told (hr.mono (by decide)) (ae (qv 3) (ae (qv 10) aj)))) (ao (bc (Gb (qv 11) uF) (ao (bc (pG hr.units (qv 6) bL) (ao (aN zc)) aS)) (ao (bc (lY (ig (aK k_law_are_places (hr.mono (by decide)) (ae (qv 6) (ae (aK k_law_anew (hr.mono (by decide)) (ae (bg (qv 3) av (fun _ _=>rfl)) (ae (bg (qv 3) av (fun _ _=>rfl)) (ae (aK k_law_led (hr.mono (by decide)) (ae (qv 3) (ae av (ae (qv 11) aj)))) aj)))) aj))))) (ao (aN zc)) aS))))))))))))))))) (ao (aN zc))),Ht⟩
end
theorem all_mk {l:PySem.W.OpenLaw} {w:World} {K:PySem.W.Frag} {h:Heap} {mg:Str→Option Value} {fa:Addr} {c_Open:Addr} {c_NoTurning:Addr} {c_NotIn:Addr} {c_NoText:Addr} {c_NoFan:Addr} {c_Full:Addr} {c_TooMany:Addr} {c_TooLong:Addr} {c_NoTable:Addr} {c_FanError:Addr} {t_MOST_LETTERS:Tok} (X:K.In h) (G:h.Ns mainGlobals mg) (hfa:mg "law" = some (.ref fa))
  (D1:bt K "differ_in_sign" c5)
  (D2:bt K "first_letter" eF)
  (D3:bt K "without" kS)
  (D4:bt K "word_within" fD)
  (D5:bt K "word_of" kN)
  (D6:bt K "met_from" jc)
  (D7:bt K "renumbered" cO)
  (D8:bt K "lead_back" gP)
  (D9:bt K "numbered" iR)
  (D10:bt K "place_behind" eh)
  (D12:bt K "place_of" jj)
  (D13:bt K "turned" mY)
  (D14:bt K "_law_cell_at" fz)
  (D15:bt K "_law_big" kA)
  (D16:bt K "_law_digit" g9)
  (D17:bt K "_law_fractions" dM)
  (D18:bt K "_law_marks" fR)
  (D19:bt K "_law_fan" kB)
  (D20:bt K "_law_tiles" gZ)
  (D21:bt K "_law_gaps" gw)
  (D22:bt K "_law_links" gU)
  (D23:bt K "_law_anew" e7)
  (D24:bt K "_law_table" g8)
  (D25:bt K "_law_whole" hV)
  (D26:bt K "_law_are_places" cH)
  (D27:bt K "_law_times" fQ)
  (D28:bt K "_law_turning" fE)
  (D29:bt K "_law_led" kI)
  (D30:bt K "_law_shorter" fG)
  (D31:bt K "_law_word_of" fI)
  (D32:bt K "_law_refusal" fA)
  (D33:bt K "_law_long" gJ)
  (D34:bt K "_law_word" ji)
  (D35:bt K "_law_great" fK)
  (D36:bt K "_law_told" jk)
  (D37:bt K "law" DE)
  (D11:yp K "place_along" fB 0)
  (z0:PySem.W.nsIn K mainGlobals "ValueError" = some none)
  (z1:PySem.W.nsIn K mainGlobals "abs" = some none)
  (z2:PySem.W.nsIn K mainGlobals "all" = some none)
  (z3:PySem.W.nsIn K mainGlobals "bool" = some none)
  (z4:PySem.W.nsIn K mainGlobals "enumerate" = some none)
  (z5:PySem.W.nsIn K mainGlobals "int" = some none)
  (z6:PySem.W.nsIn K mainGlobals "isinstance" = some none)
  (z7:PySem.W.nsIn K mainGlobals "len" = some none)
  (z8:PySem.W.nsIn K mainGlobals "list" = some none)
  (z9:PySem.W.nsIn K mainGlobals "max" = some none)
  (z10:PySem.W.nsIn K mainGlobals "min" = some none)
  (z11:PySem.W.nsIn K mainGlobals "range" = some none)
  (z12:PySem.W.nsIn K mainGlobals "tuple" = some none)
  (g_MOST_LETTERS:PySem.W.nsIn K mainGlobals "MOST_LETTERS" = some (some (.int 2000 t_MOST_LETTERS)))
  (n_Open:PySem.W.nsIn K mainGlobals "Open" = some (some (.ref c_Open)))
  (n_NoTurning:PySem.W.nsIn K mainGlobals "NoTurning" = some (some (.ref c_NoTurning)))
  (n_NotIn:PySem.W.nsIn K mainGlobals "NotIn" = some (some (.ref c_NotIn)))
  (n_NoText:PySem.W.nsIn K mainGlobals "NoText" = some (some (.ref c_NoText)))
  (n_NoFan:PySem.W.nsIn K mainGlobals "NoFan" = some (some (.ref c_NoFan)))
  (n_Full:PySem.W.nsIn K mainGlobals "Full" = some (some (.ref c_Full)))
  (n_TooMany:PySem.W.nsIn K mainGlobals "TooMany" = some (some (.ref c_TooMany)))
  (n_TooLong:PySem.W.nsIn K mainGlobals "TooLong" = some (some (.ref c_TooLong)))
  (n_NoTable:PySem.W.nsIn K mainGlobals "NoTable" = some (some (.ref c_NoTable)))
  (n_FanError:PySem.W.nsIn K mainGlobals "FanError" = some (some (.ref c_FanError)))
  (e_TooLong:PySem.W.excIn K c_TooLong [.type "ValueError",.type "Exception",.type "BaseException",.type "object"] "ValueError.__new__" = true)
  (o1_TooLong:PySem.W.findIn K (.ref c_TooLong) "__getattribute__" = some (some (.builtin "BaseException.__getattribute__")))
  (o2_TooLong:PySem.W.findIn K (.ref c_TooLong) "__getattr__" = some none)
  (o3_TooLong:PySem.W.hasDictIn K c_TooLong=true)
  (o4_TooLong:PySem.W.findIn K (.ref c_TooLong) "__class__" = some (some (.builtin "object.__class__")))
  (o5_TooLong:PySem.W.specialIn K (.builtin "object.__class__") "__get__" = some (some (.builtin "getset_descriptor.__get__")))
  (o6_TooLong:PySem.W.takesIn K (.builtin "object.__class__")=some true)
  (o7_TooLong:PySem.W.mroIn K c_TooLong (.type "object")=some true)
  (o8_TooLong:PySem.W.subIn K (.ref c_TooLong) (.type "BaseException")=some true)
  (u1_TooLong_FanError:PySem.W.typeIn K (.ref c_FanError)=some (.type "type"))
  (u2_TooLong_FanError:PySem.W.hasDictIn K c_FanError=true)
  (u3_TooLong_FanError:PySem.W.subIn K (.ref c_FanError) (.type "BaseException")=some true)
  (u4_TooLong_FanError:PySem.W.subIn K (.ref c_TooLong) (.ref c_FanError)=some true)
  (kt0:PySem.W.kitAny K (.ref c_TooLong) [.ref c_Full,.ref c_NoFan,.ref c_NoText,.ref c_NotIn,.ref c_NoTurning,.ref c_Open]=some false)
  (kt1:PySem.W.kitOne K (.ref c_TooLong) (.type "ValueError")=some true)
  (kt2:PySem.W.kitOne K (.ref c_TooLong) (.ref c_TooMany)=some false)
  (kt3:PySem.W.kitOne K (.ref c_TooLong) (.ref c_TooLong)=some true)
  (kt4:PySem.W.kitOne K (.ref c_TooLong) (.ref c_NoTable)=some false)
  : ∃fd:FuncData,(∀(s:Shared) (v:Value),BindsTo s fd ⟨[v],[]⟩ [("_law_script",v)])∧∀base:Heap,K.In base→base.Ns mainGlobals mg→nV l.prog w K mg base tH 8 fa fd ["_law_script"] (Ep K (Bj 63)):=by
 have T:Txt mg:=⟨PySem.W.mg_none_of X G z0,PySem.W.mg_none_of X G z1,PySem.W.mg_none_of X G z2,PySem.W.mg_none_of X G z3,PySem.W.mg_none_of X G z4,PySem.W.mg_none_of X G z5,PySem.W.mg_none_of X G z6,PySem.W.mg_none_of X G z7,PySem.W.mg_none_of X G z8,PySem.W.mg_none_of X G z9,PySem.W.mg_none_of X G z10,PySem.W.mg_none_of X G z11,PySem.W.mg_none_of X G z12⟩
 have TC:Tc K w ⟨c_Open,c_NoTurning,c_NotIn,c_NoText,c_NoFan,c_Full,c_TooMany,c_TooLong,c_NoTable,c_FanError,t_MOST_LETTERS⟩:=⟨g_MOST_LETTERS,n_Open,n_NoTurning,n_NotIn,n_NoText,n_NoFan,n_Full,n_TooMany,n_TooLong,n_NoTable,n_FanError,e_TooLong,o1_TooLong,o2_TooLong,o3_TooLong,o4_TooLong,o5_TooLong,o6_TooLong,o7_TooLong,o8_TooLong,u1_TooLong_FanError,u2_TooLong_FanError,u3_TooLong_FanError,u4_TooLong_FanError,kt0,kt1,kt2,kt3,kt4⟩
 obtain⟨dl,FL,bl⟩:=D37.Mm X G hfa fun _ _ _ _ _ _ _=>rfl
 refine⟨dl,bl,fun base _ _=>?_⟩
 have F1:Df K mg _ c5 ["p","q"]:=⟨D1.get X G fun _ _ _ _ _ _=>vK fun _ _=>rfl⟩
 have k_differ_in_sign:=nq (P:=l.prog) (w:=w) (base:=base) F1
 have F2:Df K mg _ eF ["one"]:=⟨D2.get X G fun _ _ _ _ _ _=>AO fun _=>rfl⟩
 have k_first_letter:=pB (P:=l.prog) (w:=w) (base:=base) F2 T k_differ_in_sign
 have F3:Df K mg _ kS ["letter","one"]:=⟨D3.get X G fun _ _ _ _ _ _=>vK fun _ _=>rfl⟩
 have k_without:=yT (P:=l.prog) (w:=w) (base:=base) F3
 have F4:Df K mg _ fD ["one","most"]:=⟨D4.get X G fun _ _ _ _ _ _=>vK fun _ _=>rfl⟩
 have kx_word_within:=o8 (P:=l.prog) (w:=w) (base:=base) F4 T TC k_first_letter k_without
 have F5:Df K mg _ kN ["one"]:=⟨D5.get X G fun _ _ _ _ _ _=>AO fun _=>rfl⟩
 have kx_word_of:=x3 (P:=l.prog) (w:=w) (base:=base) F5 TC kx_word_within
 have F6:Df K mg _ jc ["halves","thirds","first"]:=⟨D6.get X G fun _ _ _ _ _ _=>Hi fun _ _ _=>rfl⟩
 have k_met_from:=wj (P:=l.prog) (w:=w) (base:=base) F6 T
 have F7:Df K mg _ cO ["halves","thirds","met"]:=⟨D7.get X G fun _ _ _ _ _ _=>Hi fun _ _ _=>rfl⟩
 have k_renumbered:=sa (P:=l.prog) (w:=w) (base:=base) F7 T
 have F8:Df K mg _ gP ["halves","thirds"]:=⟨D8.get X G fun _ _ _ _ _ _=>vK fun _ _=>rfl⟩
 have k_lead_back:=u2 (P:=l.prog) (w:=w) (base:=base) F8 T
 have F9:Df K mg _ iR ["halves","thirds","first"]:=⟨D9.get X G fun _ _ _ _ _ _=>Hi fun _ _ _=>rfl⟩
 have k_numbered:=wR (P:=l.prog) (w:=w) (base:=base) F9 T k_lead_back k_met_from k_renumbered
 have F10:Df K mg _ eh ["table","place","letter"]:=⟨D10.get X G fun _ _ _ _ _ _=>Hi fun _ _ _=>rfl⟩
 have k_place_behind:=pw (P:=l.prog) (w:=w) (base:=base) F10
 have F11:KC K mg _ fB ["table","word","first"] 0:=⟨D11.get X G fun _ _ _ _ _ _ _ _ _ _ q s us KX hl=>vK (P:=fun us=>BindsTo s _ ⟨us,[]⟩ (List.zip ["table","word","first"] (us ++ _))) (fun _ _=>PySem.W.binds_K KX rfl q rfl rfl rfl) us (by simpa using hl)⟩
 have k_place_along:=q0 (P:=l.prog) (w:=w) (base:=base) F11 k_place_behind
 have F12:Df K mg _ jj ["table","one"]:=⟨D12.get X G fun _ _ _ _ _ _=>vK fun _ _=>rfl⟩
 have kx_place_of:=vp (P:=l.prog) (w:=w) (base:=base) F12 k_place_along kx_word_of
 have F13:Df K mg _ mY ["table","one"]:=⟨D13.get X G fun _ _ _ _ _ _=>vK fun _ _=>rfl⟩
 have kx_turned:=yP (P:=l.prog) (w:=w) (base:=base) F13 k_numbered kx_place_of
 have F14:Df K mg _ fz ["_law_script","_law_k"]:=⟨D14.get X G fun _ _ _ _ _ _=>vK fun _ _=>rfl⟩
 have k_law_cell_at:=qi (P:=l.prog) (w:=w) (base:=base) F14 T
 have F15:Df K mg _ kA ["_law_script","_law_at"]:=⟨D15.get X G fun _ _ _ _ _ _=>vK fun _ _=>rfl⟩
 have k_law_big:=yu (P:=l.prog) (w:=w) (base:=base) F15 T k_law_cell_at
 have F16:Df K mg _ g9 ["_law_rest","_law_many"]:=⟨D16.get X G fun _ _ _ _ _ _=>vK fun _ _=>rfl⟩
 have k_law_digit:=uJ (P:=l.prog) (w:=w) (base:=base) F16
 have F17:Df K mg _ dM ["_law_rest","_law_many"]:=⟨D17.get X G fun _ _ _ _ _ _=>vK fun _ _=>rfl⟩
 have k_law_fractions:=nG (P:=l.prog) (w:=w) (base:=base) F17 T k_law_digit
 have F18:Df K mg _ fR ["_law_rest","_law_many"]:=⟨D18.get X G fun _ _ _ _ _ _=>vK fun _ _=>rfl⟩
 have k_law_marks:=ur (P:=l.prog) (w:=w) (base:=base) F18 T k_law_digit
 have F19:Df K mg _ kB ["_law_rest","_law_most","_law_great_here"]:=⟨D19.get X G fun _ _ _ _ _ _=>Hi fun _ _ _=>rfl⟩
 have k_law_fan:=yX (P:=l.prog) (w:=w) (base:=base) F19 k_law_digit k_law_fractions k_law_marks
 have F20:Df K mg _ gZ ["_law_fractions_here"]:=⟨D20.get X G fun _ _ _ _ _ _=>AO fun _=>rfl⟩
 have k_law_tiles:=vI (P:=l.prog) (w:=w) (base:=base) F20 T
 have F21:Df K mg _ gw ["_law_fractions_here"]:=⟨D21.get X G fun _ _ _ _ _ _=>AO fun _=>rfl⟩
 have k_law_gaps:=xV (P:=l.prog) (w:=w) (base:=base) F21 T
 have F22:Df K mg _ gU ["_law_fan_here"]:=⟨D22.get X G fun _ _ _ _ _ _=>AO fun _=>rfl⟩
 have k_law_links:=vg (P:=l.prog) (w:=w) (base:=base) F22 T k_law_gaps k_law_tiles
 have F23:Df K mg _ e7 ["_law_halves","_law_thirds","_law_first"]:=⟨D23.get X G fun _ _ _ _ _ _=>Hi fun _ _ _=>rfl⟩
 have k_law_anew:=xI (P:=l.prog) (w:=w) (base:=base) F23 T
 have F24:Df K mg _ g8 ["_law_fan_here"]:=⟨D24.get X G fun _ _ _ _ _ _=>AO fun _=>rfl⟩
 have k_law_table:=uA (P:=l.prog) (w:=w) (base:=base) F24 k_law_anew k_law_links
 have F25:Df K mg _ hV ["_law_thing"]:=⟨D25.get X G fun _ _ _ _ _ _=>AO fun _=>rfl⟩
 have k_law_whole:=uN (P:=l.prog) (w:=w) (base:=base) F25 T
 have F26:Df K mg _ cH ["_law_found","_law_due"]:=⟨D26.get X G fun _ _ _ _ _ _=>vK fun _ _=>rfl⟩
 have k_law_are_places:=mr (P:=l.prog) (w:=w) (base:=base) F26 T k_law_whole
 have F27:Df K mg _ fQ ["_law_one","_law_other"]:=⟨D27.get X G fun _ _ _ _ _ _=>vK fun _ _=>rfl⟩
 have k_law_times:=ud (P:=l.prog) (w:=w) (base:=base) F27 T
 have F28:Df K mg _ fE ["_law_word_here"]:=⟨D28.get X G fun _ _ _ _ _ _=>AO fun _=>rfl⟩
 have k_law_turning:=rH (P:=l.prog) (w:=w) (base:=base) F28 k_law_times
 have F29:Df K mg _ kI ["_law_table_here","_law_place","_law_word_here"]:=⟨D29.get X G fun _ _ _ _ _ _=>Hi fun _ _ _=>rfl⟩
 have k_law_led:=yn (P:=l.prog) (w:=w) (base:=base) F29
 have F30:Df K mg _ fG ["_law_word_here"]:=⟨D30.get X G fun _ _ _ _ _ _=>AO fun _=>rfl⟩
 have k_law_shorter:=qg (P:=l.prog) (w:=w) (base:=base) F30
 have F31:Df K mg _ fI ["_law_one"]:=⟨D31.get X G fun _ _ _ _ _ _=>AO fun _=>rfl⟩
 have k_law_word_of:=qz (P:=l.prog) (w:=w) (base:=base) F31 T k_law_shorter
 have F32:Df K mg _ fA ["_law_e"]:=⟨D32.get X G fun _ _ _ _ _ _=>AO fun _=>rfl⟩
 have kh_law_refusal:=pj (P:=l.prog) (w:=w) (base:=base) F32 T TC
 have F33:Df K mg _ gJ ["_law_rest","_law_most"]:=⟨D33.get X G fun _ _ _ _ _ _=>vK fun _ _=>rfl⟩
 have k_law_long:=xo (P:=l.prog) (w:=w) (base:=base) F33 T k_law_digit k_law_turning
 have F34:Df K mg _ ji ["_law_rest","_law_most"]:=⟨D34.get X G fun _ _ _ _ _ _=>vK fun _ _=>rfl⟩
 have k_law_word:=xw (P:=l.prog) (w:=w) (base:=base) F34 T k_law_digit
 have F35:Df K mg _ fK ["_law_rest"]:=⟨D35.get X G fun _ _ _ _ _ _=>AO fun _=>rfl⟩
 have k_law_great:=vD (P:=l.prog) (w:=w) (base:=base) F35 T k_law_digit
 have F36:Df K mg _ jk ["_law_table_here","_law_one"]:=⟨D36.get X G fun _ _ _ _ _ _=>vK fun _ _=>rfl⟩
 have k_law_told:=xQ (P:=l.prog) (w:=w) (base:=base) F36 TC kx_turned kh_law_refusal
 exact Iv FL T k_law_anew k_law_are_places k_law_big k_law_digit k_law_fan k_law_great k_law_led k_law_long k_law_table k_law_told k_law_turning k_law_word k_law_word_of
end KR
namespace PySem.W.Fast
theorem tw12973633282554635432:True:=trivial
theorem tw14717907484829801390:True:=trivial
theorem tw7259616676097375764:True:=trivial
theorem tw13261080465445664689:True:=trivial
theorem tw513117670727462811:True:=trivial
theorem tw9416243036338985555:True:=trivial
theorem tw6548605284221512167:True:=trivial
theorem tw3479156862694193481:True:=trivial
theorem tw18042228260427676911:True:=trivial
theorem tw1399527684955785816:True:=trivial
theorem tw8668068306078098579:True:=trivial
theorem tw10268523114848893009:True:=trivial
theorem tw5356581081608176903:True:=trivial
theorem tw1443064304325118618:True:=trivial
theorem tw12305139293360866464:True:=trivial
theorem tw1077986927835850449:True:=trivial
theorem tw11659073222923114543:True:=trivial
theorem tw7668301921735601722:True:=trivial
theorem tw2864339915337861902:True:=trivial
theorem tw16403482332987781172:True:=trivial
theorem tw13075541065935945936:True:=trivial
theorem tw18021629279978661963:True:=trivial
theorem tw10872276195764962993:True:=trivial
theorem tw15925625989309546339:True:=trivial
theorem tw6520599509726221640:True:=trivial
theorem tw8986120622034828226:True:=trivial
theorem tw17121255323531701038:True:=trivial
theorem tw16990495149995137998:True:=trivial
theorem tw17445908489936382971:True:=trivial
theorem tw5928435249751894266:True:=trivial
theorem tw2704699459861636483:True:=trivial
theorem tw3031726813242751286:True:=trivial
theorem tw17143278797687489904:True:=trivial
theorem tw6177056370367711919:True:=trivial
theorem tw16324880357475475141:True:=trivial
theorem tw15964447433473798531:True:=trivial
theorem tw6448287028402258620:True:=trivial
theorem tw8712266683602269247:True:=trivial
theorem tw3436605455564973156:True:=trivial
theorem tw16305215099616484854:True:=trivial
theorem tw4418924856161088331:True:=trivial
theorem tw5768295187855565277:True:=trivial
theorem tw11753105325371587987:True:=trivial
theorem tw5044247350978283823:True:=trivial
theorem tw17488567533149959050:True:=trivial
theorem tw18350238287879812866:True:=trivial
theorem tw3483974189598511280:True:=trivial
theorem tw16859084848790599599:True:=trivial
theorem tw5168576702587179997:True:=trivial
theorem tw12550748556932339505:True:=trivial
theorem tw18195467993408871587:True:=trivial
theorem tw10700037406605040702:True:=trivial
theorem tw5661361862693635222:True:=trivial
theorem tw10738211239310394856:True:=trivial
theorem tw10052295897785994608:True:=trivial
theorem tw2000409375023968805:True:=trivial
theorem tw3307407953770625016:True:=trivial
theorem tw5735208262673126211:True:=trivial
theorem tw3261407196592290034:True:=trivial
theorem tw11700040694034452697:True:=trivial
theorem tw16859196150623104846:True:=trivial
theorem tw7498867267580978243:True:=trivial
theorem tw16494409666598289638:True:=trivial
theorem tw14988306795653512821:True:=trivial
theorem tw4539648839427534122:True:=trivial
theorem tw8095023004853185937:True:=trivial
theorem tw5250125387916367263:True:=trivial
theorem tw1065908813391905975:True:=trivial
theorem tw8651565066894383881:True:=trivial
theorem tw5771204531246563166:True:=trivial
theorem tw13653009897453905016:True:=trivial
theorem tw13776041016833298181:True:=trivial
theorem tw5854989381017177909:True:=trivial
theorem tw577640757276793314:True:=trivial
theorem tw11348922399892471027:True:=trivial
theorem tw14918791517149920737:True:=trivial
theorem tw3907358694718215089:True:=trivial
theorem tw14667907937875370862:True:=trivial
theorem tw6150229908306827097:True:=trivial
theorem tw17796828746132253365:True:=trivial
theorem tw12505528266081792780:True:=trivial
theorem tw12085187177419609784:True:=trivial
theorem tw17648916044903452042:True:=trivial
theorem tw17093124092273571274:True:=trivial
theorem tw5044238766632765908:True:=trivial
theorem tw11598644668160503918:True:=trivial
theorem tw8926245393458067538:True:=trivial
theorem tw18018791653946289290:True:=trivial
theorem tw8550335561343260975:True:=trivial
theorem tw15980172261381220008:True:=trivial
theorem tw231577003948053632:True:=trivial
theorem tw16101218178094521647:True:=trivial
theorem tw18273655810289595627:True:=trivial
theorem tw13857397750990249482:True:=trivial
theorem tw10240530753729678765:True:=trivial
theorem tw15253728713629800390:True:=trivial
theorem tw8492905333575962095:True:=trivial
theorem tw14460599771407233336:True:=trivial
theorem tw2923683400588252964:True:=trivial
theorem tw8159561614330445647:True:=trivial
theorem tw13692172948506618297:True:=trivial
theorem tw7274088827179516926:True:=trivial
theorem tw5546484724145000548:True:=trivial
theorem tw6614461643215718178:True:=trivial
theorem tw7055594887726761593:True:=trivial
theorem tw9091945411638351808:True:=trivial
end PySem.W.Fast
open PySem PySem.W PyProof.Rows
set_option maxRecDepth 100000 in
set_option maxHeartbeats 0 in
theorem PySem.Challenge.cw_fanglue_k44_turned_holds : PySem.Challenge.rw_fanglue_k44_turned.Holds := by
 w_on;o_law;k_head;(case hw=>w_witness2)
 k_fill
 refine L2.Em (l:=PySem.Challenge.rw_fanglue_k44_turned) (n:=63) (k:=8) (x:="_law_script") (CX:=fun _=>L2.tH) (sp:=fun w=>L2.L3.Ep _ (L2.L3.Bj 63)) rfl (by decide) rfl ⟨rfl,by decide,by decide⟩ (fun w h Y=>PySem.W.kIn_of Y) ?F (fun _ _ a ns hl _ hS=>L2.L3.GV hl hS) (fun _ _ _ _ _ z=>z)
 case F =>
  intro w mg fa h KX G hmg
  refine' KR.all_mk KX G hmg ?_ ?_ ?_ ?_ ?_ ?_ ?_ ?_ ?_ ?_ ?_ ?_ ?_ ?_ ?_ ?_ ?_ ?_ ?_ ?_ ?_ ?_ ?_ ?_ ?_ ?_ ?_ ?_ ?_ ?_ ?_ ?_ ?_ ?_ ?_ ?_ ?_ ?_ ?_ ?_ ?_ ?_ ?_ ?_ ?_ ?_ ?_ ?_ ?_ ?_ ?_ ?_ ?_ ?_ ?_ ?_ ?_ ?_ ?_ ?_ ?_ ?_ ?_ ?_ ?_ ?_ ?_ ?_ ?_ ?_ ?_ ?_ ?_ ?_ ?_ ?_ ?_ ?_ ?_
  rotate_left 11
  iterate 36 exact⟨⟨_,_,_,_,_,_,_,_,_,_,by k_is,by k_is,by k_is,by k_is⟩⟩
  exact⟨⟨_,_,_,_,_,_,_,_,_,_,_,_,_,_,by k_is,by k_is,by k_is,by k_is,by k_is⟩⟩
  iterate 13 k_is
  iterate 11 (k_is)
  k_exc
  iterate 12 (k_is)
  iterate 5 (kit_is)
