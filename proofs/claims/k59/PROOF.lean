import PyProof.Rows.All
import Wide.All
import OpenK.AllK
import Wide.FinOn
import Lean
import PyProof.EqAt
import PyProof.EqKinds
import PyProof.TupleCall
import PyProof.NeKinds
import PyProof.CompFree
import KE.KIsAll
import OpenK.KOwn
import PyProof.RulesAs
import KE.RegKIsAll
import PyProof.ExcAttrAll.ValueError
import KE.KUnpack
import PyProof.Rows.StrWeight2
import PyProof.StrBlockI
import OpenK.KTop
import PyProof.ListStr
import PyProof.EnumMake
import PyProof.TupleIter
import PyProof.ListRange
import PyProof.PassesOwn
import PyProof.ExcInit
import PyProof.InstStoreFacts
import PyProof.DictFindH
import PyProof.DictIter
import PyProof.DictWalks
import PyProof.DictCompW
import PyProof.DictUpdate
import PyProof.SumWalk
import PyProof.ZipIter
import PySem.Challenge.RW_fanglue_k59_ends_too_far
set_option Elab.async false
set_option linter.all false
set_option maxRecDepth 100000
section
open PySem PySem.Spec PyProof.Rows
abbrev KJ := @wpAny_bind
abbrev KL := @List.getElem?_eq_some_iff
abbrev KN := @List.getElem?_set_ne
abbrev KO := @wpAny_pure
abbrev KP := @List.getElem?_eq_getElem
abbrev KQ := @if_neg
abbrev KR := @Bool.false_eq_true
abbrev KS := @if_pos
abbrev KU := @List.getElem?_map
abbrev KW := @List.getElem?_set_self
abbrev KY := @Heap.get?_push_of_some
abbrev KZ := @List.length_map
abbrev K0 := @Nat.le_refl
abbrev K2 := @Nat.lt_of_lt_of_le
abbrev K3 := @Option.some.inj
abbrev K4 := @List.mem_cons_of_mem
abbrev K5 := @List.size_toArray
abbrev K6 := @List.mem_of_getElem?
abbrev K7 := @List.getElem?_eq_none
abbrev K8 := @Heap.lt_size
abbrev K9 := @List.mem_cons_self
abbrev La := @Heap.get?_push_size
abbrev Lb := @List.getElem?_append_left
abbrev Lc := @List.getElem?_append_right
abbrev Ld := @List.mem_cons
abbrev Le := @List.mem_singleton
abbrev Lf := @List.mem_append
abbrev Lg := @Nat.lt_succ_iff_lt_or_eq
abbrev Lh := @List.length_append
abbrev Li := @wpAny_mono
abbrev Lj := @Nat.ne_of_lt
abbrev Lk := @List.getElem?_replicate
abbrev Ll := @List.map_cons
abbrev Lm := @List.not_mem_nil
abbrev Ln := @List.getElem?_of_mem
abbrev Lp := @Nat.zero_le
abbrev Lq := @List.concat_eq_append
abbrev Lr := @List.eq_nil_or_concat
abbrev Ls := @List.mem_map
abbrev Lu := @List.append_nil
abbrev Lv := @List.getD_eq_getElem?_getD
abbrev Lw := @List.getElem?_range
abbrev Lx := @Array.getElem?_eq_some_iff
abbrev Ly := @List.drop_eq_nil_of_le
abbrev Lz := @Option.map_eq_some_iff
abbrev LA := @Nat.le_trans
abbrev LB := @List.take_of_length_le
abbrev LC := @List.nodup_cons
abbrev LD := @List.mem_range
abbrev LF := @Nat.not_lt_zero
abbrev LG := @Nat.lt_or_ge
abbrev LH := @PySem.W.mg_of
abbrev LI := @List.getElem_mem
abbrev LJ := @List.take_succ
abbrev LK := @Calls.spliced_cons
abbrev LL := @List.drop_eq_getElem_cons
abbrev LM := @Int.eq_ofNat_of_zero_le
abbrev LN := @List.nodup_append
abbrev LO := @List.getLast?_concat
abbrev LP := @Int.toNat_of_nonneg
end
namespace L2
open PySem PySem.Spec PyProof.Rows
abbrev Key:=Sum Int Str
def yY:Key→Value→Bool
 | .inl k,v=>Value.isInt k v
 | .inr x,v=>Value.isStrOf x v
def JC (w:World):Key→Int
 | .inl k=>hashInt k
 | .inr x=>hashStr w x
theorem cp:∀{k:Key} {v:Value},yY k v=true→(∃i t,k=Sum.inl i∧v=Value.int i t)∨(∃x t,k=Sum.inr x∧v=Value.str x t)
 | .inl i,v,h=>by
  obtain⟨t,e⟩:=Value.isInt_shape (k:=i) (v:=v) h
  exact .inl ⟨i,t,rfl,e⟩
 | .inr x,v,h=>by
  obtain⟨t,e⟩:=Value.isStrOf_shape (x:=x) (v:=v) h
  exact .inr ⟨x,t,rfl,e⟩
theorem zS (i:Int) (t:Tok):yY (.inl i) (.int i t)=true:=by simp [yY,Value.isInt]
theorem Fh (a b:Int):decide ((Sum.inl a:Key)=Sum.inl b)=(a == b):=by
 by_cases e:a=b
 ·subst e;simp
 ·have h:¬ (Sum.inl a:Key)=Sum.inl b:=fun q=>e (Sum.inl.inj q)
  rw [decide_eq_false h]
  exact (beq_eq_false_iff_ne.mpr e).symm
theorem FT (a b:Str):decide ((Sum.inr a:Key)=Sum.inr b)=decide (a=b):=by
 by_cases e:a=b
 ·subst e;simp
 ·have h:¬ (Sum.inr a:Key)=Sum.inr b:=fun q=>e (Sum.inr.inj q)
  rw [decide_eq_false h,decide_eq_false e]
theorem GR (a:Int) (b:Str):decide ((Sum.inl a:Key)=Sum.inr b)=false:=decide_eq_false (fun q=>nomatch q)
theorem Gb (a:Str) (b:Int):decide ((Sum.inr a:Key)=Sum.inl b)=false:=decide_eq_false (fun q=>nomatch q)
def sj (prog:Program) (w:World):PySem.KeyKind prog w Key where
 is:=yY
 hash:=JC w
 inj:=fun v a b ha hb=>by
  rcases cp ha with ⟨i,t,rfl,rfl⟩ | ⟨x,t,rfl,rfl⟩
  ·rcases cp hb with ⟨j,u,rfl,e⟩ | ⟨y,u,rfl,e⟩
   ·injection e with e1 _;rw [e1]
   ·exact nomatch e
  ·rcases cp hb with ⟨j,u,rfl,e⟩ | ⟨y,u,rfl,e⟩
   ·exact nomatch e
   ·injection e with e1 _;rw [e1]
 byValue:=fun k v h=>by
  rcases cp h with ⟨i,t,rfl,rfl⟩ | ⟨x,t,rfl,rfl⟩ <;> rfl
 pyHash:=fun hv h=>by
  rcases cp hv with ⟨i,t,rfl,rfl⟩ | ⟨x,t,rfl,rfl⟩
  ·exact wpAny_pyHash_int h
  ·exact wpAny_pyHash_str h
 eqBool:=fun hu hv h=>by
  rcases cp hu with ⟨i,t,rfl,rfl⟩ | ⟨x,t,rfl,rfl⟩
  ·rcases cp hv with ⟨j,u,rfl,rfl⟩ | ⟨y,u,rfl,rfl⟩
   ·rw [Fh] at h;exact wpAny_eqBool_int h
   ·rw [GR] at h;exact SeqAt.EqAt.int_str i t y u _ _ _ _ h
  ·rcases cp hv with ⟨j,u,rfl,rfl⟩ | ⟨y,u,rfl,rfl⟩
   ·rw [Gb] at h;exact SeqAt.EqAt.str_int x t j u _ _ _ _ h
   ·rw [FT] at h;exact wpAny_eqBool_str h
 «strs»:=fun k x t v h=>by
  rcases cp h with ⟨i,u,rfl,e⟩ | ⟨y,u,rfl,e⟩
  ·exact nomatch e
  ·injection e with e1 _
   subst e1
   cases v <;> rfl
end L2
namespace L2
open PySem PySem.Spec PyProof.Rows
inductive V where
 | non | bl (b:Bool) | int (i:Int) | str (x:Str) | byt (b:Array UInt8) | flt (b:UInt64) | ref (a:Addr) | ty (n:String)
 deriving DecidableEq
def RelV:V→Value→Prop
 | .non,u=>u=Value.none
 | .bl b,u=>u=Value.bool b
 | .int i,u=>∃t,u=Value.int i t
 | .str x,u=>∃t,u=Value.str x t
 | .byt b,u=>∃t,u=Value.bytes b t
 | .flt b,u=>∃t,u=Value.float b t
 | .ref a,u=>u=Value.ref a
 | .ty n,u=>u=Value.type n
abbrev Vals:List V→List Value→Prop:=Paired RelV
theorem Vals.length {xs:List V} {us:List Value} (r:Vals xs us):xs.length=us.length:=Paired.length r
theorem Vals.get:∀{xs:List V} {us:List Value} {i:Nat} {x:V},Vals xs us→xs[i]?=some x→∃u,us[i]?=some u∧RelV x u
 | _,_,_,_,.nil,e=>by simp at e
 | _,_,0,_,.cons r _,e=>by simp at e;subst e;exact⟨_,rfl,r⟩
 | _,_,i + 1,x,.cons _ t,e=>by
  obtain⟨u,h1,h2⟩:=Vals.get (i:=i) (x:=x) t (by simpa using e)
  exact⟨u,by simpa using h1,h2⟩
theorem Vals.set {x:V} {u:Value} (r:RelV x u):∀{xs:List V} {us:List Value} (i:Nat),Vals xs us→Vals (xs.set i x) (us.set i u)
 | _,_,_,.nil=>.nil
 | _,_,0,.cons _ t=>.cons r t
 | _,_,i + 1,.cons q t=>.cons q (Vals.set r i t)
theorem Vals.append:∀{xs ys:List V} {us ws:List Value},Vals xs us→Vals ys ws→Vals (xs ++ ys) (us ++ ws)
 | _,_,_,_,.nil,s=>s
 | _,_,_,_,.cons r t,s=>.cons r (Vals.append t s)
theorem Vals.take:∀{xs:List V} {us:List Value} (n:Nat),Vals xs us→Vals (xs.take n) (us.take n)
 | _,_,0,_=>.nil
 | _,_,_ + 1,.nil=>.nil
 | _,_,n + 1,.cons r t=>.cons r (Vals.take n t)
theorem Vals.drop:∀{xs:List V} {us:List Value} (n:Nat),Vals xs us→Vals (xs.drop n) (us.drop n)
 | _,_,0,r=>r
 | _,_,_ + 1,.nil=>.nil
 | _,_,n + 1,.cons _ t=>Vals.drop n t
def Iy:Option V→Option Value→Prop
 | some v,some u=>RelV v u
 | none,none=>True
 | _,_=>False
def KV {κ:Type}:List (κ×V)→List (κ×Value)→Prop:=Paired fun (p:κ×V) (q:κ×Value)=>p.1=q.1∧RelV p.2 q.2
def kV:Key→V
 | .inl i=>.int i
 | .inr x=>.str x
inductive HO where
 | lst (xs:List V)
 | tup (xs:List V)
 | dK (kvs:List (Key×V)) | dT (kvs:List (List Key×V))
 | set (S:Int→Bool) (n:Nat)
 | ins (C dx:Addr) (fs:List (Str×V))
 | own (x:Addr)
 | xd (fs:List (Str×V))
 | met (f x:Addr)
 | rng (lo hi:Int)
 | frz (o:Obj) (u:HO)
 | tbl (ps:Array Value)
 | ext (φ:Heap→Prop)
abbrev Hp:=Addr→Option HO
def upd (H:Hp) (a:Addr) (o:HO):Hp:=fun b=>if b=a then some o else H b
theorem aI {H:Hp} {a:Addr} {o:HO}:upd H a o a=some o:=by unfold upd;rw [KS rfl]
theorem aH {H:Hp} {a b:Addr} {o:HO} (h:b≠a):upd H a o b=H b:=by unfold upd;rw [KQ h]
theorem bZ {H:Hp} {a b:Addr} {o:HO} (h:H a=some o) (h':H b=none):a≠b:=by
 intro e;subst e;rw [h] at h';cases h'
def uk (h:Heap) (a:Addr) (its:Array Value):Prop:=∃o,h.get? a=some o∧o.cls=.type "tuple"∧(∃n,o.data=.seq its n)∧o.dict=none
theorem uk.tup {h:Heap} {a:Addr} {its:Array Value} (x:uk h a its):IsTup h a its:=let ⟨o,e,c,d,_⟩:=x;⟨o,e,c,d⟩
theorem uk.new (h:Heap) (its:Array Value):uk (h.push { cls:=.type "tuple",data:=.seq its }) h.objs.size its:=⟨_,La _ rfl,rfl,⟨_,rfl⟩,rfl⟩
section
variable (P:Program) (w:World)
def cE (H:Hp) (h:Heap) (a:Addr):HO→Prop
 | .lst xs=>xs.length≤sizeLine∧∃(its:List Value) (n:Nat),Vals xs its∧h.get? a=some { cls:=.type "list",data:=.seq its.toArray n }
 | .tup xs=>xs.length≤sizeLine∧∃its:List Value,Vals xs its∧uk h a its.toArray
 | .dK kvs=>kvs.length≤sizeLine∧(a == sysModules)=false∧∃vs,KV kvs vs∧h.DictOf (sj P w) a vs
 | .dT kvs=>kvs.length≤sizeLine∧(a == sysModules)=false∧∃xs:List (List Key×Addr×Value),
   Paired (fun (p:List Key×V) (q:List Key×Addr×Value)=>p.1=q.1∧H q.2.1=some (.tup (p.1.map kV))∧RelV p.2 q.2.2) kvs xs ∧
   ∃o es ep,h.get? a=some o∧o.ExactDict∧o.data=.dict es ep∧es.toList=xs.map (entryOfKey (tupleKind (sj P w)))∧(xs.map (·.1)).Nodup
 | .set S n=>h.SetOf (intKind P w) a S n
 | .ins C dx fs=>H dx=some (.own a)∧fs.length≤1000∧dx≠a∧h.get? a=some (PySem.W.instObj C dx) ∧
   ∃mA,h.Ns1 dx mA∧(∀f,Iy (fs.lookup f) (mA f))∧PySem.Within mA (fs.map (·.1))
 | .own _=>∃o,h.get? a=some o
 | .xd fs=>∃mA,h.Ns1 a mA∧∀f,Iy (fs.lookup f) (mA f)
 | .rng lo hi=>∃t u v,h.get? a=some { cls:=.type "range",data:=.fields #[.int lo t,.int hi u,.int 1 v] }
 | .frz o u=>h.get? a=some o∧cE H h a u
 | .tbl ps=>h.get? a=some { cls:=.none,data:=.fields ps }
 | .met f x=>h.get? a=some (PySem.W.methodObj (.ref f) (.ref x))
 | .ext φ=>φ h∧(∃o,h.get? a=some o)∧∀h1 h2:Heap,φ h1→(∀o,h1.get? a=some o→h2.get? a=some o)→φ h2
def mF (H:Hp) (h:Heap):Prop:=∀a o,H a=some o→cE P w H h a o
end
section
variable {P:Program} {w:World} {H H':Hp} {h h':Heap} {a:Addr} {o:HO}
theorem cE.lt (x:cE P w H h a o):a < h.objs.size:=by
 cases o with
 | lst xs=>obtain⟨_,_,_,_,e⟩:=x;exact K8 e
 | tup xs=>obtain⟨_,_,_,p⟩:=x;exact p.tup.lt
 | dK kvs=>obtain⟨_,_,_,_,o,_,_,e,_⟩:=x;exact K8 e
 | dT kvs=>obtain⟨_,_,_,_,o,_,_,e,_⟩:=x;exact K8 e
 | set S n=>obtain⟨o,_,_,_,e,_⟩:=x;exact K8 e
 | ins C dx fs=>obtain⟨_,_,_,e,_⟩:=x;exact K8 e
 | own y=>obtain⟨_,e⟩:=x;exact K8 e
 | xd fs=>obtain⟨_,⟨_,_,_,e,_⟩,_⟩:=x;exact K8 e
 | rng lo hi=>obtain⟨_,_,_,e⟩:=x;exact K8 e
 | frz ob u=>obtain⟨e,_⟩:=x;exact K8 e
 | tbl ps=>exact K8 (show h.get? a=some _ from x)
 | met f y=>exact K8 (show h.get? a=some _ from x)
 | ext φ=>obtain⟨_,⟨_,e⟩,_⟩:=x;exact K8 e
theorem Paired.Ir {α β:Type} {F G:α→β→Prop}:∀{l₁:List α} {l₂:List β},Paired F l₁ l₂→(∀a b,F a b→G a b)→Paired G l₁ l₂
 | _,_,.nil,_=>.nil
 | _,_,.cons r t,f=>.cons (f _ _ r) (Paired.Ir t f)
theorem cE.oS (x:cE P w H h a o) (k:∀b u,(b=a∨H b=some (.own a))→h.get? b=some u→h'.get? b=some u)
  (ho:∀b,H b=some (.own a)→H' b=some (.own a)) (ht:∀b xs,H b=some (.tup xs)→H' b=some (.tup xs)):cE P w H' h' a o:=by
 induction o with
 | lst xs=>obtain⟨z,its,n,r,e⟩:=x;exact⟨z,its,n,r,k _ _ (.inl rfl) e⟩
 | tup xs=>obtain⟨z,its,r,ob,e,c⟩:=x;exact⟨z,its,r,ob,k _ _ (.inl rfl) e,c⟩
 | dK kvs=>obtain⟨z,y,vs,r,ob,es,ep,e,c⟩:=x;exact⟨z,y,vs,r,ob,es,ep,k _ _ (.inl rfl) e,c⟩
 | dT kvs =>
  obtain⟨z,y,xs,r,ob,es,ep,e,c⟩:=x
  exact⟨z,y,xs,Paired.Ir r fun p q z=>⟨z.1,ht _ _ z.2.1,z.2.2⟩,ob,es,ep,k _ _ (.inl rfl) e,c⟩
 | set S n=>obtain⟨ob,es,ep,t,e,c⟩:=x;exact⟨ob,es,ep,t,k _ _ (.inl rfl) e,c⟩
 | ins C dx fs =>
  obtain⟨d,z,ne,e,mA,⟨od,es,ep,e2,c⟩,r⟩:=x
  exact⟨ho _ d,z,ne,k _ _ (.inl rfl) e,mA,⟨od,es,ep,k _ _ (.inr d) e2,c⟩,r⟩
 | own y=>obtain⟨ob,e⟩:=x;exact⟨ob,k _ _ (.inl rfl) e⟩
 | xd fs=>obtain⟨mA,⟨od,es,ep,e,c⟩,r⟩:=x;exact⟨mA,⟨od,es,ep,k _ _ (.inl rfl) e,c⟩,r⟩
 | rng lo hi=>obtain⟨t,u,v,e⟩:=x;exact⟨t,u,v,k _ _ (.inl rfl) e⟩
 | frz ob u ih=>obtain⟨e,q⟩:=x;exact⟨k _ _ (.inl rfl) e,ih q⟩
 | tbl ps =>
  have e:h.get? a=some { cls:=.none,data:=.fields ps }:=x
  show h'.get? a=some { cls:=.none,data:=.fields ps }
  exact k a _ (.inl rfl) e
 | met f y =>
  have e:h.get? a=some (PySem.W.methodObj (.ref f) (.ref y)):=x
  show h'.get? a=some (PySem.W.methodObj (.ref f) (.ref y))
  exact k a _ (.inl rfl) e
 | ext φ=>obtain⟨p,⟨o,e⟩,st⟩:=x;exact⟨st _ _ p fun o q=>k _ _ (.inl rfl) q,⟨o,k _ _ (.inl rfl) e⟩,st⟩
theorem mF.lt (x:mF P w H h) (e:H a=some o):a < h.objs.size:=(x a o e).lt
theorem mF.fresh (x:mF P w H h) (e:h.objs.size≤a):H a=none:=by
 cases q:H a with
 | none=>rfl
 | some u=>exact absurd (K2 (x.lt q) e) (Nat.lt_irrefl _)
theorem mF.kept (x:mF P w H h) (k:∀b u,h.get? b=some u→h'.get? b=some u):mF P w H h':=fun a o e =>
 (x a o e).oS (fun b u _ q=>k b u q) (fun _ q=>q) fun _ _ q=>q
theorem mF.laid (x:mF P w H h) (k:∀b u,h.get? b=some u→h'.get? b=some u) (hp:h.objs.size≤a) (new:cE P w (upd H a o) h' a o):mF P w (upd H a o) h':=fun b u e=>by
 have hn:=x.fresh hp
 by_cases hb:b=a
 ·subst hb;rw [aI] at e;cases e;exact new
 ·rw [aH hb] at e
  exact (x b u e).oS (fun c v _ q=>k c v q) (fun c q=>by rw [aH (bZ q hn)];exact q) fun c xs q=>by rw [aH (bZ q hn)];exact q
end
def Rd (H:Hp) (a:Addr) (u:HO):Prop:=H a=some u∨∃o,H a=some (.frz o u)
theorem Rd.ok {P:Program} {w:World} {H:Hp} {h:Heap} {a:Addr} {u:HO} (r:Rd H a u) (x:mF P w H h):cE P w H h a u:=by
 rcases r with r | ⟨o,r⟩
 ·exact x a u r
 ·obtain⟨_,q⟩:=x a _ r
  exact q
def HI:Option HO→Prop
 | some (.lst _)=>True
 | some (.dK _)=>True
 | some (.dT _)=>True
 | some (.set _ _)=>True
 | some (.ins _ _ _)=>True
 | some (.ext _)=>True
 | _=>False
section
variable {P:Program} {w:World} {H:Hp} {h h':Heap} {x e:Addr} {o':HO}
theorem mF.write (ok:mF P w H h) (mu:HI (H x)) (he:e=x∨H e=some (.own x)) (k:∀b u,b≠e→h.get? b=some u→h'.get? b=some u) (heo:∃u,h'.get? e=some u)
  (new:cE P w (upd H x o') h' x o'):mF P w (upd H x o') h':=fun b u q=>by
 have nown:∀c y,H c=some (.own y)→c≠x:=fun c y r z=>by subst z;rw [r] at mu;exact mu
 have ntup:∀c xs,H c=some (.tup xs)→c≠x:=fun c xs r z=>by subst z;rw [r] at mu;exact mu
 by_cases hb:b=x
 ·subst hb;rw [aI] at q;cases q;exact new
 ·rw [aH hb] at q
  by_cases hbe:b=e
  ·have q':H b=some (.own x):=by
    rcases he with z | z
    ·exact absurd (hbe.trans z) hb
    ·rw [hbe];exact z
   rw [q] at q';cases q'
   obtain⟨v,hv⟩:=heo
   exact⟨v,by rw [hbe];exact hv⟩
  ·refine (ok b u q).oS (fun c v hc r=>k c v ?_ r) (fun c r=>by rw [aH (nown c b r)];exact r) fun c xs r=>by rw [aH (ntup c xs r)];exact r
   rcases hc with rfl | hc
   ·exact hbe
   ·rintro rfl
    rcases he with z | z
    ·exact nown c b hc z
    ·rw [hc] at z;cases z;exact hb rfl
end
structure Un (fs ex:List Addr) (H H':Hp) (h h':Heap):Prop where
 keep:∀b o,h.get? b=some o→H b=none→b∉fs→b∉ex→h'.get? b=some o
 slot:∀b o,h.get? b=some o→H b=none→b∈fs→b∉ex→∃sl,h'.get? b=some { o with slots:=sl }
 free:∀b o,h.get? b=some o→H b=none→b∉ex→H' b=none
 there:∀b o,h.get? b=some o→b∉ex→∃o',h'.get? b=some o'
 tups:∀b xs,H b=some (.tup xs)→H' b=some (.tup xs)
 frzs:∀b o u,H b=some (.frz o u)→H' b=some (.frz o u)
 tbls:∀b ps,H b=some (.tbl ps)→∃more,H' b=some (.tbl (ps ++ more))
section
variable {fs fs' ex ex':List Addr} {H H1 H2:Hp} {h h1 h2 h':Heap} {a x e:Addr} {o:HO}
theorem Un.any (u:Un fs ex H H1 h h1) {b:Addr} {ob:Obj} (q:h.get? b=some ob) (n:H b=none) (hx:b∉ex):∃sl,h1.get? b=some { ob with slots:=sl }:=by
 by_cases hb:b∈fs
 ·exact u.slot b ob q n hb hx
 ·exact⟨ob.slots,u.keep b ob q n hb hx⟩
theorem Un.kept (k:∀b u,h.get? b=some u→h'.get? b=some u):Un fs ex H H h h' :=
 ⟨fun b ob q _ _ _=>k b ob q,fun b ob q _ _ _=>⟨ob.slots,k b ob q⟩,fun _ _ _ n _=>n,fun b ob q _=>⟨ob,k b ob q⟩,fun _ _ q=>q,fun _ _ _ q=>q,fun _ ps q=>⟨#[],by rw [q];simp⟩⟩
theorem Un.refl:Un fs ex H H h h:=Un.kept fun _ _ q=>q
theorem Un.laid (k:∀b u,h.get? b=some u→h'.get? b=some u) (hp:h.objs.size≤a) (hn:H a=none):Un fs ex H (upd H a o) h h' where
 keep:=fun b u q _ _ _=>k b u q
 slot:=fun b u q _ _ _=>⟨u.slots,k b u q⟩
 free:=fun b u q n _=>by rw [aH (Lj (K2 (K8 q) hp))];exact n
 there:=fun b u q _=>⟨u,k b u q⟩
 tups:=fun b xs q=>by rw [aH (bZ q hn)];exact q
 frzs:=fun b u xs q=>by rw [aH (bZ q hn)];exact q
 tbls:=fun b ps q=>⟨#[],by rw [aH (bZ q hn),q];simp⟩
theorem Un.write (mu:HI (H x)) (he:e=x∨H e=some (.own x)) (k:∀b u,b≠e→h.get? b=some u→h'.get? b=some u) (heo:∃u,h'.get? e=some u):Un fs ex H (upd H x o) h h':=by
 have hx:∀b,H b=none→b≠x:=fun b n z=>by subst z;rw [n] at mu;exact mu
 have hb:∀b,H b=none→b≠e:=fun b n z=>by
  subst z
  rcases he with r | r
  ·exact hx b n r
  ·rw [n] at r;cases r
 have hm:∀b u,H b=some u→¬ HI (some u)→b≠x:=fun b u q nm z=>by subst z;rw [q] at mu;exact nm mu
 refine⟨fun b u q n _ _=>k b u (hb b n) q,fun b u q n _ _=>⟨u.slots,k b u (hb b n) q⟩,fun b u q n _=>by rw [aH (hx b n)];exact n,fun b u q _=>?_,
  fun b xs q=>by rw [aH (hm b _ q fun z=>z)];exact q,fun b u xs q=>by rw [aH (hm b _ q fun z=>z)];exact q,fun b ps q=>⟨#[],by rw [aH (hm b _ q fun z=>z),q];simp⟩⟩
 by_cases hbe:b=e
 ·subst hbe;exact heo
 ·exact⟨u,k b u hbe q⟩
end
def GX (h:Heap) (H:Hp):List Addr:=(List.range h.objs.size).filter fun a=>(H a).isSome
def tm (h:Heap) (H:Hp):Heap:=PySem.W.hideAll h (GX h H)
theorem zq (h:Heap) (H:Hp):(tm h H).objs.size=h.objs.size:=PySem.W.hideAll_size _ _
theorem A1 {h:Heap} {H:Hp} {b:Addr} {o:Obj} (e:h.get? b=some o) (n:H b=none):(tm h H).get? b=some o :=
 PySem.W.hideAll_get _ e fun hm=>by
  have q:(H b).isSome=true:=(List.mem_filter.mp hm).2
  rw [n] at q;simp at q
theorem CL {h:Heap} {H:Hp} {b:Addr} {o:Obj} (e:(tm h H).get? b=some o):h.get? b=some o∧H b=none:=by
 have e':h.get? b=some o:=PySem.W.of_hideAll (GX h H) e
 refine⟨e',?_⟩
 cases q:H b with
 | none=>rfl
 | some x =>
  have hm:b∈GX h H:=List.mem_filter.mpr ⟨LD.mpr (K8 e'),by simp [q]⟩
  have z:(tm h H).get? b=none:=PySem.W.hideAll_none (GX h H) hm
  rw [z] at e;cases e
end L2
namespace L2
open PySem PySem.Spec PyProof.Rows
structure Mod (K:PySem.W.Frag) (mg:Str→Option Value) (base:Heap):Prop where
 kin:K.In base
 glob:base.Ns mainGlobals mg
 blt:∃mb,base.Ns builtinsNs mb∧∀x:Str,x≠"__name__"→mb x=bootBuiltins x
 nolimit:base.NoLimit
structure Cx where
 prog:Program
 w:World
 K:PySem.W.Frag
 mg:Str→Option Value
 base:Heap
 A:Around
 N:List Str
 s₀:Shared
 H₀:Hp
 env:Env
 outer:List Env
 stack:List Env
 ex:List Addr
 fn:Str→Bool
 calm:Bool
 pn:List (Addr×Obj)
 xe:Value→Shared→Prop
def oz (l:List Env):List Addr:=l.filterMap (·.frame)
abbrev Cx.fs (X:Cx):List Addr:=oz X.outer
def rf (sc:Scope) (x:Str):Prop:=sc.names.lookup x=some .local∨sc.names.lookup x=some .cell∨sc.names.lookup x=some .free
def Loc (sc:Scope) (x:Str):Prop:=sc.names.lookup x=some .local∨sc.names.lookup x=some .cell
def Look (env:Env) (h:Heap) (m:Str→Option Value) (x:Str) (u:Value):Prop :=
 (env.kindOf x=some .local∧m x=some u)∨((env.kindOf x=some .cell∨env.kindOf x=some .free)∧∃c,env.cells.lookup x=some c∧h.IsCell c (some u))
structure Cx.Ok (X:Cx):Prop where
 mod:Mod X.K X.mg X.base
 kind:X.env.scope.kind=.function
 glob:X.env.globals=mainGlobals
 blt:X.env.builtins=builtinsNs
 above:X.s₀.heap.objs.size≤X.env.locals
 inj:∀x y c,X.env.cells.lookup x=some c→X.env.cells.lookup y=some c→x=y
 has:∀x,(X.env.kindOf x=some .cell∨X.env.kindOf x=some .free)→∃c,X.env.cells.lookup x=some c
 cab:∀x c,X.fn x=true→X.env.cells.lookup x=some c→X.s₀.heap.objs.size≤c
 hd:X.calm=true→X.A.handled=none
 frames:X.A.frames=some X.stack
 stk:X.stack=X.outer∨(X.stack=X.env :: X.outer∧X.env.frame=some X.env.locals)
 exf:∀b∈X.ex,b≠X.env.locals∧∀x c,X.env.cells.lookup x=some c→c≠b
 bs:∀b o,X.base.get? b=some o→X.s₀.heap.get? b=some o∧X.H₀ b=none
 bsz:X.base.objs.size≤X.s₀.heap.objs.size
 noex:∀b o,X.base.get? b=some o→b∉X.ex
 exfs:∀b∈X.ex,b∉X.fs
 lM:X.s₀.heap.FunFrames X.base X.outer
 frf:∀b∈X.fs,X.H₀ b=none
structure Inv (X:Cx) (pins:List (Addr×Obj)) (σ:List (Option V)) (H:Hp) (s:Shared):Prop where
 ok:X.Ok
 os:s.os=X.s₀.os
 bare:AllBare s.gens
 base:Un X.fs X.ex X.H₀ H X.s₀.heap s.heap
 loc:∃m,s.heap.Ns X.env.locals m∧∀(i:Nat) (x:Str) (v:V),X.N[i]?=some x→σ[i]?=some (some v)→rf X.env.scope x→∃u,RelV v u∧Look X.env s.heap m x u
 cell:∀x c,X.env.cells.lookup x=some c→∃v,s.heap.IsCell c v
 free:H X.env.locals=none
 freeC:∀x c,X.env.cells.lookup x=some c→H c=none
 pin:∀p∈X.pn ++ pins,s.heap.get? p.1=some p.2∧H p.1=none∧p.1≠X.env.locals∧p.1∉X.fs∧∀v,p.2.data≠.cell v
 hok:mF X.prog X.w H s.heap
 len:σ.length=X.N.length
section
variable {X:Cx} {pins:List (Addr×Obj)} {σ:List (Option V)} {H H':Hp} {s:Shared} {h':Heap}
theorem Cx.Ok.JZ (ok:X.Ok) {b:Addr} {o:Obj} (e:X.base.get? b=some o):b∉X.fs:=fun hb=>by
 have:=(ok.lM.mem hb).1
 rw [e] at this;cases this
theorem Inv.bs (I:Inv X pins σ H s):∀b o,X.base.get? b=some o→s.heap.get? b=some o∧H b=none:=fun b o e =>
 ⟨I.base.keep b o (I.ok.bs b o e).1 (I.ok.bs b o e).2 (I.ok.JZ e) (I.ok.noex b o e),I.base.free b o (I.ok.bs b o e).1 (I.ok.bs b o e).2 (I.ok.noex b o e)⟩
theorem Inv.bk (I:Inv X pins σ H s):∀b o,X.base.get? b=some o→s.heap.get? b=some o:=fun b o e=>(I.bs b o e).1
theorem Inv.mod (I:Inv X pins σ H s):Mod X.K X.mg X.base:=I.ok.mod
theorem Inv.yH (I:Inv X pins σ H s):X.K.In s.heap:=I.ok.mod.kin.keeps I.bk
theorem Inv.lt (I:Inv X pins σ H s):X.env.locals < s.heap.objs.size:=let ⟨_,hn,_⟩:=I.loc;hn.lt
theorem Inv.sz (I:Inv X pins σ H s):X.s₀.heap.objs.size≤s.heap.objs.size:=LA I.ok.above (Nat.le_of_lt I.lt)
theorem Inv.JF (I:Inv X pins σ H s) {a:Addr} (h:s.heap.objs.size≤a):a∉X.fs:=fun hb=>by
 obtain⟨_,o,ho,_⟩:=I.ok.lM.mem hb
 exact absurd (K2 (K8 ho) (LA I.sz h)) (Nat.lt_irrefl _)
theorem Inv.Ez (I:Inv X pins σ H s):∀x c,X.env.cells.lookup x=some c→c≠X.env.locals:=fun x c e z=>by
 obtain⟨v,o,ho,hd⟩:=I.cell x c e
 obtain⟨m,⟨o',es,ep,ho',hd',_⟩,_⟩:=I.loc
 rw [z,ho'] at ho;cases ho;rw [hd'] at hd;cases hd
theorem Inv.lM (I:Inv X pins σ H s):s.heap.FunFrames X.base X.outer:=by
 have all:∀(l:List Env),(∀b∈oz l,b∈X.fs)→X.s₀.heap.FunFrames X.base l→s.heap.FunFrames X.base l:=by
  intro l
  induction l with
  | nil=>intro _ _;trivial
  | cons env r ih =>
   intro hs hl
   obtain⟨hk,⟨L,o,hf,hn,ho,hd⟩,hr⟩:=hl
   have hL:L∈X.fs:=hs L (by unfold oz;rw [List.filterMap_cons,hf];exact K9)
   obtain⟨sl,e⟩:=I.base.slot L o ho (I.ok.frf L hL) hL fun z=>I.ok.exfs L z hL
   exact⟨hk,⟨L,_,hf,hn,e,hd⟩,ih (fun b hb=>hs b (by unfold oz;rw [List.filterMap_cons,hf];exact K4 _ hb)) hr⟩
 exact all X.outer (fun _ hb=>hb) I.ok.lM
theorem Inv.stack (I:Inv X pins σ H s):s.heap.FunFrames X.base X.stack:=by
 rcases I.ok.stk with e | ⟨e,hf⟩
 ·rw [e];exact I.lM
 ·rw [e]
  obtain⟨m,hn,_⟩:=I.loc
  refine .cons (by rw [I.ok.kind];decide) hf hn ?_ I.lM
  exact Heap.get?_none_of_le (LA I.ok.bsz I.ok.above)
theorem Inv.pJ (I:Inv X pins σ H s):∀b∈oz X.stack,b∈X.env.locals :: X.fs:=fun b hb=>by
 rcases I.ok.stk with e | ⟨e,hf⟩
 ·rw [e] at hb;exact K4 _ hb
 ·rw [e] at hb
  unfold oz at hb
  rw [List.filterMap_cons,hf] at hb
  exact hb
theorem Inv.t5 (I:Inv X pins σ H s):∀b∈oz X.stack,H b=none:=fun b hb=>by
 rcases Ld.mp (I.pJ b hb) with e | hb
 ·rw [e];exact I.free
 ·obtain⟨_,o,ho,_⟩:=I.ok.lM.mem hb
  exact I.base.free b o ho (I.ok.frf b hb) fun z=>I.ok.exfs b z hb
theorem Inv.step {g':Array GenState} {t':Nat} {d':Drawn} {ch:List Addr} (I:Inv X pins σ H s)
  (hch:∀b∈ch,(b∈X.ex∨X.s₀.heap.objs.size≤b)∧b≠X.env.locals∧(∀x c,X.env.cells.lookup x=some c→c≠b)∧∀p∈X.pn ++ pins,p.1≠b)
  (keep:∀b o,b≠X.env.locals→b∉X.fs→b∉ch→s.heap.get? b=some o→H b=none→h'.get? b=some o)
  (slot:∀b o,b≠X.env.locals→b∈X.fs→b∉ch→s.heap.get? b=some o→H b=none→∃sl,h'.get? b=some { o with slots:=sl }) (free:∀b o,b∉ch→s.heap.get? b=some o→H b=none→H' b=none)
  (there:∀b o,b∉ch→s.heap.get? b=some o→∃o',h'.get? b=some o')
  (tups:∀b xs,H b=some (.tup xs)→H' b=some (.tup xs)) (frzs:∀b o u,H b=some (.frz o u)→H' b=some (.frz o u)) (tbls:∀b ps,H b=some (.tbl ps)→∃more,H' b=some (.tbl (ps ++ more)))
  (ns:∀m,s.heap.Ns X.env.locals m→h'.Ns X.env.locals m) (hok:mF X.prog X.w H' h') (hg:AllBare g') :
  Inv X pins σ H' { s with heap:=h',gens:=g',drawn:=d',toks:=t' }:=by
 have neL:∀b o,X.s₀.heap.get? b=some o→b≠X.env.locals:=fun b o e=>Lj (K2 (K8 e) I.ok.above)
 have neC:∀b o,X.s₀.heap.get? b=some o→b∉X.ex→b∉ch:=fun b o e hx hb=>by
  rcases (hch b hb).1 with z | z
  ·exact hx z
  ·exact absurd (K2 (K8 e) z) (Nat.lt_irrefl _)
 have cellK:∀x c,X.env.cells.lookup x=some c→∀v,s.heap.IsCell c v→h'.IsCell c v:=fun x c e v ⟨o,ho,hd⟩=>by
  have nch:c∉ch:=fun z=>(hch c z).2.2.1 x c e rfl
  by_cases hc:c∈X.fs
  ·obtain⟨sl,q⟩:=slot c o (I.Ez x c e) hc nch ho (I.freeC x c e)
   exact⟨_,q,hd⟩
  ·exact⟨o,keep c o (I.Ez x c e) hc nch ho (I.freeC x c e),hd⟩
 refine⟨I.ok,I.os,hg,⟨fun b o e n hb hx=>?_,fun b o e n hb hx=>?_,fun b o e n hx=>?_,fun b o e hx=>?_,fun b xs e=>tups b xs (I.base.tups b xs e),fun b o xs e=>frzs b o xs (I.base.frzs b o xs e),fun b ps e=>?_⟩,?_,fun x c e=>?_,?_,fun x c e=>?_,fun p hp=>?_,hok,I.len⟩
 ·exact keep b o (neL b o e) hb (neC b o e hx) (I.base.keep b o e n hb hx) (I.base.free b o e n hx)
 ·obtain⟨sl,e1⟩:=I.base.slot b o e n hb hx
  obtain⟨sl',e2⟩:=slot b _ (neL b o e) hb (neC b o e hx) e1 (I.base.free b o e n hx)
  exact⟨sl',e2⟩
 ·obtain⟨o',e1⟩:=I.base.there b o e hx
  exact free b o' (neC b o e hx) e1 (I.base.free b o e n hx)
 ·obtain⟨o',e1⟩:=I.base.there b o e hx
  exact there b o' (neC b o e hx) e1
 ·obtain⟨m1,e1⟩:=I.base.tbls b ps e
  obtain⟨m2,e2⟩:=tbls b _ e1
  exact⟨m1 ++ m2,by rw [e2,Array.append_assoc]⟩
 ·obtain⟨m,hn,hl⟩:=I.loc
  refine⟨m,ns m hn,fun i x v e1 e2 e3=>?_⟩
  obtain⟨u,r,l⟩:=hl i x v e1 e2 e3
  refine⟨u,r,?_⟩
  rcases l with l | ⟨k,c,e,z⟩
  ·exact .inl l
  ·exact .inr ⟨k,c,e,cellK x c e _ z⟩
 ·obtain⟨v,z⟩:=I.cell x c e
  exact⟨v,cellK x c e v z⟩
 ·obtain⟨m,⟨o,_,_,ho,_⟩,_⟩:=I.loc
  exact free _ o (fun z=>(hch _ z).2.1 rfl) ho I.free
 ·obtain⟨v,o,ho,hd⟩:=I.cell x c e
  exact free c o (fun z=>(hch c z).2.2.1 x c e rfl) ho (I.freeC x c e)
 ·obtain⟨e,n,ne,nf,d⟩:=I.pin p hp
  have nch:p.1∉ch:=fun z=>(hch p.1 z).2.2.2 p hp rfl
  exact⟨keep p.1 p.2 ne nf nch e n,free p.1 p.2 nch e n,ne,nf,d⟩
theorem Inv.un {t':Nat} (I:Inv X pins σ H s) (u:Un X.fs [] H H' s.heap h') (hok:mF X.prog X.w H' h'):Inv X pins σ H' { s with heap:=h',toks:=t' }:=by
 obtain⟨m,⟨o,es,ep,ho,r⟩,_⟩:=id I.loc
 obtain⟨sl,hL⟩:=u.any ho I.free (by simp)
 exact I.step (g':=s.gens) (d':=s.drawn) (ch:=[]) (fun _ z=>nomatch z) (fun b o _ hb _ e n=>u.keep b o e n hb (by simp)) (fun b o _ hb _ e n=>u.slot b o e n hb (by simp)) (fun b o _ e n=>u.free b o e n (by simp)) (fun b o _ e=>u.there b o e (by simp)) u.tups u.frzs u.tbls (fun m' hm=>by
  obtain⟨o',es',ep',ho',r'⟩:=hm
  rw [ho] at ho';cases ho'
  exact⟨_,es',ep',hL,r'⟩) hok I.bare
theorem Inv.call {g':Array GenState} {t':Nat} {d':Drawn} {ch:List Addr} (I:Inv X pins σ H s) (u:Un (oz X.stack) ch H H' s.heap h') (hok:mF X.prog X.w H' h') (hg:AllBare g')
  (hch:∀b∈ch,(b∈X.ex∨X.s₀.heap.objs.size≤b)∧b≠X.env.locals∧(∀x c,X.env.cells.lookup x=some c→c≠b)∧∀p∈X.pn ++ pins,p.1≠b) :
  Inv X pins σ H' { s with heap:=h',gens:=g',drawn:=d',toks:=t' }:=by
 obtain⟨m,⟨o,es,ep,ho,r⟩,_⟩:=id I.loc
 obtain⟨sl,hL⟩:=u.any ho I.free fun z=>(hch _ z).2.1 rfl
 exact I.step (ch:=ch) hch (fun b o hL hb hc e n=>u.keep b o e n (fun z=>(Ld.mp (I.pJ b z)).elim hL hb) hc) (fun b o _ _ hc e n=>u.any e n hc) (fun b o hc e n=>u.free b o e n hc) (fun b o hc e=>u.there b o e hc) u.tups u.frzs u.tbls (fun m' hm=>by
  obtain⟨o',es',ep',ho',r'⟩:=hm
  rw [ho] at ho';cases ho'
  exact⟨_,es',ep',hL,r'⟩) hok hg
theorem Inv.turned {t':Nat} {it:Addr} (I:Inv X pins σ H s) (k:∀b o,b≠it→s.heap.get? b=some o→h'.get? b=some o) (hn:H it=none) (hL:it≠X.env.locals)
  (h1:it∈X.ex∨X.s₀.heap.objs.size≤it) (h2:∀x c,X.env.cells.lookup x=some c→c≠it) (h3:∀p∈X.pn ++ pins,p.1≠it):Inv X pins σ H { s with heap:=h',toks:=t' }:=by
 have nit:∀b u,H b=some u→b≠it:=fun b u e z=>by rw [z,hn] at e;cases e
 refine I.step (g':=s.gens) (d':=s.drawn) (ch:=[it]) (fun b hb=>?_) (fun b o _ _ hc e _=>k b o (fun z=>hc (by simp [z])) e) (fun b o _ _ hc e _=>⟨o.slots,k b o (fun z=>hc (by simp [z])) e⟩) (fun _ _ _ _ n=>n)
  (fun b o hc e=>⟨o,k b o (fun z=>hc (by simp [z])) e⟩) (fun _ _ e=>e) (fun _ _ _ e=>e) (fun b ps e=>⟨#[],by rw [e];simp⟩) (fun m hm=>?_) (fun b u e=>?_) I.bare
 ·have e:b=it:=by simpa using hb
  subst e
  exact⟨h1,hL,h2,h3⟩
 ·obtain⟨o,es,ep,ho,r⟩:=hm
  exact⟨o,es,ep,k _ o (Ne.symm hL) ho,r⟩
 ·refine (I.hok b u e).oS (fun c v hc q=>k c v ?_ q) (fun _ q=>q) fun _ _ q=>q
  rcases hc with z | z
  ·rw [z];exact nit b u e
  ·exact nit c _ z
theorem Inv.tok (I:Inv X pins σ H s) (t:Nat):Inv X pins σ H { s with toks:=t }:=I.un (h':=s.heap) (t':=t) Un.refl I.hok
theorem Inv.kept {t':Nat} (I:Inv X pins σ H s) (k:∀b u,s.heap.get? b=some u→h'.get? b=some u):Inv X pins σ H { s with heap:=h',toks:=t' }:=I.un (Un.kept k) (I.hok.kept k)
theorem Inv.laid {a:Addr} {o:HO} {t':Nat} (I:Inv X pins σ H s) (k:∀b u,s.heap.get? b=some u→h'.get? b=some u) (hp:s.heap.objs.size≤a) (new:cE X.prog X.w (upd H a o) h' a o) :
  Inv X pins σ (upd H a o) { s with heap:=h',toks:=t' }:=I.un (Un.laid k hp (I.hok.fresh hp)) (I.hok.laid k hp new)
theorem Inv.write {x e:Addr} {o:HO} {t':Nat} (I:Inv X pins σ H s) (mu:HI (H x)) (he:e=x∨H e=some (.own x)) (k:∀b u,b≠e→s.heap.get? b=some u→h'.get? b=some u) (heo:∃u,h'.get? e=some u)
  (new:cE X.prog X.w (upd H x o) h' x o):Inv X pins σ (upd H x o) { s with heap:=h',toks:=t' }:=I.un (Un.write mu he k heo) (I.hok.write mu he k heo new)
theorem Inv.yD {pins':List (Addr×Obj)} (I:Inv X pins σ H s) (h:∀p∈pins',s.heap.get? p.1=some p.2∧H p.1=none∧p.1≠X.env.locals∧p.1∉X.fs∧∀v,p.2.data≠.cell v):Inv X pins' σ H s :=
 ⟨I.ok,I.os,I.bare,I.base,I.loc,I.cell,I.free,I.freeC,fun p hp=>(Lf.mp hp).elim (fun z=>I.pin p (List.mem_append_left _ z)) (h p),I.hok,I.len⟩
theorem uJ {N:List Str} (hN:N.Nodup) {i j:Nat} {x:Str} (a:N[i]?=some x) (b:N[j]?=some x):i=j:=by
 obtain⟨h1,e1⟩:=KL.mp a
 obtain⟨h2,e2⟩:=KL.mp b
 exact (List.getElem_inj hN).mp (e1.trans e2.symm)
theorem qR {M:Model} {A:Around} {E:Value→Shared→Prop} {i:Nat} {x:Str} {v:V} {u:Value} {Q:Unit→Shared→Prop} (I:Inv X pins σ H s) (hN:X.N.Nodup) (hi:X.N[i]?=some x) (hx:Loc X.env.scope x) (r:RelV v u)
  (h:∀s',Inv X pins (σ.set i (some v)) H s'→(∃a,Heap.SameBut a s.heap s'.heap∧(a=X.env.locals∨X.env.cells.lookup x=some a))→Q () s') (hf:X.fn x=true∨X.env.scope.names.lookup x=some .local:=by first | exact .inl rfl | exact .inr rfl | assumption):wpAny M A (storeName X.env x u) Q E s:=by
 obtain⟨m,hn,hl⟩:=id I.loc
 have hcls:(X.env.scope.kind == .class || (X.env.scope.kind == .module && X.env.locals != X.env.globals))=false:=by rw [I.ok.kind];rfl
 have hiσ:i < σ.length:=by rw [I.len];exact (KL.mp hi).1
 have Ez:=I.Ez
 have tracked:∀{a:Addr} {h':Heap},(∃o,s.heap.get? a=some o∧H a=none)→Heap.SameBut a s.heap h'→mF X.prog X.w H h':=fun {a h'} ha hs b ob e=>by
  obtain⟨_,_,hfree⟩:=ha
  refine (I.hok b ob e).oS (fun c w' hc q=>(hs.2 c ?_).trans q) (fun _ q=>q) fun _ _ q=>q
  rintro rfl
  rcases hc with rfl | hc
  ·rw [hfree] at e;cases e
  ·rw [hfree] at hc;cases hc
 rcases hx with hk | hk
 ·refine wpAny_storeName_local hk hn (fun h' hn' hs=>?_) hcls
  obtain⟨oL,_,_,hoL,_⟩:=id hn
  refine h _ ⟨I.ok,I.os,I.bare,⟨fun b o e n hb hx=>?_,fun b o e n hb hx=>?_,I.base.free,fun b o e hx=>?_,I.base.tups,I.base.frzs,I.base.tbls⟩,⟨_,hn',fun j y v' e1 e2 e3=>?_⟩,fun y c e=>?_,I.free,I.freeC,fun p hp=>?_,tracked ⟨oL,hoL,I.free⟩ hs,by simpa using I.len⟩ ⟨_,hs,.inl rfl⟩
  ·exact (hs.2 b (Lj (K2 (K8 e) I.ok.above))).trans (I.base.keep b o e n hb hx)
  ·obtain⟨sl,e1⟩:=I.base.slot b o e n hb hx
   exact⟨sl,(hs.2 b (Lj (K2 (K8 e) I.ok.above))).trans e1⟩
  ·obtain⟨o',e1⟩:=I.base.there b o e hx
   exact⟨o',(hs.2 b (Lj (K2 (K8 e) I.ok.above))).trans e1⟩
  ·by_cases hj:j=i
   ·subst hj
    rw [hi] at e1;cases e1
    rw [KW hiσ] at e2
    cases e2
    exact⟨u,r,.inl ⟨hk,by simp⟩⟩
   ·rw [KN (Ne.symm hj)] at e2
    obtain⟨u',r',q⟩:=hl j y v' e1 e2 e3
    refine⟨u',r',?_⟩
    rcases q with ⟨k,e⟩ | ⟨k,c,e,z⟩
    ·refine .inl ⟨k,?_⟩
     have:y≠x:=fun e=>hj (uJ hN e1 (e▸hi))
     simp [this,e]
    ·exact .inr ⟨k,c,e,z.sameBut hs (Ez y c e)⟩
  ·obtain⟨w',z⟩:=I.cell y c e
   exact⟨w',z.sameBut hs (Ez y c e)⟩
  ·obtain⟨e,n,ne,nf,d⟩:=I.pin p hp
   exact⟨(hs.2 p.1 ne).trans e,n,ne,nf,d⟩
 ·have hfn:X.fn x=true:=by
   rcases hf with z | z
   ·exact z
   ·rw [z] at hk;cases hk
  obtain⟨c,hc⟩:=I.ok.has x (.inl hk)
  obtain⟨w',z⟩:=I.cell x c hc
  refine wpAny_storeName_cell I.ok.kind hk hc z (fun h' hc' hs=>?_)
  obtain⟨oc,hoc,hocd⟩:=id z
  refine h { s with heap:=h' } ⟨I.ok,I.os,I.bare,⟨fun b o e n hb hx=>?_,fun b o e n hb hx=>?_,I.base.free,fun b o e hx=>?_,I.base.tups,I.base.frzs,I.base.tbls⟩,⟨m,hn.sameBut hs (Ne.symm (Ez x c hc)),fun j y v' e1 e2 e3=>?_⟩,fun y c' e=>?_,I.free,I.freeC,fun p hp=>?_,tracked ⟨oc,hoc,I.freeC x c hc⟩ hs,by simpa using I.len⟩ ⟨c,hs,.inr hc⟩
  ·exact (hs.2 b (Lj (K2 (K8 e) (I.ok.cab x c hfn hc)))).trans (I.base.keep b o e n hb hx)
  ·obtain⟨sl,e1⟩:=I.base.slot b o e n hb hx
   exact⟨sl,(hs.2 b (Lj (K2 (K8 e) (I.ok.cab x c hfn hc)))).trans e1⟩
  ·obtain⟨o',e1⟩:=I.base.there b o e hx
   exact⟨o',(hs.2 b (Lj (K2 (K8 e) (I.ok.cab x c hfn hc)))).trans e1⟩
  ·by_cases hj:j=i
   ·subst hj
    rw [hi] at e1;cases e1
    rw [KW hiσ] at e2
    cases e2
    exact⟨u,r,.inr ⟨.inl hk,c,hc,hc'⟩⟩
   ·rw [KN (Ne.symm hj)] at e2
    obtain⟨u',r',q⟩:=hl j y v' e1 e2 e3
    refine⟨u',r',?_⟩
    rcases q with q | ⟨k,c',e,z'⟩
    ·exact .inl q
    ·refine .inr ⟨k,c',e,z'.sameBut hs ?_⟩
     rintro rfl
     exact hj (uJ hN e1 (I.ok.inj _ _ _ e hc▸hi))
  ·by_cases hcc:c'=c
   ·subst hcc;exact⟨_,hc'⟩
   ·obtain⟨w2,z2⟩:=I.cell y c' e
    exact⟨w2,z2.sameBut hs hcc⟩
  ·obtain⟨e,n,ne,nf,d⟩:=I.pin p hp
   refine⟨(hs.2 p.1 ?_).trans e,n,ne,nf,d⟩
   intro q
   rw [q,hoc] at e
   have q':oc=p.2:=K3 e
   exact d w' (by rw [← q'];exact hocd)
theorem js {M:Model} {A:Around} {E:Value→Shared→Prop} {i:Nat} {x:Str} {v:V} {u:Value} {Q:Unit→Shared→Prop} (I:Inv X pins σ H s) (hN:X.N.Nodup) (hi:X.N[i]?=some x) (hx:Loc X.env.scope x) (r:RelV v u)
  (h:∀s',Inv X pins (σ.set i (some v)) H s'→Q () s') (hf:X.fn x=true∨X.env.scope.names.lookup x=some .local:=by first | exact .inl rfl | exact .inr rfl | assumption):wpAny M A (storeName X.env x u) Q E s :=
 qR I hN hi hx r (fun s' I' _=>h s' I') hf
theorem Inv.A2 {s':Shared} {ch:List Addr} (I:Inv X pins σ H s) (ho:s'.os=s.os) (u:Un (oz X.stack) ch H H' s.heap s'.heap) (hok:mF X.prog X.w H' s'.heap) (hg:AllBare s'.gens)
  (hch:∀b∈ch,(b∈X.ex∨X.s₀.heap.objs.size≤b)∧b≠X.env.locals∧(∀x c,X.env.cells.lookup x=some c→c≠b)∧∀p∈X.pn ++ pins,p.1≠b):Inv X pins σ H' s':=by
 obtain⟨h',g',d',t',o'⟩:=s'
 have e:o'=s.os:=ho
 subst e
 exact I.call (g':=g') (t':=t') (d':=d') u hok hg hch
end
abbrev XK:=Value→Option Addr→Hp→Prop
abbrev St:=List (Option V)
abbrev VK:=V→Hp→Prop
abbrev TE:=St→Hp→VK→Prop
abbrev TT:=St→Hp→(Bool→Hp→Prop)→Prop
abbrev TA:=St→Hp→(List V→Hp→Prop)→Prop
structure Ends where
 nx:St→Hp→Prop
 rt:VK
 bk:St→Hp→Prop:=fun _ _=>False
 ct:St→Hp→Prop:=fun _ _=>False
abbrev TS:=Ends→St→Hp→Prop
def EP (X:Cx) (pins:List (Addr×Obj)) (σ:St) (Q:VK) (u:Value) (s':Shared):Prop:=∃v H',Inv X pins σ H' s'∧RelV v u∧Q v H'
def TP (X:Cx) (pins:List (Addr×Obj)) (σ:St) (Q:Bool→Hp→Prop) (b:Bool) (s':Shared):Prop:=∃H',Inv X pins σ H' s'∧Q b H'
def AP (X:Cx) (pins:List (Addr×Obj)) (σ:St) (Q:List V→Hp→Prop) (us:List Value) (s':Shared):Prop:=∃vs H',Inv X pins σ H' s'∧Vals vs us∧Q vs H'
def SP (X:Cx) (pins:List (Addr×Obj)) (D:Ends) (f:Flow) (s':Shared):Prop :=
 match f with
 | .next=>∃σ' H',Inv X pins σ' H' s'∧D.nx σ' H'
 | .brk=>∃σ' H',Inv X pins σ' H' s'∧D.bk σ' H'
 | .cont=>∃σ' H',Inv X pins σ' H' s'∧D.ct σ' H'
 | .ret u=>∃v σ' H',Inv X pins σ' H' s'∧RelV v u∧D.rt v H'
def PE (X:Cx) (e:Expr) (t:TE):Prop :=
 ∀(pins:List (Addr×Obj)) (s:Shared) (σ:St) (H:Hp) (Q:VK),Inv X pins σ H s→t σ H Q→wpAny (model X.prog X.w) X.A (eval e X.env) (EP X pins σ Q) X.xe s
def PT (X:Cx) (e:Expr) (t:TT):Prop :=
 ∀(pins:List (Addr×Obj)) (s:Shared) (σ:St) (H:Hp) (Q:Bool→Hp→Prop),Inv X pins σ H s→t σ H Q→wpAny (model X.prog X.w) X.A (isTrue e X.env (eval e X.env)) (TP X pins σ Q) X.xe s
def PW (X:Cx) (e:Expr) (t:TT):Prop :=
 ∀(whole:Sem Value) (pins:List (Addr×Obj)) (s:Shared) (σ:St) (H:Hp) (Q:Bool→Hp→Prop),Inv X pins σ H s→t σ H Q→wpAny (model X.prog X.w) X.A (isTrue e X.env whole) (TP X pins σ Q) X.xe s
def PA (X:Cx) (es:List Expr) (t:TA):Prop :=
 ∀(pos:Pos) (pins:List (Addr×Obj)) (s:Shared) (σ:St) (H:Hp) (Q:List V→Hp→Prop),Inv X pins σ H s→t σ H Q→wpAny (model X.prog X.w) X.A (spliced (backTo pos (starEach es X.env))) (AP X pins σ Q) X.xe s
def PS (X:Cx) (st:Stmt) (t:TS):Prop :=
 ∀(pins:List (Addr×Obj)) (s:Shared) (σ:St) (H:Hp) (D:Ends),Inv X pins σ H s→t D σ H→wpAny (model X.prog X.w) X.A (exec st X.env) (SP X pins D) X.xe s
def uz (X:Cx) (st:List Stmt) (t:TS):Prop :=
 ∀(pins:List (Addr×Obj)) (s:Shared) (σ:St) (H:Hp) (D:Ends),Inv X pins σ H s→t D σ H→wpAny (model X.prog X.w) X.A (execs st X.env) (SP X pins D) X.xe s
theorem b9 {α:Type} {t:Sem α} {Q Q':α→Shared→Prop} {M:Model} {A:Around} {E:Value→Shared→Prop} {s:Shared} (h:wpAny M A t Q E s) (hQ:∀a s,Q a s→Q' a s):wpAny M A t Q' E s:=Li h hQ fun _ _ x=>x
end L2
namespace L2
open PySem PySem.Spec PyProof.Rows
section
variable {X:Cx}
def Jv (i:Nat):TE:=fun σ H Q=>∃v,σ[i]?=some (some v)∧Q v H
def tC (v:V):TE:=fun _ H Q=>Q v H
theorem cL {i:Nat} {x:Str} {pos:Pos} (hN:X.N[i]?=some x) (hv:rf X.env.scope x) (hd:(x == ("__debug__" : Str))=false:=by decide) (hcd:(x == ("__classdict__" : Str))=false:=by decide):PE X (.Name x pos) (Jv i):=by
 intro pins s σ H Q I h
 obtain⟨v,e,h⟩:=h
 obtain⟨m,hn,hl⟩:=I.loc
 obtain⟨u,r,l⟩:=hl i x v hN e hv
 have fin:EP X pins σ Q u s:=⟨v,H,I,r,h⟩
 rcases l with ⟨hk,hm⟩ | ⟨hk,c,hc,hcell⟩
 ·exact wpAny_Name (wpAny_loadName_local I.ok.kind hk hn hm fin) hd
 ·rcases hk with hk | hk
  ·exact wpAny_Name (wpAny_loadName_cell I.ok.kind hk hc hcell fin) hd
  ·exact wpAny_Name (wpAny_loadName_free I.ok.kind hk hc hcell fin hcd) hd
theorem GW {i j pos}:PE X (.Constant (.int i) j pos) (tC (.int i)):=fun _ _ _ H _ I h=>wpAny_Constant_int ⟨.int i,H,I.tok _,⟨_,rfl⟩,h⟩
theorem Ht {b j pos}:PE X (.Constant (.bool b) j pos) (tC (.bl b)):=fun _ _ _ H _ I h=>Constant_bool ⟨.bl b,H,I,rfl,h⟩
theorem G7 {j pos}:PE X (.Constant .none j pos) (tC .non):=fun _ _ _ H _ I h=>Constant_none ⟨.non,H,I,rfl,h⟩
theorem FH {x j pos}:PE X (.Constant (.str x) j pos) (tC (.str x)):=fun _ _ _ H _ I h=>Calls.Constant_str ⟨.str x,H,I.tok _,⟨_,rfl⟩,h⟩
def Gl (X:Cx) (x:Str):Prop:=X.env.kindOf x=some .globalImplicit
theorem gN {E:Value→Shared→Prop} {pins:List (Addr×Obj)} {s:Shared} {σ:St} {H:Hp} {x:Str} {u:Value} {pos:Pos} {Q:Value→Shared→Prop} (I:Inv X pins σ H s) (hg:Gl X x) (hm:X.mg x=some u) (h:Q u s)
  (hd:(x == ("__debug__" : Str))=false:=by decide):wpAny (model X.prog X.w) X.A (eval (.Name x pos) X.env) Q E s :=
 Calls.Name_function_global I.ok.kind hg (Calls.loadGlobal_global (by rw [I.ok.glob];exact I.mod.glob.keeps I.bk) hm h) hd
theorem kT {E:Value→Shared→Prop} {pins:List (Addr×Obj)} {s:Shared} {σ:St} {H:Hp} {x:Str} {u:Value} {pos:Pos} {Q:Value→Shared→Prop} (I:Inv X pins σ H s) (hg:Gl X x) (hm:X.mg x=none) (hv:bootBuiltins x=some u) (h:Q u s)
  (hn:x≠"__name__":=by decide) (hd:(x == ("__debug__" : Str))=false:=by decide):wpAny (model X.prog X.w) X.A (eval (.Name x pos) X.env) Q E s:=by
 obtain⟨mb,h1,h2⟩:=I.mod.blt
 exact Calls.Name_function_global I.ok.kind hg (Calls.loadGlobal_builtin (by rw [I.ok.glob];exact I.mod.glob.keeps I.bk) hm (by rw [I.ok.blt];exact h1.keeps I.bk) ((h2 x hn).trans hv) h) hd
theorem Dp {x:Str} {v:V} {u:Value} {pos:Pos} (hg:Gl X x) (hm:X.mg x=none) (hv:bootBuiltins x=some u) (r:RelV v u) (hn:x≠"__name__":=by decide) (hd:(x == ("__debug__" : Str))=false:=by decide):PE X (.Name x pos) (tC v) :=
 fun _ _ _ H _ I h=>kT I hg hm hv ⟨v,H,I,r,h⟩ hn hd
variable {a b:Expr} {ta tb:TE} {pos:Pos}
def tB (t:TE):TT:=fun σ H Q=>t σ H fun x H1=>∃c,x=.bl c∧Q c H1
theorem Gu {e:Expr} {t:TE} (h:PE X e t) (he:∀whole,isTrue e X.env whole=(do let v ← whole;standAt e.pos;holding [v] (truthy v)):=by intro _;rfl):PT X e (tB t):=by
 intro pins s σ H Q I hw
 refine isTrue_plain (b9 (h pins s σ H _ I hw) fun v s1 ⟨x,H1,I1,r1,q1⟩=>?_) (he _)
 obtain⟨d,rfl,q⟩:=q1
 cases r1
 exact wpAny_truthy_bool ⟨H1,I1,q⟩
variable {tA tB':TT} {rest:List Expr}
def Kb (t u:TT):TT:=fun σ H Q=>t σ H fun c H1=>if c=true then u σ H1 Q else Q false H1
def Kv (t u:TT):TT:=fun σ H Q=>t σ H fun c H1=>if c=true then Q true H1 else u σ H1 Q
def JV (t:TT):TT:=fun σ H Q=>t σ H fun c H1=>Q (!c) H1
theorem CQ (ha:PT X a tA):PW X (.BoolOp .And [a] pos) tA:=by
 intro wh pins s σ H Q I h
 refine isTrue_and (b9 (ha pins s σ H Q I h) fun c s1 e=>?_)
 cases c with
 | true=>exact isTrue_and_nil e
 | false=>exact e
theorem G0 (ha:PT X a tA):PW X (.BoolOp .Or [a] pos) tA:=by
 intro wh pins s σ H Q I h
 refine isTrue_or (b9 (ha pins s σ H Q I h) fun c s1 e=>?_)
 cases c with
 | false=>exact isTrue_or_nil e
 | true=>exact e
theorem ER (ha:PT X a tA) (hb:PW X (.BoolOp .And (b :: rest) pos) tB'):PW X (.BoolOp .And (a :: b :: rest) pos) (Kb tA tB'):=by
 intro wh pins s σ H Q I h
 refine isTrue_and (b9 (ha pins s σ H _ I h) fun c s1 ⟨H1,I1,q1⟩=>?_)
 cases c with
 | true=>exact hb wh pins s1 σ H1 Q I1 q1
 | false=>exact⟨H1,I1,q1⟩
theorem IW (ha:PT X a tA) (hb:PW X (.BoolOp .Or (b :: rest) pos) tB'):PW X (.BoolOp .Or (a :: b :: rest) pos) (Kv tA tB'):=by
 intro wh pins s σ H Q I h
 refine isTrue_or (b9 (ha pins s σ H _ I h) fun c s1 ⟨H1,I1,q1⟩=>?_)
 cases c with
 | true=>exact⟨H1,I1,q1⟩
 | false=>exact hb wh pins s1 σ H1 Q I1 q1
theorem EW (ha:PT X a tA):PT X (.UnaryOp .Not a pos) (JV tA):=by
 intro pins s σ H Q I h
 exact isTrue_not (ha pins s σ H (fun c H1=>Q (!c) H1) I h)
def Kz (t:TT) (ta tb:TE):TE:=fun σ H Q=>t σ H fun c H1=>if c=true then ta σ H1 Q else tb σ H1 Q
theorem Ae {c:Expr} (hc:PT X c tA) (ha:PE X a ta) (hb:PE X b tb):PE X (.IfExp c a b pos) (Kz tA ta tb):=by
 intro pins s σ H Q I h
 refine wpAny_IfExp (b9 (hc pins s σ H _ I h) fun d s1 ⟨H1,I1,q1⟩=>?_)
 cases d with
 | true=>exact ha pins s1 σ H1 Q I1 q1
 | false=>exact hb pins s1 σ H1 Q I1 q1
end
end L2
namespace L2
open PySem PySem.Spec PyProof.Rows
def d9 (K:PySem.W.Frag) (H:Hp) (a:Addr) (xs:List V):Prop :=
 Rd H a (.lst xs) ∨
  ∃(o:Obj) (its:Array Value) (n:Nat),K.lookup a=some o∧o.cls=.type "list"∧o.dict=none∧o.data=.seq its n∧its.size≤sizeLine∧Vals xs its.toList
def iZ (K:PySem.W.Frag) (H:Hp) (a:Addr) (xs:List V):Prop :=
 Rd H a (.tup xs) ∨
  ∃(o:Obj) (its:Array Value) (n:Nat),K.lookup a=some o∧o.cls=.type "tuple"∧o.data=.seq its n∧its.size≤sizeLine∧Vals xs its.toList∧o.dict=none
def JE:Value→Option V
 | .none=>some .non
 | .bool b=>some (.bl b)
 | .int i _=>some (.int i)
 | .str x _=>some (.str x)
 | .bytes b _=>some (.byt b)
 | .float b _=>some (.flt b)
 | .ref a=>some (.ref a)
 | .type n=>some (.ty n)
 | _=>none
theorem RelV.abs {x:V} {u:Value} (r:RelV x u):JE u=some x:=by
 cases x with
 | non=>cases r;rfl
 | bl _=>cases r;rfl
 | int _=>obtain⟨t,rfl⟩:=r;rfl
 | str _=>obtain⟨t,rfl⟩:=r;rfl
 | byt _=>obtain⟨t,rfl⟩:=r;rfl
 | flt _=>obtain⟨t,rfl⟩:=r;rfl
 | ref _=>cases r;rfl
 | ty _=>cases r;rfl
theorem RelV.inj {x y:V} {u:Value} (r:RelV x u) (q:RelV y u):x=y:=K3 (r.abs.symm.trans q.abs)
theorem Vals.inj:∀{xs ys:List V} {us:List Value},Vals xs us→Vals ys us→xs=ys
 | _,_,_,.nil,.nil=>rfl
 | _,_,_,.cons r t,.cons r' t'=>by rw [r.inj r',Vals.inj t t']
section
variable {X:Cx} {pins:List (Addr×Obj)} {σ:St} {H:Hp} {s:Shared} {a:Addr} {xs ys:List V}
theorem d9.of {K:PySem.W.Frag} (h:H a=some (.lst xs)):d9 K H a xs:=.inl (.inl h)
theorem iZ.of {K:PySem.W.Frag} (h:H a=some (.tup xs)):iZ K H a xs:=.inl (.inl h)
theorem Inv.list (I:Inv X pins σ H s) (h:d9 X.K H a xs):∃its:List Value,Vals xs its∧PlainL s.heap a its.toArray∧xs.length≤sizeLine:=by
 rcases h with h | ⟨o,its,n,hk,hc,hd,hs,hz,r⟩
 ·obtain⟨z,its,n,r,e⟩:=h.ok I.hok
  exact⟨its,r,⟨_,n,e,rfl,rfl,rfl⟩,z⟩
 ·refine⟨its.toList,r,⟨o,n,I.yH a o hk,hc,hd,by simpa using hs⟩,?_⟩
  have e:=r.length
  simp only [Array.length_toList] at e
  omega
theorem Inv.tuple (I:Inv X pins σ H s) (h:iZ X.K H a xs):∃its:List Value,Vals xs its∧IsTup s.heap a its.toArray∧xs.length≤sizeLine:=by
 rcases h with h | ⟨o,its,n,hk,hc,hs,hz,r,_⟩
 ·obtain⟨z,its,r,p⟩:=h.ok I.hok
  exact⟨its,r,p.tup,z⟩
 ·refine⟨its.toList,r,⟨o,I.yH a o hk,hc,n,by simpa using hs⟩,?_⟩
  have e:=r.length
  simp only [Array.length_toList] at e
  omega
theorem Inv.oY (I:Inv X pins σ H s) (h:d9 X.K H a xs) (h':d9 X.K H a ys):xs=ys:=by
 obtain⟨its,r,⟨o,n,e,_,_,d⟩,_⟩:=I.list h
 obtain⟨its',r',⟨o',n',e',_,_,d'⟩,_⟩:=I.list h'
 rw [e] at e';cases e'
 rw [d] at d'
 injection d' with d1 _
 have:its=its':=by simpa using congrArg Array.toList d1
 subst this
 exact r.inj r'
theorem Inv.mz (I:Inv X pins σ H s) (h:iZ X.K H a xs) (h':iZ X.K H a ys):xs=ys:=by
 obtain⟨its,r,⟨o,e,_,n,d⟩,_⟩:=I.tuple h
 obtain⟨its',r',⟨o',e',_,n',d'⟩,_⟩:=I.tuple h'
 rw [e] at e';cases e'
 rw [d] at d'
 injection d' with d1 _
 have:its=its':=by simpa using congrArg Array.toList d1
 subst this
 exact r.inj r'
end
abbrev Cx.cu (X:Cx) (E:Value→Shared→Prop):Cx:={ X with xe:=E }
abbrev Cx.oO (X:Cx):Cx:=X.cu fun _ _=>False
theorem Cx.Ok.cu {X:Cx} (ok:X.Ok) (E:Value→Shared→Prop):(X.cu E).Ok :=
 ⟨ok.mod,ok.kind,ok.glob,ok.blt,ok.above,ok.inj,ok.has,ok.cab,ok.hd,ok.frames,ok.stk,ok.exf,ok.bs,ok.bsz,ok.noex,ok.exfs,ok.lM,ok.frf⟩
theorem Cx.Ok.bo {X:Cx} {E:Value→Shared→Prop} (ok:(X.cu E).Ok):X.Ok :=
 ⟨ok.mod,ok.kind,ok.glob,ok.blt,ok.above,ok.inj,ok.has,ok.cab,ok.hd,ok.frames,ok.stk,ok.exf,ok.bs,ok.bsz,ok.noex,ok.exfs,ok.lM,ok.frf⟩
section
variable {X:Cx} {pins:List (Addr×Obj)} {σ:St} {H:Hp} {s:Shared} {E:Value→Shared→Prop}
theorem Inv.cu (I:Inv X pins σ H s) (E:Value→Shared→Prop):Inv (X.cu E) pins σ H s:=⟨I.ok.cu E,I.os,I.bare,I.base,I.loc,I.cell,I.free,I.freeC,I.pin,I.hok,I.len⟩
theorem Inv.bo (I:Inv (X.cu E) pins σ H s):Inv X pins σ H s:=⟨I.ok.bo,I.os,I.bare,I.base,I.loc,I.cell,I.free,I.freeC,I.pin,I.hok,I.len⟩
theorem SP.bo {D:Ends} {f:Flow} {s':Shared} (h:SP (X.cu E) pins D f s'):SP X pins D f s':=by
 cases f with
 | next=>obtain⟨σ',H',I,q⟩:=h;exact⟨σ',H',I.bo,q⟩
 | brk=>obtain⟨σ',H',I,q⟩:=h;exact⟨σ',H',I.bo,q⟩
 | cont=>obtain⟨σ',H',I,q⟩:=h;exact⟨σ',H',I.bo,q⟩
 | ret u=>obtain⟨v,σ',H',I,r,q⟩:=h;exact⟨v,σ',H',I.bo,r,q⟩
theorem uz.oO {st:List Stmt} {t:TS} (h:uz X.oO st t):uz X st t:=fun pins s σ H D I hw =>
 Li (h pins s σ H D (I.cu _) hw) (fun _ _ q=>q.bo) fun _ _ z=>False.elim z
end
section
variable {X:Cx} {st:Stmt} {rest:List Stmt} {t u:TS} {e:Expr} {te:TE} {pos:Pos}
def HX:TS:=fun D σ H=>D.nx σ H
def Jy (t u:TS):TS:=fun D σ H=>t { D with nx:=u D } σ H
theorem CK:uz X [] HX:=fun _ _ σ H _ I h=>wpAny_execs_nil ⟨σ,H,I,h⟩
theorem pT (h1:PS X st t) (h2:uz X rest u):uz X (st :: rest) (Jy t u):=by
 intro pins s σ H D I h
 refine wpAny_execs_cons (b9 (h1 pins s σ H { D with nx:=u D } I h) fun f s1 q=>?_)
 cases f with
 | next =>
  obtain⟨σ',H',I',q⟩:=q
  exact h2 pins s1 σ' H' D I' q
 | ret v=>exact q
 | brk=>exact q
 | cont=>exact q
theorem ua (h1:PS X st t):uz X [st] t:=by
 intro pins s σ H D I h
 refine wpAny_execs_cons (b9 (h1 pins s σ H D I h) fun f s1 q=>?_)
 cases f with
 | next=>exact wpAny_execs_nil q
 | ret v=>exact q
 | brk=>exact q
 | cont=>exact q
def EN:TS:=fun D σ H=>D.bk σ H
theorem Ah:PS X (.Break pos) EN:=fun _ _ σ H _ I h=>wpAny_Break ⟨σ,H,I,h⟩
theorem Inv.quiet {pins:List (Addr×Obj)} {σ:St} {H:Hp} {s:Shared} (I:Inv X pins σ H s):interactive X.env=false:=by simp [interactive,I.ok.kind]
def Hy (te:TE):TS:=fun D σ H=>te σ H fun _ H1=>D.nx σ H1
theorem oo (he:PE X e te) (hs:swapsWith e none pos.line X.env=pure false:=by rfl):PS X (.Expr e pos) (Hy te):=by
 intro pins s σ H D I h
 exact wpAny_Expr_any (b9 (he pins s σ H _ I h) fun v s1 ⟨x,H1,I1,r1,q1⟩=>⟨σ,H1,I1,q1⟩) I.quiet hs
def JW (te:TE):TS:=fun D σ H=>te σ H D.rt
theorem Fm (he:PE X e te):PS X (.Return (some e) pos) (JW te):=by
 intro pins s σ H D I h
 exact wpAny_Return_some (b9 (he pins s σ H _ I h) fun v s1 ⟨x,H1,I1,r1,q1⟩=>⟨x,σ,H1,I1,r1,q1⟩)
def JR (c:TT) (t u:TS):TS:=fun D σ H=>c σ H fun b H1=>if b=true then t D σ H1 else u D σ H1
theorem EL {c:Expr} {a b:List Stmt} {tc:TT} (hc:PT X c tc) (ha:uz X a t) (hb:uz X b u):PS X (.If c a b pos) (JR tc t u):=by
 intro pins s σ H D I h
 refine wpAny_If (b9 (hc pins s σ H _ I h) fun d s1 ⟨H1,I1,q1⟩=>?_)
 cases d with
 | true=>exact ha pins s1 σ H1 D I1 q1
 | false=>exact hb pins s1 σ H1 D I1 q1
end
abbrev TG:=V→St→Hp→(St→Hp→Prop)→Prop
abbrev Dn:=List V→St→Hp→(St→Hp→Prop)→Prop
def PG (X:Cx) (target:Expr) (t:TG):Prop :=
 ∀(pins:List (Addr×Obj)) (s:Shared) (σ:St) (H:Hp) (v:V) (u:Value) (Q:St→Hp→Prop),Inv X pins σ H s→RelV v u→t v σ H Q →
  wpAny (model X.prog X.w) X.A (assign target X.env u) (fun _ s'=>∃σ' H',Inv X pins σ' H' s'∧Q σ' H') X.xe s
def Hm (X:Cx) (ts:List Expr) (t:Dn):Prop :=
 ∀(pins:List (Addr×Obj)) (s:Shared) (σ:St) (H:Hp) (vs:List V) (us:List Value) (Q:St→Hp→Prop),Inv X pins σ H s→Vals vs us→t vs σ H Q →
  wpAny (model X.prog X.w) X.A (assignInOrder ((assignEach ts X.env).map (·.2)) us) (fun _ s'=>∃σ' H',Inv X pins σ' H' s'∧Q σ' H') X.xe s
abbrev Gz:=V→V→V→Hp→(Hp→Prop)→Prop
def IV (X:Cx) (t:Gz):Prop :=
 ∀(pins:List (Addr×Obj)) (s:Shared) (σ:St) (H:Hp) (o i v:V) (ov iv u:Value) (Q:Hp→Prop),Inv X pins σ H s→RelV o ov→RelV i iv→RelV v u→t o i v H Q →
  wpAny (model X.prog X.w) X.A (setItem ov iv u) (fun _ s'=>∃H',Inv X pins σ H' s'∧Q H') X.xe s
section
variable {X:Cx} {pos:Pos}
def EE (i:Nat):TG:=fun v σ H Q=>Q (σ.set i (some v)) H
theorem CG {i:Nat} {x:Str} (hN:X.N.Nodup) (hi:X.N[i]?=some x) (hx:Loc X.env.scope x) (hf:X.fn x=true∨X.env.scope.names.lookup x=some .local:=by first | exact .inl rfl | exact .inr rfl | assumption):PG X (.Name x pos) (EE i):=by
 intro pins s σ H v u Q I r h
 exact wpAny_assign_Name (js I hN hi hx r (fun s' I'=>⟨_,H,I',h⟩) hf)
def Jw:Dn:=fun vs σ H Q=>vs=[]∧Q σ H
def Ii (t:TG) (u:Dn):Dn:=fun vs σ H Q=>∃v r,vs=v :: r∧t v σ H fun σ' H'=>u r σ' H' Q
theorem Di:Hm X [] Jw:=by
 intro pins s σ H vs us Q I r h
 obtain⟨e,h⟩:=h
 subst e
 cases r
 exact assignInOrder_nil ⟨σ,H,I,h⟩
theorem BM {e:Expr} {es:List Expr} {t:TG} {u:Dn} (h1:PG X e t) (h2:Hm X es u)
  (hs:(assignEach (e :: es) X.env).map (·.2)=assign e X.env :: (assignEach es X.env).map (·.2):=by rfl):Hm X (e :: es) (Ii t u):=by
 intro pins s σ H vs us Q I r h
 obtain⟨v,vr,e1,h⟩:=h
 subst e1
 cases r with
 | cons r rr =>
  rw [hs]
  refine assignInOrder_cons (b9 (h1 pins s σ H _ _ _ I r h) fun _ s1 ⟨σ1,H1,I1,q1⟩=>?_)
  exact h2 pins s1 σ1 H1 _ _ Q I1 rr q1
def JS (K:PySem.W.Frag) (n:Nat) (t:Dn):TG:=fun v σ H Q=>∃a xs,v=.ref a∧iZ K H a xs∧xs.length=n∧t xs σ H Q
theorem GD {es:List Expr} {k:Nat} {t:Dn} {n:Nat} (hc:X.calm=true) (h:Hm X es t)
  (hn:(assignEach es X.env).length=n:=by rfl) (hst:(assignEach es X.env).findIdx? (·.1)=none:=by rfl):PG X (.Tuple es k pos) (JS X.K n t):=by
 intro pins s σ H v u Q I r hw
 obtain⟨a,xs,e1,hq,hl,hw⟩:=hw
 subst e1
 cases r
 obtain⟨its,rv,ht,hz⟩:=I.tuple hq
 refine assign_Tuple_tuple (I.ok.hd hc) ht (by simp [hn,← hl,rv.length]) hst fun h' hx=>?_
 have I1:Inv X pins σ H { s with heap:=h' }:=I.kept (t':=s.toks) fun b o e=>hx b o (Lj (K8 e)) e
 exact h pins _ σ H xs _ Q I1 (by simpa using rv) hw
def JI (to ti:TE) (t:Gz):TG:=fun v σ H Q=>to σ H fun o H1=>ti σ H1 fun i H2=>t o i v H2 fun H3=>Q σ H3
theorem G8 {o i:Expr} {to ti:TE} {t:Gz} (ho:PE X o to) (hi:PE X i ti) (hs:IV X t)
  (ha:∀v,assign (.Subscript o i pos) X.env v=(do
   let ov ← holding [v] (eval o X.env)
   let iv ← holding [v,ov] (eval i X.env)
   standAt pos
   holding [v,ov,iv] (setItem ov iv v)
   release [v,ov,iv] []):=by intro _;rfl):PG X (.Subscript o i pos) (JI to ti t):=by
 intro pins s σ H v u Q I r h
 rw [ha]
 refine KJ (wpAny_holding (b9 (ho pins s σ H _ I h) fun ov s1 hq0=>?_))
 obtain⟨x,H1,I1,r1,q1⟩:=hq0
 refine KJ (wpAny_holding (b9 (hi pins s1 σ H1 _ I1 q1) fun iv s2 hq0=>?_))
 obtain⟨y,H2,I2,r2,q2⟩:=hq0
 refine KJ (wpAny_standAt (KJ (wpAny_holding (b9 (hs pins s2 σ H2 x y v ov iv u _ I2 r1 r2 r q2) fun _ s3 ⟨H3,I3,q3⟩=>?_))))
 exact wpAny_release ⟨σ,H3,I3,q3⟩
def Jb (te:TE) (g:TG):TS:=fun D σ H=>te σ H fun x H1=>g x σ H1 D.nx
theorem wJ {tg e:Expr} {te:TE} {g:TG} (he:PE X e te) (hg:PG X tg g) (hs:swapsWithSole [tg] e pos.line X.env=pure false:=by rfl) (hw:swappedStores [tg] e X.env=pure none:=by rfl)
  (h1:(assignEach [tg] X.env).map (·.2)=[assign tg X.env]:=by rfl):PS X (.Assign [tg] e pos) (Jb te g):=by
 intro pins s σ H D I h
 refine wpAny_Assign_stores (b9 (he pins s σ H _ I h) fun v s1 hq0=>?_) hs hw
 obtain⟨x,H1,I1,r1,q1⟩:=hq0
 rw [h1]
 exact b9 (hg pins s1 σ H1 x v _ I1 r1 q1) fun _ s2 q=>q
theorem p5 {i:Nat} {x:Str} {e:Expr} {te:TE} {pos':Pos} (hN:X.N.Nodup) (hi:X.N[i]?=some x) (hx:Loc X.env.scope x) (he:PE X e te) (hs:swapsWith e (some (.Name x pos')) pos.line X.env=pure false:=by rfl) (hf:X.fn x=true∨X.env.scope.names.lookup x=some .local:=by first | exact .inl rfl | exact .inr rfl | assumption) :
  PS X (.Assign [.Name x pos'] e pos) (Jb te (EE i)):=by
 intro pins s σ H D I h
 refine wpAny_Assign_Name (b9 (he pins s σ H _ I h) fun v s1 hq0=>?_) hs
 obtain⟨y,H1,I1,r1,q1⟩:=hq0
 exact js I1 hN hi hx r1 (fun s2 I2=>⟨_,H1,I2,q1⟩) hf
def Kf (i j:Nat) (ta:TA):TS:=fun D σ H=>ta σ H fun vs H1=>∃v w,vs=[v,w]∧D.nx ((σ.set i (some v)).set j (some w)) H1
theorem FV {i j:Nat} {x y:Str} {a b:Expr} {ta:TA} {px py pt:Pos} {kt k2 pt2} (hc:X.calm=true) (hN:X.N.Nodup) (hi:X.N[i]?=some x) (hj:X.N[j]?=some y) (hij:i≠j)
  (hx:X.env.scope.names.lookup x=some .local) (hy:X.env.scope.names.lookup y=some .local) (ha:PA X [a,b] ta)
  (hw:swappedStores [.Tuple [.Name x px,.Name y py] kt pt] (.Tuple [a,b] k2 pt2) X.env=pure (some [x,y]))
  (hs:swapsWithSole [.Tuple [.Name x px,.Name y py] kt pt] (.Tuple [a,b] k2 pt2) pos.line X.env=pure false:=by rfl) :
  PS X (.Assign [.Tuple [.Name x px,.Name y py] kt pt] (.Tuple [a,b] k2 pt2) pos) (Kf i j ta):=by
 intro pins s σ H D I h
 rw [exec_Assign_arm]
 refine KJ (wpAny_standAt ?_)
 rw [hs]
 refine KJ (KO ?_)
 rw [KQ (by decide)]
 refine KJ (Tuple_ (b9 (ha _ pins s σ H _ I h) fun us s1 hq0=>?_))
 obtain⟨vs,H1,I1,r1,q1⟩:=hq0
 obtain⟨v,w,e1,q1⟩:=q1
 subst e1
 obtain⟨u1,u2,rfl,rv,rw'⟩:∃u1 u2,us=[u1,u2]∧RelV v u1∧RelV w u2:=by
  cases r1 with
  | cons p q =>
   cases q with
   | cons p' q' =>
    cases q'
    exact⟨_,_,rfl,p,p'⟩
 refine wpAny_newObj_type ?_ (by show 2≤sizeLine;decide)
 have I2:Inv X pins σ H1 { s1 with heap:=s1.heap.push { cls:=.type "tuple",data:=.seq [u1,u2].toArray } }:=I1.kept (t':=s1.toks) fun b o e=>KY _ e
 rw [hw]
 refine KJ (KO ?_)
 show wpAny (model X.prog X.w) X.A (do rule "assign.swapped-stores";let items ← unpackItems (.ref s1.heap.objs.size) 2 none;assignInOrder [fun v=>bindName X.env y v,fun v=>bindName X.env x v] items.reverse;pure Flow.next) _ _ _
 refine KJ (wpAny_rule (KJ (unpackItems_tuple (items:=#[u1,u2]) (I.ok.hd hc) (IsTup.new s1.heap _) fun h' hx'=>?_)))
 have I3:=I2.kept (h':=h') (t':=s1.toks) fun b o e=>hx' b o (Lj (K8 e)) e
 show wpAny _ _ (assignInOrder [fun v=>bindName X.env y v,fun v=>bindName X.env x v] [u2,u1] >>= fun _=>pure Flow.next) _ _ _
 refine KJ (assignInOrder_cons (wpAny_bindName (js I3 hN hj (.inl hy) rw' (fun s2 I4=>?_) (.inr hy))))
 refine assignInOrder_cons (wpAny_bindName (js I4 hN hi (.inl hx) rv (fun s3 I5=>assignInOrder_nil (KO ?_)) (.inr hx)))
 rw [List.set_comm _ _ (Ne.symm hij)] at I5
 exact⟨_,H1,I5,q1⟩
end
section
variable {X:Cx} {pos:Pos}
def GS (c:TT) (tb:TS):TS:=fun D σ H=>∃W:Nat→St→Hp→Prop,(∃m,W m σ H)∧∀m σ H,W m σ H →
 c σ H fun b H1=>if b=true then ∃N:St→Hp→Prop,(∀σ' H',N σ' H'→∃m',m' < m∧W m' σ' H')∧tb { D with nx:=N,ct:=N,bk:=D.nx } σ H1 else D.nx σ H1
theorem vH {c:Expr} {body:List Stmt} {tc:TT} {tb:TS} (hp:PassesOwn (model X.prog X.w) X.A X.env X.xe) (hc:PT X c tc) (hb:uz X body tb):PS X (.While c body [] pos) (GS tc tb):=by
 intro pins s σ H D I h
 obtain⟨W,⟨m0,w0⟩,turn⟩:=h
 refine wpAny_While (codeAny_whileLoop (fun n s'=>∃σ' H',Inv X pins σ' H' s'∧W n σ' H') ?_ m0 ⟨σ,H,I,w0⟩)
 rintro n s1 ⟨σ1,H1,I1,w1⟩
 refine wpAny_passesOwn hp (b9 (hc pins s1 σ1 H1 _ I1 (turn n σ1 H1 w1)) fun b s2 ⟨H2,I2,q2⟩=>?_)
 cases b with
 | true =>
  obtain⟨N,hN,q2⟩:=q2
  rw [KS rfl]
  refine wpAny_passesOwn hp (b9 (hb pins s2 σ1 H2 _ I2 q2) fun f s3 q3=>?_)
  cases f with
  | next =>
   obtain⟨σ3,H3,I3,n3⟩:=q3
   obtain⟨m',hm,w3⟩:=hN σ3 H3 n3
   exact⟨m',hm,σ3,H3,I3,w3⟩
  | cont =>
   obtain⟨σ3,H3,I3,n3⟩:=q3
   obtain⟨m',hm,w3⟩:=hN σ3 H3 n3
   exact⟨m',hm,σ3,H3,I3,w3⟩
  | brk=>exact q3
  | ret v=>exact q3
 | false =>
  rw [KQ Bool.false_ne_true]
  exact wpAny_execs_nil ⟨σ1,H2,I2,q2⟩
end
structure It where
 go:Nat→Hp→Prop
 yld:Nat→Hp→V→Hp→Prop
 stop:Nat→Hp→Prop
def nc (X:Cx) (pins:List (Addr×Obj)) (H:Hp) (b:Addr):Prop :=
 H b=none∧b≠X.env.locals∧b∉X.fs∧(b∈X.ex∨X.s₀.heap.objs.size≤b)∧(∀x c,X.env.cells.lookup x=some c→c≠b)∧∀p∈X.pn ++ pins,p.1≠b
theorem Inv.y2 {X:Cx} {pins:List (Addr×Obj)} {σ:St} {H H':Hp} {s:Shared} {b:Addr} (I:Inv X pins σ H s) (hb:s.heap.objs.size≤b) (hn:H' b=none):nc X pins H' b:=by
 refine⟨hn,Nat.ne_of_gt (K2 I.lt hb),I.JF hb,.inr (LA I.sz hb),fun x c e z=>?_,fun p hp z=>?_⟩
 ·obtain⟨v,q⟩:=I.cell x c e
  exact absurd (K2 q.lt (by rw [z];exact hb)) (Nat.lt_irrefl _)
 ·exact absurd (K2 (K8 (I.pin p hp).1) (by rw [z];exact hb)) (Nat.lt_irrefl _)
structure Turn (P:Program) (w:World) (K:PySem.W.Frag) (tg:Expr) (J:It) (fp:List Addr) (it:Addr) (tn:Nat→Heap→Prop):Prop where
 mem:it∈fp
 obj:∀i h,tn i h→∀b∈fp,∃o,h.get? b=some o∧∀v,o.data≠.cell v
 keep:∀i h h',tn i h→(∀b∈fp,∀o,h.get? b=some o→h'.get? b=some o)→tn i h'
 item:∀(X:Cx),X.prog=P→X.w=w→X.K=K→X.calm=true→∀(i:Nat) (pins:List (Addr×Obj)) (s:Shared) (σ:St) (H:Hp) (E:Value→Shared→Prop),Inv X pins σ H s→(∀b∈fp,nc X pins H b)→tn i s.heap→J.go i H →
  wpAny (model P w) X.A (pyNext (.ref it)) (fun r s1=>∃u,r=some u ∧
   wpAny (model P w) X.A (letOwnedTupleGo tg (.ref it) u) (fun _ s2=>∃x H',Inv X pins σ H' s2∧RelV x u∧J.yld i H x H'∧tn (i + 1) s2.heap∧∀b∈fp,H' b=none) E s1) E s
 done:∀(X:Cx),X.prog=P→X.w=w→X.K=K→X.calm=true→∀(i:Nat) (pins:List (Addr×Obj)) (s:Shared) (σ:St) (H:Hp) (E:Value→Shared→Prop),Inv X pins σ H s→(∀b∈fp,nc X pins H b)→tn i s.heap→J.stop i H →
  wpAny (model P w) X.A (pyNext (.ref it)) (fun r s1=>r=none∧Inv X pins σ H s1) E s
 self:∀(A:Around) (i:Nat) (s:Shared) (Q:Value→Shared→Prop) (E:Value→Shared→Prop),tn i s.heap→Q (.ref it) s→wpAny (model P w) A (pyIter (.ref it)) Q E s
abbrev TI:=St→Hp→(It→Hp→Prop)→Prop
def Jh (X:Cx) (pins:List (Addr×Obj)) (σ:St) (tg:Expr) (R:It→Hp→Prop) (itv:Value) (s2:Shared):Prop :=
 ∃(it:Addr) (fp:List Addr) (tn:Nat→Heap→Prop) (J:It) (H':Hp),itv=.ref it∧Inv X pins σ H' s2∧Turn X.prog X.w X.K tg J fp it tn∧tn 0 s2.heap∧(∀b∈fp,nc X pins H' b)∧R J H'
def PI (X:Cx) (tg iter:Expr) (wi:TI):Prop :=
 ∀(pins:List (Addr×Obj)) (s:Shared) (σ:St) (H:Hp) (R:It→Hp→Prop),Inv X pins σ H s→wi σ H R →
  wpAny (model X.prog X.w) X.A (eval iter X.env) (fun v s1=>wpAny (model X.prog X.w) X.A (pyIter v) (Jh X pins σ tg R) X.xe s1) X.xe s
theorem vZ {M:Model} {A:Around} {E:Value→Shared→Prop} {s:Shared} {tg:Expr} {it:Addr} {u:Value} {o:Obj} {n:String} {vs:Array Value} {Q:Unit→Shared→Prop} (ho:s.heap.get? it=some o) (hc:o.cls=.type n) (hd:o.data=.fields vs)
    (hn:["enumerate","zip","dict_itemiterator","dict_reverseitemiterator","odict_iterator","itertools.zip_longest","itertools.pairwise"].contains n=false) (hQ:Q () s):wpAny M A (letOwnedTupleGo tg (.ref it) u) Q E s:=by
  unfold letOwnedTupleGo
  cases tg <;> first
    | exact KO hQ
    | (cases u <;> first
        | exact KO hQ
        | (refine KJ (wpAny_load ho ?_)
           rw [hc,hd]
           show wpAny M A (if (["enumerate","zip","dict_itemiterator","dict_reverseitemiterator","odict_iterator","itertools.zip_longest","itertools.pairwise"].contains n && vs[0]? == some (rawInt _))=true then _ else _) Q E s
           rw [KQ (by intro h;rw [hn,Bool.false_and] at h;cases h)]
           exact KO hQ))
def Jo (K:PySem.W.Frag) (a:Addr):It :=
 ⟨fun i H=>∃xs x,d9 K H a xs∧xs[i]?=some x,fun i H x H'=>H'=H∧∀xs,d9 K H a xs→xs[i]?=some x,fun i H=>∃xs,d9 K H a xs∧xs.length≤i⟩
def Jm (K:PySem.W.Frag) (a:Addr):It :=
 ⟨fun i H=>∃xs x,iZ K H a xs∧xs[i]?=some x,fun i H x H'=>H'=H∧∀xs,iZ K H a xs→xs[i]?=some x,fun i H=>∃xs,iZ K H a xs∧xs.length≤i⟩
def EA (lo:Int) (n:Nat):It:=⟨fun i _=>i < n,fun i H x H'=>H'=H∧x=.int (lo + i),fun i _=>n≤i⟩
theorem y3 {P:Program} {w:World} {K:PySem.W.Frag} {tg:Expr} (a it:Addr):Turn P w K tg (Jo K a) [it] it (fun i h=>h.IsListIter it a i) where
 mem:=by simp
 obj:=fun i h st b hb=>by
  have e:b=it:=by simpa using hb
  subst e
  obtain⟨o,e,c,d⟩:=st
  exact⟨o,e,fun v z=>by rw [d] at z;cases z⟩
 keep:=fun i h h' st k=>st.at fun o e=>k it (by simp) o e
 item:=by
  intro X hP hw hK hc i pins s σ H E I hf st hg
  subst hP hw hK
  obtain⟨xs,x,hq,hx⟩:=hg
  obtain⟨its,rv,p,hz⟩:=I.list hq
  obtain⟨u,hu,ru⟩:=rv.get hx
  obtain⟨f0,f1,f2,f3,f4,f5⟩:=hf it (by simp)
  refine wpAny_pyNext_list_item st p.isList (x:=u) (by simpa using hu) fun h' st' sb=>?_
  have I1:Inv X pins σ H { s with heap:=h' }:=I.turned (t':=s.toks) (fun b o hb e=>(sb.2 b hb).trans e) f0 f1 f3 f4 f5
  obtain⟨o,e,c,d⟩:=id st'
  exact⟨u,rfl,vZ (s:={ s with heap:=h' }) e c d (by decide) ⟨x,H,I1,ru,⟨rfl,fun ys hy=>by rw [I.oY hy hq];exact hx⟩,st',fun b hb=>(hf b hb).1⟩⟩
 done:=by
  intro X hP hw hK hc i pins s σ H E I hf st hg
  subst hP hw hK
  obtain⟨xs,hq,hx⟩:=hg
  obtain⟨its,rv,p,hz⟩:=I.list hq
  obtain⟨f0,f1,f2,f3,f4,f5⟩:=hf it (by simp)
  have hl:=rv.length
  exact wpAny_pyNext_list_end (I.ok.hd hc) st p.isList (by simp;omega) fun h' eb=>⟨rfl,I.turned (t':=s.toks) (fun b o hb e=>eb b o hb e) f0 f1 f3 f4 f5⟩
 self:=fun _ _ _ _ _ st h=>wpAny_pyIter_listiter st h
theorem wN {P:Program} {w:World} {K:PySem.W.Frag} {tg:Expr} (a it:Addr):Turn P w K tg (Jm K a) [it] it (fun i h=>h.IsTupleIter it a i) where
 mem:=by simp
 obj:=fun i h st b hb=>by
  have e:b=it:=by simpa using hb
  subst e
  obtain⟨o,e,c,d⟩:=st
  exact⟨o,e,fun v z=>by rw [d] at z;cases z⟩
 keep:=fun i h h' st k=>st.at fun o e=>k it (by simp) o e
 item:=by
  intro X hP hw hK hc i pins s σ H E I hf st hg
  subst hP hw hK
  obtain⟨xs,x,hq,hx⟩:=hg
  obtain⟨its,rv,p,hz⟩:=I.tuple hq
  obtain⟨u,hu,ru⟩:=rv.get hx
  obtain⟨f0,f1,f2,f3,f4,f5⟩:=hf it (by simp)
  refine wpAny_pyNext_tuple_item st (show s.heap.IsTuple a its.toArray from p) (x:=u) (by simpa using hu) fun h' st' sb=>?_
  have I1:Inv X pins σ H { s with heap:=h' }:=I.turned (t':=s.toks) (fun b o hb e=>(sb.2 b hb).trans e) f0 f1 f3 f4 f5
  obtain⟨o,e,c,d⟩:=id st'
  exact⟨u,rfl,vZ (s:={ s with heap:=h' }) e c d (by decide) ⟨x,H,I1,ru,⟨rfl,fun ys hy=>by rw [I.mz hy hq];exact hx⟩,st',fun b hb=>(hf b hb).1⟩⟩
 done:=by
  intro X hP hw hK hc i pins s σ H E I hf st hg
  subst hP hw hK
  obtain⟨xs,hq,hx⟩:=hg
  obtain⟨its,rv,p,hz⟩:=I.tuple hq
  obtain⟨f0,f1,f2,f3,f4,f5⟩:=hf it (by simp)
  have hl:=rv.length
  exact wpAny_pyNext_tuple_end (I.ok.hd hc) st (show s.heap.IsTuple a its.toArray from p) (by simp;omega) fun h' eb=>⟨rfl,I.turned (t':=s.toks) (fun b o hb e=>eb b o hb e) f0 f1 f3 f4 f5⟩
 self:=fun _ _ _ _ _ st h=>wpAny_pyIter_tupleiter st h
theorem wZ {P:Program} {w:World} {K:PySem.W.Frag} {tg:Expr} (it:Addr) (lo:Int) (n:Nat):Turn P w K tg (EA lo n) [it] it (fun i h=>IsRangeIter h it (lo + (i:Nat) * 1) ((n:Int) - (i:Nat)) 1) where
 mem:=by simp
 obj:=fun i h st b hb=>by
  have e:b=it:=by simpa using hb
  subst e
  exact⟨_,st,fun v z=>by
   have z':Data.fields _=Data.cell v:=z
   cases z'⟩
 keep:=fun i h h' st k=>k it (by simp) _ st
 item:=by
  intro X hP hw hK hc i pins s σ H E I hf st hg
  subst hP hw hK
  obtain⟨f0,f1,f2,f3,f4,f5⟩:=hf it (by simp)
  have W:=Walks.range (prog:=X.prog) (w:=X.w) (I.ok.hd hc) it lo 1 n
  refine W.item i s _ _ hg st fun v h' tk hv st' kk=>?_
  obtain⟨t,rfl⟩:=hv
  have I1:Inv X pins σ H { s with heap:=h',toks:=tk }:=I.turned (fun b o hb e=>kk b o (by simpa using hb) e) f0 f1 f3 f4 f5
  refine⟨_,rfl,vZ (s:={ s with heap:=h',toks:=tk }) (n:="range_iterator") st' rfl rfl (by decide) ⟨.int (lo + i),H,I1,⟨t,?_⟩,⟨rfl,rfl⟩,st',fun b hb=>(hf b hb).1⟩⟩
  rw [Int.mul_one]
 done:=by
  intro X hP hw hK hc i pins s σ H E I hf st hg
  subst hP hw hK
  obtain⟨f0,f1,f2,f3,f4,f5⟩:=hf it (by simp)
  exact wpAny_pyNext_range_end (I.ok.hd hc) st (by have:n≤i:=hg;omega) fun h' eb=>⟨rfl,I.turned (t':=s.toks) (fun b o hb e=>eb b o hb e) f0 f1 f3 f4 f5⟩
 self:=fun _ _ _ _ _ st h=>wpAny_pyIter_rangeiter st h
end L2
namespace L2
open PySem PySem.Spec PyProof.Rows
section
variable {X:Cx} {tg:Expr}
theorem vT {pins:List (Addr×Obj)} {σ:St} {H:Hp} {s:Shared} {R:It→Hp→Prop} {E:Value→Shared→Prop} {lo hi:Int} {t u v:Tok} {tk:Nat} (I:Inv X pins σ H s) (h1:-(2 ^ 62)≤lo) (h2:lo < 2 ^ 62) (h3:-(2 ^ 62)≤hi) (h4:hi < 2 ^ 62)
  (q:R (EA lo (hi - lo).toNat) H):wpAny (model X.prog X.w) X.A (pyIter (.ref s.heap.objs.size)) (Jh X pins σ tg R) E { s with heap:=s.heap.push { cls:=.type "range",data:=.fields #[.int lo t,.int hi u,.int 1 v] },toks:=tk }:=by
 refine wpAny_pyIter_range (IsRange.new ..) (small_one h1 h2 h3 h4) ?_
 have I1:Inv X pins σ H { s with heap:=s.heap.push { cls:=.type "range",data:=.fields #[.int lo t,.int hi u,.int 1 v] },toks:=tk }:=I.kept fun b o e=>KY _ e
 refine⟨(s.heap.push { cls:=.type "range",data:=.fields #[.int lo t,.int hi u,.int 1 v] }).objs.size,[(s.heap.push { cls:=.type "range",data:=.fields #[.int lo t,.int hi u,.int 1 v] }).objs.size],_,_,H,rfl,
  I1.kept (t':=tk) fun b o e=>KY _ e,wZ _ lo (hi - lo).toNat,?_,fun b hb=>?_,q⟩
 ·have e1:lo + ((0:Nat):Int) * 1=lo:=by simp
  have e2:(((hi - lo).toNat:Nat):Int) - ((0:Nat):Int)=Builtin.Range.rangeSize lo hi 1:=by rw [rangeSize_one];split <;> omega
  show IsRangeIter _ _ (lo + ((0:Nat):Int) * 1) ((((hi - lo).toNat:Nat):Int) - ((0:Nat):Int)) 1
  rw [e1,e2]
  exact La _ rfl
 ·have e:b=(s.heap.push { cls:=.type "range",data:=.fields #[.int lo t,.int hi u,.int 1 v] }).objs.size:=by simpa using hb
  subst e
  exact I1.y2 (K0 _) (I1.hok.fresh (K0 _))
def IY (ta:TA):TI:=fun σ H R=>ta σ H fun vs H1=>∃j:Int,vs=[.int j]∧-(2 ^ 62)≤j∧j < 2 ^ 62∧R (EA 0 j.toNat) H1
def IQ (ta:TA):TI:=fun σ H R=>ta σ H fun vs H1=>∃i j:Int,vs=[.int i,.int j]∧(-(2 ^ 62)≤i∧i < 2 ^ 62∧-(2 ^ 62)≤j∧j < 2 ^ 62)∧R (EA i (j - i).toNat) H1
theorem nj {a:Expr} {ta:TA} {p pos:Pos} (hg:Gl X "range") (hm:X.mg "range" = none) (ha:PA X [a] ta) (hs:starEach [a] X.env=[(false,eval a X.env)]:=by rfl):PI X tg (.Call (.Name "range" p) [a] [] pos) (IY ta):=by
 intro pins s σ H R I h
 refine Call_ (kT I hg hm boot_range (PyProof.Rows.callWith_type1 (b9 (ha pos pins s σ H _ I h) fun us s1 ⟨vs,H1,I1,r1,q1⟩=>?_) hs rfl))
 obtain⟨j,e,q1,q2,q⟩:=q1
 subst e
 cases r1 with
 | cons r rr =>
  cases rr
  obtain⟨t,rfl⟩:=r
  exact call_range_1 (vT I1 (by omega) (by omega) q1 q2 (by simpa using q))
theorem zf {a b:Expr} {ta:TA} {p pos:Pos} (hg:Gl X "range") (hm:X.mg "range" = none) (ha:PA X [a,b] ta) (hs:starEach [a,b] X.env=[(false,eval a X.env),(false,eval b X.env)]:=by rfl) (hs2:starEach [b] X.env=[(false,eval b X.env)]:=by rfl) :
  PI X tg (.Call (.Name "range" p) [a,b] [] pos) (IQ ta):=by
 intro pins s σ H R I h
 refine Call_ (kT I hg hm boot_range (PyProof.Rows.callWith_type1 (b9 (ha pos pins s σ H _ I h) fun us s1 ⟨vs,H1,I1,r1,q1⟩=>?_) (by rw [hs,hs2]) (by rw [hs2];rfl)))
 obtain⟨i,j,e,⟨q1,q2,q3,q4⟩,q⟩:=q1
 subst e
 cases r1 with
 | cons r rr =>
  cases rr with
  | cons r' rr =>
   cases rr
   obtain⟨t,rfl⟩:=r
   obtain⟨t',rfl⟩:=r'
   exact call_range_2 (vT I1 q1 q2 q3 q4 q)
def JL (wi:TI) (g:TG) (tb:TS):TS:=fun D σ H=>wi σ H fun J H1=>∃W:Nat→Nat→St→Hp→Prop,(∃m,W 0 m σ H1)∧∀i m σ H,W i m σ H →
 (J.stop i H∧D.nx σ H)∨(J.go i H∧∃N:St→Hp→Prop,(∀σ' H',N σ' H'→∃m',m' < m∧W (i + 1) m' σ' H')∧∀x H',J.yld i H x H'→g x σ H' fun σ2 H2=>tb { D with nx:=N,ct:=N,bk:=D.nx } σ2 H2)
def o9 (fp:List Addr) (h:Heap):List (Addr×Obj):=fp.filterMap fun b=>(h.get? b).map fun o=>(b,o)
theorem iD {fp:List Addr} {h:Heap} {b:Addr} {o:Obj} (hb:b∈fp) (e:h.get? b=some o):(b,o)∈o9 fp h:=List.mem_filterMap.mpr ⟨b,hb,by rw [e];rfl⟩
theorem zF {fp:List Addr} {h:Heap} {p:Addr×Obj} (hp:p∈o9 fp h):p.1∈fp∧h.get? p.1=some p.2:=by
 obtain⟨b,hb,e⟩:=List.mem_filterMap.mp hp
 cases q:h.get? b with
 | none=>rw [q] at e;cases e
 | some o =>
  rw [q] at e
  have e':(b,o)=p:=K3 e
  subst e'
  exact⟨hb,q⟩
theorem Inv.pinned {pins:List (Addr×Obj)} {σ:St} {H:Hp} {s:Shared} {fp:List Addr} (I:Inv X pins σ H s) (hf:∀b∈fp,nc X pins H b) (ho:∀b∈fp,∃o,s.heap.get? b=some o∧∀v,o.data≠.cell v):Inv X (pins ++ o9 fp s.heap) σ H s :=
 I.yD fun p hp=>(Lf.mp hp).elim (fun z=>I.pin p (List.mem_append_right _ z)) fun z=>by
  obtain⟨hb,e⟩:=zF z
  obtain⟨f0,f1,f2,_⟩:=hf p.1 hb
  obtain⟨o,e',d⟩:=ho p.1 hb
  rw [e] at e';cases e'
  exact⟨e,f0,f1,f2,d⟩
theorem Inv.lC {pins pl:List (Addr×Obj)} {σ:St} {H:Hp} {s:Shared} (I:Inv X (pins ++ pl) σ H s):Inv X pins σ H s:=I.yD fun p hp=>I.pin p (List.mem_append_right _ (List.mem_append_left _ hp))
theorem pA {iter:Expr} {body:List Stmt} {wi:TI} {g:TG} {tb:TS} {pos:Pos} (hp:PassesOwn (model X.prog X.w) X.A X.env X.xe) (hc:X.calm=true) (hi:PI X tg iter wi) (hg:PG X tg g) (hb:uz X body tb)
  (hs:∀x,foldedSetIterable iter X.env x=pure x:=by intro _;rfl):PS X (.For tg iter body [] pos) (JL wi g tb):=by
 intro pins s σ H D I h
 refine wpAny_For (b9 (hi pins s σ H _ I h) fun v s1 h1=>b9 h1 fun itv s2 h2=>?_) hs
 obtain⟨it,fp,tn,J,H2,e,I2,T,st2,f2,W,⟨m0,w0⟩,turn⟩:=h2
 subst e
 have stat:∀{H':Hp},(∀b∈fp,H' b=none)→∀b∈fp,nc X pins H' b:=fun hn b hb=>⟨hn b hb,(f2 b hb).2⟩
 refine codeAny_forLoop_any (fun n s'=>∃i σ' H',Inv X pins σ' H' s'∧tn i s'.heap∧(∀b∈fp,H' b=none)∧W i n σ' H') ?_ m0 ⟨0,σ,H2,I2,st2,fun b hb=>(f2 b hb).1,w0⟩
 rintro n s3 ⟨i,σ3,H3,I3,st3,fr3,w3⟩
 rcases turn i n σ3 H3 w3 with ⟨stop,qn⟩ | ⟨go,N,hN,step⟩
 ·refine wpAny_passesOwn hp (b9 (T.done X rfl rfl rfl hc i pins s3 σ3 H3 X.xe I3 (stat fr3) st3 stop) fun r s4 ⟨hr,I4⟩=>?_)
  subst hr
  exact wpAny_execs_nil ⟨σ3,H3,I4,qn⟩
 ·refine wpAny_passesOwn hp (b9 (T.item X rfl rfl rfl hc i pins s3 σ3 H3 X.xe I3 (stat fr3) st3 go) fun r s4 ⟨u,hr,h4⟩=>?_)
  subst hr
  refine wpAny_passesOwn hp (b9 h4 fun _ s5 hq0=>?_)
  obtain⟨x,H5,I5,r5,y5,st5,fr5⟩:=hq0
  have I5':=I5.pinned (stat fr5) (T.obj _ _ st5)
  refine wpAny_passesOwn hp (b9 (hg _ s5 σ3 H5 x u _ I5' r5 (step x H5 y5)) fun _ s6 ⟨σ6,H6,I6,q6⟩=>?_)
  refine wpAny_passesOwn hp (b9 (hb _ s6 σ6 H6 _ I6 q6) fun f s7 q7=>?_)
  have again:∀{σ7:St} {H7:Hp},Inv X (pins ++ o9 fp s5.heap) σ7 H7 s7→N σ7 H7→∃m,m < n∧∃i σ' H',Inv X pins σ' H' s7∧tn i s7.heap∧(∀b∈fp,H' b=none)∧W i m σ' H':=fun {σ7 H7} I7 n7=>by
   obtain⟨m',hm,w7⟩:=hN σ7 H7 n7
   refine⟨m',hm,i + 1,σ7,H7,I7.lC,T.keep _ _ _ st5 fun b hb o e=>(I7.pin (b,o) (List.mem_append_right _ (List.mem_append_right _ (iD hb e)))).1,fun b hb=>?_,w7⟩
   obtain⟨o,e,d⟩:=T.obj _ _ st5 b hb
   exact (I7.pin (b,o) (List.mem_append_right _ (List.mem_append_right _ (iD hb e)))).2.1
  cases f with
  | next=>obtain⟨σ7,H7,I7,n7⟩:=q7;exact again I7 n7
  | cont=>obtain⟨σ7,H7,I7,n7⟩:=q7;exact again I7 n7
  | brk=>obtain⟨σ7,H7,I7,q7⟩:=q7;exact⟨σ7,H7,I7.lC,q7⟩
  | ret v=>obtain⟨x7,σ7,H7,I7,r7,q7⟩:=q7;exact⟨x7,σ7,H7,I7.lC,r7,q7⟩
end
end L2
namespace L2
open PySem PySem.Spec PyProof.Rows
abbrev R2:=V→V→Hp→VK→Prop
def iX (X:Cx) (f:Value→Value→Sem Value) (r:R2):Prop :=
 ∀(pins:List (Addr×Obj)) (s:Shared) (σ:St) (H:Hp) (x y:V) (v u:Value) (Q:VK),Inv X pins σ H s→RelV x v→RelV y u→r x y H Q →
  wpAny (model X.prog X.w) X.A (f v u) (EP X pins σ Q) X.xe s
def Jl (X:Cx) (f:Value→Sem Value) (r:V→Hp→VK→Prop):Prop :=
 ∀(pins:List (Addr×Obj)) (s:Shared) (σ:St) (H:Hp) (x:V) (v:Value) (Q:VK),Inv X pins σ H s→RelV x v→r x H Q →
  wpAny (model X.prog X.w) X.A (f v) (EP X pins σ Q) X.xe s
def fL (X:Cx) (f:Value) (r:List V→Hp→VK→Prop):Prop :=
 ∀(pins:List (Addr×Obj)) (s:Shared) (σ:St) (H:Hp) (xs:List V) (us:List Value) (Q:VK),Inv X pins σ H s→Vals xs us→r xs H Q →
  wpAny (model X.prog X.w) X.A (call f us) (EP X pins σ Q) X.xe s
def Gi (r:R2) (ta tb:TE):TE:=fun σ H Q=>ta σ H fun x H1=>tb σ H1 fun y H2=>r x y H2 Q
def KD (r:V→Hp→VK→Prop) (ta:TE):TE:=fun σ H Q=>ta σ H fun x H1=>r x H1 Q
def rI (C:Int→Int→Prop) (g:Int→Int→V):R2:=fun x y H Q=>∃i j,x=.int i∧y=.int j∧C i j∧Q (g i j) H
def Av (g:Int→Int→V):R2:=fun x y H Q=>∃i j,x=.int i∧y=.int j∧Q (g i j) H
def rU (g:Int→V):V→Hp→VK→Prop:=fun x H Q=>∃i,x=.int i∧Q (g i) H
section
variable {X:Cx} {a b c:Expr} {ta tb tc:TE} {pos:Pos}
theorem Fu (ha:PE X a ta) (hb:PE X b tb) {pins:List (Addr×Obj)} {s:Shared} {σ:St} {H:Hp} {R:V→V→Hp→Prop} (I:Inv X pins σ H s)
  (h:ta σ H fun x H1=>tb σ H1 fun y H2=>R x y H2) {Q:Value→Shared→Prop} {f:Value→Value→Sem Value}
  (hf:∀v u s2 x y H2,Inv X pins σ H2 s2→RelV x v→RelV y u→R x y H2→wpAny (model X.prog X.w) X.A (f v u) Q X.xe s2) :
  wpAny (model X.prog X.w) X.A (eval a X.env) (fun v s₁=>wpAny (model X.prog X.w) X.A (eval b X.env) (fun u s₂=>wpAny (model X.prog X.w) X.A (f v u) Q X.xe s₂) X.xe s₁) X.xe s:=by
 refine b9 (ha pins s σ H _ I h) fun v s1 hq0=>?_
 obtain⟨x,H1,I1,r1,q1⟩:=hq0
 refine b9 (hb pins s1 σ H1 _ I1 q1) fun u s2 hq0=>?_
 obtain⟨y,H2,I2,r2,q2⟩:=hq0
 exact hf v u s2 x y H2 I2 r1 r2 q2
theorem vF {op:Operator} {r:R2} (ho:iX X (binaryOp op) r) (ha:PE X a ta) (hb:PE X b tb):PE X (.BinOp a op b pos) (Gi r ta tb):=by
 intro pins s σ H Q I h
 exact wpAny_BinOp (Fu ha hb I h fun v u s2 x y H2 I2 rx ry q=>ho pins s2 σ H2 x y v u Q I2 rx ry q)
theorem Hw {op:UnaryOp} {r:V→Hp→VK→Prop} (ho:Jl X (unaryOp op) r) (ha:PE X a ta):PE X (.UnaryOp op a pos) (KD r ta):=by
 intro pins s σ H Q I h
 exact UnaryOp_ (b9 (ha pins s σ H _ I h) fun v s1 ⟨x,H1,I1,r1,q1⟩=>ho pins s1 σ H1 x v Q I1 r1 q1)
theorem Jj {f:Value→Value→Sem Value} {C:Int→Int→Prop} {g:Int→Int→Int}
  (rule:∀(i j:Int) (t u:Tok) (s:Shared) (Q:Value→Shared→Prop) (E:Value→Shared→Prop),C i j→Q (.int (g i j) s.toks) { s with toks:=s.toks + 1 }→wpAny (model X.prog X.w) X.A (f (.int i t) (.int j u)) Q E s) :
  iX X f (rI C fun i j=>.int (g i j)):=by
 intro pins s σ H x y v u Q I rx ry h
 obtain⟨i,j,rfl,rfl,hc,q⟩:=h
 obtain⟨t,rfl⟩:=rx
 obtain⟨t',rfl⟩:=ry
 exact rule i j t t' s _ _ hc ⟨.int (g i j),H,I.tok _,⟨_,rfl⟩,q⟩
theorem Ih {f:Value→Value→Sem Value} {g:Int→Int→Int}
  (rule:∀(i j:Int) (t u:Tok) (s:Shared) (Q:Value→Shared→Prop) (E:Value→Shared→Prop),Q (.int (g i j) s.toks) { s with toks:=s.toks + 1 }→wpAny (model X.prog X.w) X.A (f (.int i t) (.int j u)) Q E s) :
  iX X f (Av fun i j=>.int (g i j)):=by
 intro pins s σ H x y v u Q I rx ry h
 obtain⟨i,j,rfl,rfl,q⟩:=h
 obtain⟨t,rfl⟩:=rx
 obtain⟨t',rfl⟩:=ry
 exact rule i j t t' s _ _ ⟨.int (g i j),H,I.tok _,⟨_,rfl⟩,q⟩
theorem DO {f:Value→Value→Sem Value} {g:Int→Int→Bool}
  (rule:∀(i j:Int) (t u:Tok) (s:Shared) (Q:Value→Shared→Prop) (E:Value→Shared→Prop),Q (.bool (g i j)) s→wpAny (model X.prog X.w) X.A (f (.int i t) (.int j u)) Q E s) :
  iX X f (Av fun i j=>.bl (g i j)):=by
 intro pins s σ H x y v u Q I rx ry h
 obtain⟨i,j,rfl,rfl,q⟩:=h
 obtain⟨t,rfl⟩:=rx
 obtain⟨t',rfl⟩:=ry
 exact rule i j t t' s _ _ ⟨.bl (g i j),H,I,rfl,q⟩
def FC (i j:Int):Prop:=0≤j∧j≤1000000∧i.natAbs < 2 ^ 64
theorem E3:iX X (binaryOp .Add) (Av fun i j=>.int (i + j)):=Ih fun _ _ _ _ _ _ _ q=>add_int q
theorem Gk:iX X (binaryOp .Sub) (Av fun i j=>.int (i - j)):=Ih fun _ _ _ _ _ _ _ q=>sub_int q
theorem yC:iX X (binaryOp .Mod) (rI (fun _ j=>j≠0) fun i j=>.int (i.fmod j)):=Jj fun _ _ _ _ _ _ _ hc q=>mod_int' hc q
theorem FR:iX X (binaryOp .Pow) (rI FC fun i j=>.int (i ^ j.toNat)):=Jj fun _ _ _ _ _ _ _ hc q=>pow_int_small hc.1 hc.2.1 hc.2.2 q
theorem Ku {f:Value→Sem Value} {g:Int→Int}
  (rule:∀(i:Int) (t:Tok) (s:Shared) (Q:Value→Shared→Prop) (E:Value→Shared→Prop),Q (.int (g i) s.toks) { s with toks:=s.toks + 1 }→wpAny (model X.prog X.w) X.A (f (.int i t)) Q E s) :
  Jl X f (rU fun i=>.int (g i)):=by
 intro pins s σ H x v Q I rx h
 obtain⟨i,rfl,q⟩:=h
 obtain⟨t,rfl⟩:=rx
 exact rule i t s _ _ ⟨.int (g i),H,I.tok _,⟨_,rfl⟩,q⟩
theorem Fj:Jl X (unaryOp .USub) (rU fun i=>.int (-i)):=Ku fun _ _ _ _ _ q=>neg_int q
end
section
variable {X:Cx} {a b c:Expr} {ta tb tc:TE} {pos:Pos}
theorem Ca {pins:List (Addr×Obj)} {σ:St} {H:Hp} {s:Shared} {Q:VK} {k k':Bool} (I:Inv X pins σ H s) (q:Q (.bl k) H) (e:k=k'):EP X pins σ Q (.bool k') s:=by
 subst e
 exact⟨.bl k,H,I,rfl,q⟩
theorem Et:iX X (compareOp .Lt) (Av fun i j=>.bl (decide (i < j))):=DO fun _ _ _ _ _ _ _ q=>lt_int q
theorem HY:iX X (compareOp .LtE) (Av fun i j=>.bl (decide (i≤j))):=DO fun _ _ _ _ _ _ _ q=>le_int q
theorem Eo:iX X (compareOp .Gt) (Av fun i j=>.bl (decide (j < i))):=DO fun _ _ _ _ _ _ _ q=>gt_int q
theorem Hu:iX X (compareOp .GtE) (Av fun i j=>.bl (decide (j≤i))):=DO fun _ _ _ _ _ _ _ q=>ge_int q
theorem Gv:iX X (compareOp .Is) (fun x y H Q=>y=.non∧Q (.bl (decide (x=.non))) H):=by
 intro pins s σ H x y v u Q I rx ry h
 obtain⟨rfl,q⟩:=h
 cases ry
 refine is_none_gen (Ca I q ?_)
 cases x <;> first
  | (cases rx;rfl)
  | (obtain⟨t,rfl⟩:=rx;rfl)
theorem CI:iX X (compareOp .IsNot) (fun x y H Q=>y=.non∧Q (.bl (!decide (x=.non))) H):=by
 intro pins s σ H x y v u Q I rx ry h
 obtain⟨rfl,q⟩:=h
 cases ry
 refine isnot_none_gen (Ca I q ?_)
 cases x <;> first
  | (cases rx;rfl)
  | (obtain⟨t,rfl⟩:=rx;rfl)
theorem iX.or {f:Value→Value→Sem Value} {r r':R2} (h:iX X f r) (h':iX X f r'):iX X f (fun x y H Q=>r x y H Q∨r' x y H Q):=by
 intro pins s σ H x y v u Q I rx ry q
 rcases q with q | q
 ·exact h pins s σ H x y v u Q I rx ry q
 ·exact h' pins s σ H x y v u Q I rx ry q
theorem ef (b:Expr) {op:CmpOp} (h:op≠.In:=by decide) (h2:op≠.NotIn:=by decide):behindInMarks op b=false:=by
 have e1:(op == CmpOp.In)=false:=by cases op <;> first | rfl | exact absurd rfl h
 have e2:(op == CmpOp.NotIn)=false:=by cases op <;> first | rfl | exact absurd rfl h2
 cases b <;> simp [behindInMarks,e1,e2]
theorem DV {op:CmpOp} {r:R2} (ho:iX X (compareOp op) r) (ha:PE X a ta) (hb:PE X b tb) (hm:behindInMarks op b=false):PE X (.Compare a [op] [b] pos) (Gi r ta tb):=by
 intro pins s σ H Q I h
 exact wpAny_Compare1 (Fu ha hb I h fun v u s2 x y H2 I2 rx ry q=>ho pins s2 σ H2 x y v u Q I2 rx ry q) hm
def Ik (t:TE):TT:=fun σ H Q=>t σ H fun x H'=>∃k,x=.bl k∧Q k H'
theorem oK {op:CmpOp} {r:R2} (ho:iX X (compareOp op) r) (ha:PE X a ta) (hb:PE X b tb) (hm:behindInMarks op b=false):PT X (.Compare a [op] [b] pos) (Ik (Gi r ta tb)):=by
 intro pins s σ H Q I h
 refine wpAny_isTrue_Compare1 (b9 (ha pins s σ H _ I h) fun v s1 ⟨x,H1,I1,r1,q1⟩=>b9 (hb pins s1 σ H1 _ I1 q1) fun u s2 ⟨y,H2,I2,r2,q2⟩ =>
  b9 (ho pins s2 σ H2 x y v u _ I2 r1 r2 q2) fun c s3 ⟨z,H3,I3,r3,k,e,q3⟩=>?_) hm
 subst e
 cases r3
 exact wpAny_truthy_bool ⟨H3,I3,q3⟩
theorem mW:(sizeLine:Nat) < 2 ^ 63:=by rw [sizeLine_eq];decide
theorem wM:iX X (binaryOp .Add) (fun x y H Q=>∃i j,x=.str i∧y=.str j∧i.length + j.length≤sizeLine∧Q (.str (i ++ j)) H):=by
 intro pins s σ H x y v u Q I rx ry h
 obtain⟨i,j,rfl,rfl,hz,q⟩:=h
 obtain⟨t,rfl⟩:=rx
 obtain⟨t',rfl⟩:=ry
 exact add_str (fun t' tk=>⟨.str (i ++ j),H,I.tok _,⟨_,rfl⟩,q⟩) hz
theorem vals1 {x:V} {us:List Value} (r:Vals [x] us):∃u,us=[u]∧RelV x u:=by
 cases r with
 | cons r1 r2=>cases r2;exact⟨_,rfl,r1⟩
theorem vals2 {x y:V} {us:List Value} (r:Vals [x,y] us):∃u w',us=[u,w']∧RelV x u∧RelV y w':=by
 cases r with
 | cons r1 r2 =>
  cases r2 with
  | cons r3 r4=>cases r4;exact⟨_,_,rfl,r1,r3⟩
theorem BG:fL X (.builtin "abs") (fun xs H Q=>∃i,xs=[.int i]∧Q (.int (if i < 0 then -i else i)) H):=by
 intro pins s σ H xs us Q I r h
 obtain⟨i,rfl,q⟩:=h
 obtain⟨u,rfl,t,rfl⟩:=vals1 r
 exact call_abs_int fun u tk=>⟨.int (if i < 0 then -i else i),H,I.tok _,⟨_,rfl⟩,q⟩
theorem zy:fL X (.type "int") (fun xs H Q=>(∃i,xs=[.int i]∧Q (.int i) H)∨∃k,xs=[.bl k]∧Q (.int (if k then 1 else 0)) H):=by
 intro pins s σ H xs us Q I r h
 rcases h with ⟨i,rfl,q⟩ | ⟨k,rfl,q⟩
 ·obtain⟨u,rfl,t,rfl⟩:=vals1 r
  exact call_int_int ⟨.int i,H,I,⟨_,rfl⟩,q⟩
 ·obtain⟨u,rfl,r1⟩:=vals1 r
  cases r1
  exact call_int_bool ⟨.int (if k then 1 else 0),H,I.tok _,⟨_,rfl⟩,q⟩
end
end L2
namespace L2
open PySem PySem.Spec PyProof.Rows
section
variable {P:Program} {w:World} {H H':Hp} {h h':Heap} {a C dx:Addr} {fs fs':List (Str×V)}
end
section
variable {X:Cx} {pins:List (Addr×Obj)} {σ:St} {H:Hp} {s:Shared} {a C dx:Addr} {fs:List (Str×V)} {f:Str} {v:V} {A:Around} {E:Value→Shared→Prop}
end
end L2
namespace L2
open PySem PySem.Spec PyProof.Rows
structure dg (k:Nat) (A:Around):Prop where
 hd:A.handled=none
 dp:A.depth + 3 * k + 5 < recursionLimit
 un:A.units + 16 * k + 200 < cLine
theorem dg.mono {j k:Nat} {A:Around} (r:dg k A) (h:j≤k):dg j A:=⟨r.hd,by have:=r.dp;omega,by have:=r.un;omega⟩
theorem dg.deeper {k:Nat} {A:Around} (r:dg (k + 1) A) (env:Env):dg k (A.deeper env) :=
 ⟨r.hd,by have:=r.dp;show A.depth + 1 + 3 * k + 5 < _;omega,by have:=r.un;show A.units + 3 + 16 * k + 200 < _;omega⟩
theorem dg.depth {k:Nat} {A:Around} (r:dg k A):A.depth < recursionLimit:=by have:=r.dp;omega
theorem dg.units {k:Nat} {A:Around} (r:dg k A):A.units + 64 < cLine:=by have:=r.un;omega
def Kh:TA:=fun _ H Q=>Q [] H
def IL (ta:TE) (tr:TA):TA:=fun σ H Q=>ta σ H fun x H1=>tr σ H1 fun xs H2=>Q (x :: xs) H2
section
variable {X:Cx} {e:Expr} {es:List Expr} {te:TE} {t:TA} {pos:Pos}
theorem gU:PA X [] Kh:=fun _ _ _ _ H Q I h=>Calls.spliced_nil ⟨[],H,I,.nil,h⟩
theorem fT (ha:PE X e te) (hr:PA X es t) (hs:starEach (e :: es) X.env=(false,eval e X.env) :: starEach es X.env:=by rfl):PA X (e :: es) (IL te t):=by
 intro pos pins s σ H Q I h
 rw [hs]
 show wpAny _ _ (spliced ((false,eval e X.env) :: backTo pos (starEach es X.env))) _ _ s
 refine LK (b9 (ha pins s σ H _ I h) fun u s1 hq0=>?_)
 obtain⟨x,H1,I1,r1,q1⟩:=hq0
 exact b9 (hr pos pins s1 σ H1 _ I1 q1) fun us s2 ⟨xs,H2,I2,r2,q2⟩=>⟨x :: xs,H2,I2,.cons r1 r2,q2⟩
def JH (t:TA):TE:=fun σ H Q=>t σ H fun xs H1=>xs.length≤sizeLine∧∀p,H1 p=none→Q (.ref p) (upd H1 p (.tup xs))
def J8 (t:TA):TE:=fun σ H Q=>t σ H fun xs H1=>xs.length≤sizeLine∧∀p,H1 p=none→Q (.ref p) (upd H1 p (.lst xs))
theorem FW {x1} (h:PA X es t):PE X (.Tuple es x1 pos) (JH t):=by
 intro pins s σ H Q I hq
 refine wpAny_Tuple_spliced (b9 (h pos pins s σ H _ I hq) fun us s1 ⟨xs,H1,I1,r,z,q⟩=>⟨by rw [← r.length];exact z,?_⟩)
 have hf:H1 s1.heap.objs.size=none:=I1.hok.fresh (K0 _)
 refine⟨.ref s1.heap.objs.size,upd H1 s1.heap.objs.size (.tup xs),I1.laid (t':=s1.toks) (fun b u e=>KY _ e) (K0 _) ?_,rfl,q _ hf⟩
 exact⟨z,us,r,⟨_,La _ rfl,rfl,⟨_,rfl⟩,rfl⟩⟩
theorem sv (h:PA X es t):PE X (.List es pos) (J8 t):=by
 intro pins s σ H Q I hq
 refine wpAny_List_spliced (b9 (h pos pins s σ H _ I hq) fun us s1 ⟨xs,H1,I1,r,z,q⟩=>⟨by rw [← r.length];exact z,?_⟩)
 have hf:H1 s1.heap.objs.size=none:=I1.hok.fresh (K0 _)
 refine⟨.ref s1.heap.objs.size,upd H1 s1.heap.objs.size (.lst xs),I1.laid (t':=s1.toks) (fun b u e=>KY _ e) (K0 _) ?_,rfl,q _ hf⟩
 exact⟨z,us,0,r,La _ rfl⟩
end
abbrev Sp:=List V→Hp→VK→XK→Prop
abbrev Af:=List Env→Hp→Shared→XK→Value→Shared→Prop
structure zJ (P:Program) (w:World) (K:PySem.W.Frag) (mg:Str→Option Value) (base:Heap) (A:Around) (outer:List Env) (s:Shared) (H:Hp):Prop where
 frames:A.frames=some outer
 mod:Mod K mg base
 bs:∀b o,base.get? b=some o→s.heap.get? b=some o∧H b=none
 bsz:base.objs.size≤s.heap.objs.size
 lM:s.heap.FunFrames base outer
 frf:∀b∈oz outer,H b=none
 hok:mF P w H s.heap
 bare:AllBare s.gens
def CE (outer:List Env) (P:Program) (w:World) (H:Hp) (s:Shared) (Q:VK) (u:Value) (s':Shared):Prop :=
 ∃v H',s'.os=s.os∧AllBare s'.gens∧Un (oz outer) [] H H' s.heap s'.heap∧mF P w H' s'.heap∧RelV v u∧Q v H'
def CR (CX:Af) (outer:List Env) (P:Program) (w:World) (H:Hp) (s:Shared) (Q:VK) (E:XK) (r:Result) (s':Shared):Prop :=
 match r with
 | .ok (.ret u)=>CE outer P w H s Q u s'
 | .ok _=>False
 | .error e=>CX outer H s E e s'
structure mP (P:Program) (w:World) (K:PySem.W.Frag) (mg:Str→Option Value) (base:Heap) (CX:Af) (k:Nat) (f:Addr) (fd:FuncData) (ps:List Str) (sp:Sp):Prop where
 len:∀vs H Q E,sp vs H Q E→vs.length=ps.length
 run:∀(A:Around) (outer:List Env) (s:Shared) (H:Hp) (args:Args) (us:List Value) (vs:List V) (Q:VK) (E:XK),dg k A→zJ P w K mg base A outer s H→BindsTo s fd args (ps.zip us)→Vals vs us→sp vs H Q E →
  codeAny (model P w) A (.call (.ref f) args) (CR CX outer P w H s Q E) s
section
variable {X:Cx} {pins:List (Addr×Obj)} {σ:St} {H:Hp} {s s':Shared}
theorem Inv.iK (I:Inv X pins σ H s):zJ X.prog X.w X.K X.mg X.base X.A X.stack s H :=
 ⟨I.ok.frames,I.ok.mod,I.bs,LA I.ok.bsz I.sz,I.stack,I.t5,I.hok,I.bare⟩
theorem Inv.after {Q:VK} {u:Value} (I:Inv X pins σ H s) (h:CE X.stack X.prog X.w H s Q u s'):EP X pins σ Q u s':=by
 obtain⟨v,H',os,bare,un,hok,r,q⟩:=h
 obtain⟨hh,g,d,t,os'⟩:=s'
 obtain rfl:os'=s.os:=os
 exact⟨v,H',I.call (h':=hh) (g':=g) (d':=d) (t':=t) (ch:=[]) un hok bare (fun b z=>absurd z (by simp)),r,q⟩
end
def Eu (sp:Sp) (dvs:List V) (E:XK) (t:TA):TE:=fun σ H Q=>t σ H fun vs H1=>sp (vs ++ dvs) H1 Q E
def Binds (K:PySem.W.Frag) (fd:FuncData) (ps:List Str) (ds:List Value):Prop :=
 ∀(s:Shared) (us:List Value),K.In s.heap→(us ++ ds).length=ps.length→BindsTo s fd ⟨us,[]⟩ (ps.zip (us ++ ds))
theorem Binds.all {K:PySem.W.Frag} {fd:FuncData} {ps:List Str} (h:∀us:List Value,us.length=ps.length→bindArgs fd ⟨us,[]⟩=pure (ps.zip us)):Binds K fd ps []:=fun s us _ hl=>by
 rw [Lu] at hl ⊢
 exact .of_eq (h us hl)
def Passes (CX:Af) (X:Cx) (E:XK):Prop:=∀(pins:List (Addr×Obj)) (σ:St) (H:Hp) (s:Shared) (e:Value) (s':Shared),Inv X pins σ H s→CX X.stack H s E e s'→X.xe e s'
section
variable {X:Cx} {CX:Af} {k:Nat} {f C:Addr} {fd:FuncData} {ps:List Str} {sp:Sp} {dvs:List V} {ds:List Value} {E:XK} {x m:Str} {p pos apos:Pos} {e o:Expr} {es:List Expr} {ta:TE} {t:TA}
theorem GI {pins:List (Addr×Obj)} {σ:St} {H:Hp} {s:Shared} {Q:VK} {us:List Value} {vs:List V} (F:mP X.prog X.w X.K X.mg X.base CX k f fd ps sp) (hr:dg k X.A) (hb:Binds X.K fd ps ds) (hd:Vals dvs ds) (hx:Passes CX X E)
  (I:Inv X pins σ H s) (r:Vals vs us) (h:sp (vs ++ dvs) H Q E):wpAny (model X.prog X.w) X.A (call (.ref f) us) (EP X pins σ Q) X.xe s:=by
 have r2:Vals (vs ++ dvs) (us ++ ds):=r.append hd
 have hl:(us ++ ds).length=ps.length:=by rw [← r2.length];exact F.len _ _ _ _ h
 refine wpAny_call (codeAny_mono (F.run X.A X.stack s H ⟨us,[]⟩ (us ++ ds) (vs ++ dvs) Q E hr I.iK (hb s us I.yH hl) r2 h) fun r s' hq=>?_)
 cases r with
 | error e=>exact hx pins σ H s e s' I hq
 | ok fl =>
  cases fl with
  | ret u=>exact I.after hq
  | next=>exact False.elim hq
  | brk=>exact False.elim hq
  | cont=>exact False.elim hq
theorem yW (F:mP X.prog X.w X.K X.mg X.base CX k f fd ps sp) (hr:dg k X.A) (hg:Gl X x) (hm:X.mg x=some (.ref f)) (hk:PySem.W.keepIn X.K (.ref f)=true) (hb:Binds X.K fd ps ds) (hd:Vals dvs ds) (hx:Passes CX X E)
  (ha:PA X (e :: es) t) (hdb:(x == ("__debug__" : Str))=false:=by decide) (he:starEach (e :: es) X.env=(false,eval e X.env) :: starEach es X.env:=by rfl) (hpl:(backTo pos (starEach es X.env)).any (·.1)=false:=by rfl) :
  PE X (.Call (.Name x p) (e :: es) [] pos) (Eu sp dvs E t):=by
 intro pins s σ H Q I h
 refine wpAny_Call_Name_kw (gN I hg hm ?_ hdb)
 refine PySem.W.callWith_K (h₀:=X.base) I.ok.mod.kin hk (b9 (ha pos pins s σ H _ I h) fun us s1 ⟨vs,H1,I1,r,q⟩=>⟨I1.yH,?_⟩) he hpl
 exact GI F hr hb hd hx I1 r q
end
structure aD (N P:List Str) (sc:Scope):Prop where
 kind:sc.kind=.function
 co:sc.isCoroutine=false
 gen:sc.isGenerator=false
 nd:N.Nodup
 pre:N.take P.length=P
 par:∀x∈P,sc.names.lookup x=some .local∨sc.names.lookup x=some .cell
 nofree:∀y∈sc.names,y.2≠.free
theorem qX {kindOf:Str→Option NameKind} {x:Str}:∀{binds:List (Str×Value)} {m:Str→Option Value},(∀v,(x,v)∉binds)→bindL kindOf binds m x=m x
 | [],_,_=>rfl
 | (n,v) :: r,m,h=>by
  unfold bindL
  rw [qX fun w hw=>h w (K4 _ hw)]
  split
  ·have:x≠n:=by rintro rfl;exact h v K9
   simp [this]
  ·rfl
theorem rP {kindOf:Str→Option NameKind} {x:Str}:∀{binds:List (Str×Value)} {m:Str→Option Value},(∀v,(x,v)∉binds)→bindC kindOf binds m x=m x
 | [],_,_=>rfl
 | (n,v) :: r,m,h=>by
  unfold bindC
  rw [rP fun w hw=>h w (K4 _ hw)]
  split
  ·rfl
  ·have:x≠n:=by rintro rfl;exact h v K9
   simp [this]
theorem rm {kindOf:Str→Option NameKind} {x:Str} {v:Value}:∀{P:List Str} {vs:List Value} {i:Nat} {m:Str→Option Value},P.Nodup→P[i]?=some x→vs[i]?=some v→kindOf x=some .local →
  bindL kindOf (P.zip vs) m x=some v
 | [],_,_,_,_,h,_,_=>by simp at h
 | _ :: _,[],_,_,_,_,h,_=>by simp at h
 | p :: P,w :: vs,0,m,nd,h1,h2,hk=>by
  simp at h1 h2;subst h1;subst h2
  show bindL kindOf ((p,w) :: P.zip vs) m p=_
  unfold bindL
  rw [qX fun v hv=>(LC.mp nd).1 (List.of_mem_zip hv).1,KS hk]
  simp
 | p :: P,w :: vs,i + 1,m,nd,h1,h2,hk=>by
  show bindL kindOf ((p,w) :: P.zip vs) m x=_
  unfold bindL
  exact rm (i:=i) (LC.mp nd).2 (by simpa using h1) (by simpa using h2) hk
theorem qZ {kindOf:Str→Option NameKind} {x:Str} {v:Value}:∀{P:List Str} {vs:List Value} {i:Nat} {m:Str→Option Value},P.Nodup→P[i]?=some x→vs[i]?=some v→kindOf x≠some .local →
  bindC kindOf (P.zip vs) m x=some v
 | [],_,_,_,_,h,_,_=>by simp at h
 | _ :: _,[],_,_,_,_,h,_=>by simp at h
 | p :: P,w :: vs,0,m,nd,h1,h2,hk=>by
  simp at h1 h2;subst h1;subst h2
  show bindC kindOf ((p,w) :: P.zip vs) m p=_
  unfold bindC
  rw [rP fun v hv=>(LC.mp nd).1 (List.of_mem_zip hv).1,KQ hk]
  simp
 | p :: P,w :: vs,i + 1,m,nd,h1,h2,hk=>by
  show bindC kindOf ((p,w) :: P.zip vs) m x=_
  unfold bindC
  exact qZ (i:=i) (LC.mp nd).2 (by simpa using h1) (by simpa using h2) hk
def start (N:List Str) (vs:List V):St:=vs.map some ++ List.replicate (N.length - vs.length) none
def gw (CX:Af) (P:Program) (w:World) (K:PySem.W.Frag) (mg:Str→Option Value) (base:Heap) (N:List Str) (qual:Str) (scope:Scope) (f:Addr) (cd:Value) (A:Around) (outer:List Env) (s:Shared) (H:Hp) (E:XK):Cx where
 prog:=P
 w:=w
 K:=K
 mg:=mg
 base:=base
 A:=A.deeper (envOfC qual scope s.heap.objs.size f cd)
 N:=N
 s₀:=s
 H₀:=H
 env:=envOfC qual scope s.heap.objs.size f cd
 outer:=outer
 stack:=envOfC qual scope s.heap.objs.size f cd :: outer
 ex:=[]
 calm:=true
 fn:=fun _=>true
 pn:=[]
 xe:=fun e s'=>wpAny (model P w) (A.deeper (envOfC qual scope s.heap.objs.size f cd)) (leaving (envOfC qual scope s.heap.objs.size f cd) e) (fun _ s''=>CX outer H s E e s'') (fun e' s''=>CX outer H s E e' s'') s'
theorem vS {sc:Scope} {n:Nat} {x:Str} (h:sc.names.lookup x=some .cell):∃c,(cellsFrom n sc.names []).lookup x=some c:=by
 have q:=PySem.W.cellsFrom_some sc.names n [] (.inl h)
 exact Option.isSome_iff_exists.mp q
theorem rB {CX:Af} {P:Program} {w:World} {K:PySem.W.Frag} {mg:Str→Option Value} {base:Heap} {N ps:List Str} {qual:Str} {scope:Scope} {f:Addr} {cd:Value} {A:Around} {outer:List Env} {s s1:Shared} {H:Hp} {E:XK} {us:List Value} {vs:List V}
  (S:aD N ps scope) (hd:A.handled=none) (e0:zJ P w K mg base A outer s H) (hl:vs.length=ps.length) (r:Vals vs us)
  (x:InCallC s s.heap.objs.size (bindL (envOfC qual scope s.heap.objs.size f cd).kindOf (ps.zip us) fun _=>none) (cellsFrom (s.heap.objs.size + 1) scope.names []) (bindC (envOfC qual scope s.heap.objs.size f cd).kindOf (ps.zip us) fun _=>none) s1) :
  Inv (gw CX P w K mg base N qual scope f cd A outer s H E) [] (start N vs) H s1:=by
 have hpl:ps.length≤N.length:=by have:=congrArg List.length S.pre;rw [List.length_take] at this;omega
 obtain⟨h1,tk,rfl,hk⟩:=x.done
 have noA:∀b:Addr,b∉(gw CX P w K mg base N qual scope f cd A outer s H E).ex:=fun b z=>absurd (show b∈([]:List Addr) from z) (by simp)
 refine⟨⟨e0.mod,S.kind,rfl,rfl,K0 _,fun y z c h1 h2=>?_,fun y hy=>?_,fun y c _ h=>?_,fun _=>hd,Around.frames_deeper e0.frames,.inr ⟨rfl,rfl⟩,fun b z=>absurd z (noA b),e0.bs,e0.bsz,fun b _ _=>noA b,fun b z=>absurd z (noA b),e0.lM,e0.frf⟩,
  rfl,e0.bare,Un.kept hk,⟨_,x.toInCall.ns,fun i y v h1 h2 h3=>?_⟩,fun y c h=>⟨_,x.cell y c h⟩,e0.hok.fresh (K0 _),fun y c h=>?_,fun p hp=>absurd (show p∈([]:List (Addr×Obj)) from hp) (by simp),e0.hok.kept hk,?_⟩
 ·exact name_of_addr x.apart (PySem.mem_of_lookup h1) (PySem.mem_of_lookup h2)
 ·have hy:scope.names.lookup y=some .cell∨scope.names.lookup y=some .free:=hy
  rcases hy with hy | hy
  ·exact vS hy
  ·exact absurd rfl (S.nofree _ (PySem.mem_of_lookup hy))
 ·exact Nat.le_of_lt (x.above y c (PySem.mem_of_lookup h))
 ·have hi:i < vs.length:=by
   unfold start at h2
   by_cases hi:i < vs.length
   ·exact hi
   ·rw [Lc (by simpa using hi)] at h2
    rw [Lk] at h2
    split at h2 <;> cases h2
  have ha:vs[i]?=some v:=by
   unfold start at h2
   rw [Lb (by simpa using hi),KU] at h2
   cases e:vs[i]? with
   | none=>rw [e] at h2;cases h2
   | some a=>rw [e] at h2;cases h2;rfl
  obtain⟨u,hu,rv⟩:=r.get ha
  have hp:ps[i]?=some y:=by
   rw [← S.pre,List.getElem?_take_of_lt (by omega)];exact h1
  have ndP:ps.Nodup:=by rw [← S.pre];exact S.nd.sublist (List.take_sublist _ _)
  refine⟨u,rv,?_⟩
  rcases S.par y (K6 hp) with k | k
  ·exact .inl ⟨k,rm ndP hp hu k⟩
  ·obtain⟨c,e⟩:=vS (n:=s.heap.objs.size + 1) k
   refine .inr ⟨.inl k,c,e,?_⟩
   have q:=x.cell y c e
   rw [qZ ndP hp hu (by show scope.names.lookup y≠_;rw [k];decide)] at q
   exact q
 ·exact e0.hok.fresh (Nat.le_of_lt (x.above y c (PySem.mem_of_lookup h)))
 ·unfold start
  show _=N.length
  rw [Lh,KZ,List.length_replicate]
  omega
theorem yg {CX:Af} {P:Program} {w:World} {K:PySem.W.Frag} {mg:Str→Option Value} {base:Heap} {k:Nat} {f:Addr} {name qual:Str} {params:Arguments} {body:List Stmt} {scope:Scope} {dV kV doc pm cdv ct oc:Value} {an od:Option Addr}
  {osl:Array (Option Value)} {N ps:List Str} {sp:Sp} (lk:K.lookup f=some ⟨oc,od,.func (PySem.W.fnOf name qual params body scope dV kV doc pm an cdv ct),osl⟩) (hcd:PySem.W.codeIn K cdv qual=true) (S:aD N ps scope)
  (len:∀vs H Q E,sp vs H Q E→vs.length=ps.length)
  (hbody:∀(A:Around) (outer:List Env) (s:Shared) (H:Hp) (vs:List V) (Q:VK) (E:XK),dg k (A.deeper (envOfC qual scope s.heap.objs.size f cdv))→sp vs H Q E →
   ∃t,uz (gw CX P w K mg base N qual scope f cdv A outer s H E) body t∧t { nx:=fun _ H'=>Q .non H',rt:=Q } (start N vs) H) :
  mP P w K mg base CX (k + 1) f (PySem.W.fnOf name qual params body scope dV kV doc pm an cdv ct) ps sp:=by
 refine⟨len,fun A outer s H args us vs Q E hr e0 hb r hsp=>?_⟩
 have hl:=len _ _ _ _ hsp
 have KX:K.In s.heap:=e0.mod.kin.keeps fun b o e=>(e0.bs b o e).1
 have lim:s.heap.NoLimit:=e0.mod.nolimit.keeps fun b o e=>(e0.bs b o e).1
 have hkind:∀y∈ps.zip us,scope.names.lookup y.1=some .local∨(scope.names.lookup y.1=some .cell∧((cellsFrom (s.heap.objs.size + 1) scope.names []).lookup y.1).isSome=true):=fun⟨n,v⟩ hy=>by
  rcases S.par n (List.of_mem_zip hy).1 with q | q
  ·exact .inl q
  ·exact .inr ⟨q,PySem.W.cellsFrom_some _ _ _ (.inl q)⟩
 refine codeAny_call_function hr.depth (KX _ _ lk) rfl S.co S.gen rfl (PySem.W.codeRec_of KX hcd) (hb _ _ _ _ ?_)
 refine wpAny_newFunctionEnv_cells S.kind hkind fun env he s1 x=>?_
 subst he
 refine⟨lim.keeps x.toInCall.keep,codeAny_func ?_⟩
 obtain⟨t,ht,hq⟩:=hbody A outer s H vs Q E (hr.deeper _) hsp
 have I:Inv (gw CX P w K mg base N qual scope f cdv A outer s H E) [] (start N vs) H s1:=rB S hr.hd e0 hl r x
 refine Li (ht [] s1 (start N vs) H _ I hq) (fun fl s' hs=>?_) fun e s' hs=>hs
 have fin:∀{σ':St} {H':Hp} {v:V} {u:Value},Inv (gw CX P w K mg base N qual scope f cdv A outer s H E) [] σ' H' s'→RelV v u→Q v H'→CE outer P w H s Q u s' :=
  fun {σ' H' v u} J rv q=>⟨v,H',J.os,J.bare,J.base,J.hok,rv,q⟩
 cases fl with
 | ret u =>
  obtain⟨v,σ',H',J,rv,q⟩:=hs
  exact fin J rv q
 | next =>
  obtain⟨σ',H',J,q⟩:=hs
  exact fin (v:=V.non) (u:=Value.none) J rfl q
 | brk =>
  obtain⟨_,_,_,q⟩:=hs
  exact False.elim q
 | cont =>
  obtain⟨_,_,_,q⟩:=hs
  exact False.elim q
end L2
namespace L2
open PySem PySem.Spec PyProof.Rows
section
variable {X:Cx} {x:Str} {p pos:Pos} {e:Expr} {es:List Expr} {t:TA} {id T:String} {r:List V→Hp→VK→Prop}
def Kc (r:List V→Hp→VK→Prop) (t:TA):TE:=fun σ H Q=>t σ H fun vs H1=>r vs H1 Q
theorem uV (hc:fL X (.builtin id) r) (hg:Gl X x) (hm:X.mg x=none) (hv:bootBuiltins x=some (.builtin id)) (ha:PA X (e :: es) t) (hn:x≠"__name__":=by decide) (hdb:(x == ("__debug__" : Str))=false:=by decide)
  (he:starEach (e :: es) X.env=(false,eval e X.env) :: starEach es X.env:=by rfl) (hpl:(backTo pos (starEach es X.env)).any (·.1)=false:=by rfl):PE X (.Call (.Name x p) (e :: es) [] pos) (Kc r t):=by
 intro pins s σ H Q I h
 refine wpAny_Call_Name_kw (kT I hg hm hv ?_ hn hdb)
 exact PyProof.Rows.callWith_builtin1 (b9 (ha pos pins s σ H _ I h) fun us s1 ⟨vs,H1,I1,r1,q1⟩=>hc pins s1 σ H1 vs us Q I1 r1 q1) he hpl
theorem nE (hc:fL X (.type T) r) (hg:Gl X x) (hm:X.mg x=none) (hv:bootBuiltins x=some (.type T)) (ha:PA X (e :: es) t) (hn:x≠"__name__":=by decide) (hdb:(x == ("__debug__" : Str))=false:=by decide)
  (he:starEach (e :: es) X.env=(false,eval e X.env) :: starEach es X.env:=by rfl) (hpl:(backTo pos (starEach es X.env)).any (·.1)=false:=by rfl):PE X (.Call (.Name x p) (e :: es) [] pos) (Kc r t):=by
 intro pins s σ H Q I h
 refine wpAny_Call_Name_kw (kT I hg hm hv ?_ hn hdb)
 exact PyProof.Rows.callWith_type1 (b9 (ha pos pins s σ H _ I h) fun us s1 ⟨vs,H1,I1,r1,q1⟩=>hc pins s1 σ H1 vs us Q I1 r1 q1) he hpl
end
end L2
namespace HT
open PySem PyProof.Rows
section
variable {prog:Program} {w:World} {A:Around} {E:Value→Shared→Prop} {s:Shared}
theorem DW {t b:Addr} {vs ws:List Value} {Q:Value→Shared→Prop} (ht:IsTup s.heap t vs.toArray) (hb:IsTup s.heap b ws.toArray) (hv:vs≠[])
  (h1:ws=[]→Q (.ref t) s) (h2:ws≠[]→Q (.ref s.heap.objs.size) { s with heap:=s.heap.push { cls:=.type "tuple",data:=.seq (vs ++ ws).toArray } })
  (hsz:vs.length + ws.length≤sizeLine):wpAny (model prog w) A (binaryOp .Add (.ref t) (.ref b)) Q E s:=by
 obtain⟨⟨cls,dd,data,sl⟩,ho,hc,n,hd⟩:=id ht
 obtain⟨⟨cls2,dd2,data2,sl2⟩,ho2,hc2,n2,hd2⟩:=id hb
 simp only at hc hd hc2 hd2
 subst hc hd hc2 hd2
 have e:vs.toArray ++ ws.toArray=(vs ++ ws).toArray:=by simp
 by_cases hw:ws=[]
 ·exact concat_meets ⟨_,ho,rfl⟩ ⟨_,ho2,rfl⟩ noFill_tuple_add seq_tuple_add PySem.F.slot_tuple_add PySem.F.entry_tuple_add (PySem.F.args_tuple_add_2 _ _)
   (tuple_addW1 t b vs.toArray ws.toArray n n2 dd dd2 sl sl2 (by simpa using hv) (by simp [hw])) ⟨ho,ho2,h1 hw⟩
 ·refine concat_meets ⟨_,ho,rfl⟩ ⟨_,ho2,rfl⟩ noFill_tuple_add seq_tuple_add PySem.F.slot_tuple_add PySem.F.entry_tuple_add (PySem.F.args_tuple_add_2 _ _)
   (tuple_addW2 t b vs.toArray ws.toArray n n2 dd dd2 sl sl2 (by simpa using hv) (by simpa using hw) (by rw [K5,K5];exact hsz)) ⟨ho,ho2,?_⟩
  rw [e]
  exact h2 hw
def d4 (n d:Nat):Option Int→Nat
 | none=>d
 | some v=>if v < 0 then (v + (n:Int)).toNat else min v.toNat n
theorem oC (n d k:Nat):d4 n d (some (k:Int))=min k n:=by
 show (if (k:Int) < 0 then ((k:Int) + (n:Int)).toNat else min (k:Int).toNat n)=min k n
 rw [KQ (by omega),Int.toNat_natCast]
theorem G6 (n d:Nat) (hd:d≤n) (o:Option Int):d4 n d o≤n:=by
 cases o with
 | none=>exact hd
 | some v =>
  show (if v < 0 then (v + (n:Int)).toNat else min v.toNat n)≤n
  by_cases hv:v < 0
  ·rw [KS hv];omega
  ·rw [KQ hv];exact Nat.min_le_right _ _
theorem yd (v:Int) (n d:Nat):(if v < 0 then max (v + (n:Int)) 0 else min v (n:Int))=((d4 n d (some v):Nat):Int):=by
 show (if v < 0 then max (v + (n:Int)) 0 else min v (n:Int))=(((if v < 0 then (v + (n:Int)).toNat else min v.toNat n):Nat):Int)
 by_cases hv:v < 0
 ·simp only [KS hv];omega
 ·simp only [KQ hv];omega
theorem xF (lo hi:Option Int) (n:Nat):Builtin.Slice.sliceAdjust lo hi 1 (n:Int)=(((d4 n 0 lo:Nat):Int),((d4 n n hi:Nat):Int)):=by
 have h1:¬ ((1:Int) < 0):=by omega
 unfold Builtin.Slice.sliceAdjust
 simp only [h1,if_false]
 refine Prod.ext ?_ ?_
 ·cases lo with
  | none=>rfl
  | some v=>exact yd v n 0
 ·cases hi with
  | none=>rfl
  | some v=>exact yd v n n
theorem xS (i j:Nat):Builtin.Slice.slicePlaces (i:Int) (j:Int) 1=j - i:=by
 unfold Builtin.Slice.slicePlaces
 have h1:(1:Int) > 0:=by omega
 simp only [h1,if_true,Int.ediv_one]
 split <;> omega
theorem oP {v:Value} {o:Option Int} {Q:Option Int→Shared→Prop} (p:IsPart v o) (h:Q o s):wpAny (model prog w) A (Builtin.Slice.slicePartIndex v) Q E s:=by
 cases p with
 | none=>exact slicePart_none h
 | int i t=>exact slicePart_int h
theorem mL {sl:Addr} {vl vu:Value} {lo hi:Option Int} {n:Nat} {Q:Int×Int×Nat→Shared→Prop} (hs:s.heap.IsSliceOf sl vl vu .none) (pl:IsPart vl lo) (pu:IsPart vu hi)
  (h:Q (((d4 n 0 lo:Nat):Int),1,d4 n n hi - d4 n 0 lo) s):wpAny (model prog w) A (Builtin.Slice.sliceApplied (.ref sl) (pure (n:Int))) Q E s:=by
 obtain⟨os,hos,hcs,hds⟩:=id hs
 unfold Builtin.Slice.sliceApplied Builtin.Slice.sliceFields
 refine KJ (KJ (wpAny_field hos hds (x:=vl) rfl (KJ (wpAny_field hos hds (x:=vu) rfl (KJ (wpAny_field hos hds (x:=.none) rfl (KO ?_)))))))
 refine KJ (slicePart_none ?_)
 show wpAny _ _ (if ((1:Int) == 0)=true then _ else _) _ _ s
 rw [KQ (by decide)]
 refine KJ (oP pl (KJ (oP pu (KJ (KO ?_)))))
 show wpAny _ _ (match Builtin.Slice.sliceAdjust lo hi 1 (n:Int) with | (lo,hi)=>pure (lo,(1:Int),Builtin.Slice.slicePlaces lo hi 1)) _ _ s
 rw [xF lo hi n]
 show wpAny _ _ (pure (((d4 n 0 lo:Nat):Int),(1:Int),Builtin.Slice.slicePlaces ((d4 n 0 lo:Nat):Int) ((d4 n n hi:Nat):Int) 1)) _ _ s
 rw [xS]
 exact KO h
theorem B9 (xs:Array Value) (i k:Nat):((List.range k).filterMap fun (m:Nat)=>xs[((i:Int) + (m:Int) * 1).toNat]?).toArray=((xs.toList.drop i).take k).toArray:=by
 have e:(fun (m:Nat)=>xs[((i:Int) + (m:Int) * 1).toNat]?)=fun m=>xs[i + m]?:=by
  funext m
  have:((i:Int) + (m:Int) * 1).toNat=i + m:=by omega
  rw [this]
 rw [e]
 have:=pick_run xs i k
 rw [List.filterMap_map] at this
 have e2:((fun x=>xs[x]?)∘fun x=>i + x)=fun m=>xs[i + m]?:=rfl
 rw [e2] at this
 rw [this]
theorem mf {t sl:Addr} {items:Array Value} {vl vu:Value} {lo hi:Option Int} {Q:Value→Shared→Prop} (ht:IsTup s.heap t items) (hs:s.heap.IsSliceOf sl vl vu .none) (pl:IsPart vl lo) (pu:IsPart vu hi)
  (hw:¬ (d4 items.size 0 lo=0∧d4 items.size items.size hi=items.size))
  (h:Q (.ref s.heap.objs.size) { s with heap:=s.heap.push { cls:=.type "tuple",data:=.seq ((items.toList.drop (d4 items.size 0 lo)).take (d4 items.size items.size hi - d4 items.size 0 lo)).toArray } })
  (hsz:items.size≤sizeLine):wpAny (model prog w) A (getItem (.ref t) (.ref sl)) Q E s:=by
 have htake:sizeOk (.seq ((items.toList.drop (d4 items.size 0 lo)).take (d4 items.size items.size hi - d4 items.size 0 lo)).toArray):=by
  show ((items.toList.drop (d4 items.size 0 lo)).take (d4 items.size items.size hi - d4 items.size 0 lo)).toArray.size≤sizeLine
  rw [K5,List.length_take,List.length_drop,Array.length_toList]
  omega
 have hj:d4 items.size items.size hi≤items.size:=G6 _ _ (K0 _) hi
 obtain⟨os,hos,hcs,hds⟩:=id hs
 have hTs:s.TypeIs (.ref sl) "slice":=⟨os,hos,hcs⟩
 unfold getItem
 try with_reducible refine wpAny_holding ?_
 first | refine KJ (KO ?_) | skip
 refine KJ (wpAny_sequenceKey ht.typeIs (by decide) ?_)
 refine KJ (wpAny_callSpecial?_slot (name:=Str.ofString "__getitem__") ht.typeIs PyProof.Rows.slot_tuple_getitem
  (wpAny_call_entry PyProof.Rows.slot_tuple_getitem ht.typeIs entry_tuple_getitem ?_ (args_tuple_getitem _ _)))
 show wpAny _ _ (Builtin.Tuple.tupleItemsOf (.ref t) >>= _) _ _ s
 refine KJ (tupleItemsOf_ ht ?_)
 refine KJ (wpAny_typeOf hTs ?_)
 rw [KS (by decide)]
 refine KJ (mL hs pl pu ?_)
 have hno:¬ ((((d4 items.size 0 lo:Nat):Int) == 0 && (1:Int) == 1 && (d4 items.size items.size hi - d4 items.size 0 lo) == items.size)=true):=by
  intro q
  rw [Bool.and_eq_true,Bool.and_eq_true] at q
  have q1:((d4 items.size 0 lo:Nat):Int)=0:=eq_of_beq q.1.1
  have q2:d4 items.size items.size hi - d4 items.size 0 lo=items.size:=eq_of_beq q.2
  exact hw ⟨by omega,by omega⟩
 show wpAny _ _ (if (((d4 items.size 0 lo:Nat):Int) == 0 && (1:Int) == 1 && (d4 items.size items.size hi - d4 items.size 0 lo) == items.size)=true then _ else _) _ _ s
 rw [KQ hno,B9]
 first
  | exact KJ (m:=Builtin.Tuple.tupleExact _) (wpAny_newObj_type (KO ⟨_,rfl,KO h⟩) htake)
  | exact KJ (m:=Builtin.Tuple.tupleExact _) (wpAny_newObj_type (KJ (KO (KO ⟨_,rfl,KO h⟩))) htake)
  | exact KJ (KJ (m:=Builtin.Tuple.tupleExact _) (wpAny_newObj_type (KO (KO ⟨_,rfl,KO h⟩)) htake))
  | exact KJ (KJ (m:=Builtin.Tuple.tupleExact _) (wpAny_newObj_type (KO ⟨_,rfl,KO h⟩) htake))
end
end HT
namespace L2
open PySem PySem.Spec PyProof.Rows
abbrev TO:=St→Hp→(Option Int→Hp→Prop)→Prop
def PO (X:Cx) (e:Option Expr) (t:TO):Prop :=
 ∀(pins:List (Addr×Obj)) (s:Shared) (σ:St) (H:Hp) (Q:Option Int→Hp→Prop),Inv X pins σ H s→t σ H Q →
  wpAny (model X.prog X.w) X.A (evalPart e X.env) (fun u s'=>∃o H',Inv X pins σ H' s'∧IsPart u o∧Q o H') X.xe s
def CJ:TO:=fun _ H Q=>Q none H
def IB (t:TE):TO:=fun σ H Q=>t σ H fun x H1=>∃i,x=.int i∧Q (some i) H1
section
variable {X:Cx} {e:Expr} {te:TE} {lo hi:Option Expr} {tl th:TO} {pos p2:Pos}
theorem CN:PO X none CJ:=by
 intro pins s σ H Q I h
 rw [evalPart_none]
 exact KO ⟨none,H,I,.none,h⟩
theorem Dm (h:PE X e te):PO X (some e) (IB te):=by
 intro pins s σ H Q I hw
 rw [evalPart_some]
 refine b9 (h pins s σ H _ I hw) fun u s1 hq0=>?_
 obtain⟨x,H1,I1,r1,q1⟩:=hq0
 obtain⟨i,rfl,q⟩:=q1
 obtain⟨t,rfl⟩:=r1
 exact⟨some i,H1,I1,.int i t,q⟩
def Ds (X:Cx) (r:V→Option Int→Option Int→Hp→VK→Prop):Prop :=
 ∀(pins:List (Addr×Obj)) (s:Shared) (σ:St) (H:Hp) (x:V) (v vl vu:Value) (lo hi:Option Int) (sl:Addr) (Q:VK),Inv X pins σ H s→RelV x v→s.heap.IsSliceOf sl vl vu .none→IsPart vl lo→IsPart vu hi→r x lo hi H Q →
  ∃T id,typeLookup (.type T) "__getitem__" = pure (some (.builtin id))∧s.TypeIs v T∧wpAny (model X.prog X.w) X.A (getItem v (.ref sl)) (EP X pins σ Q) X.xe s
theorem Ds.or {r r':V→Option Int→Option Int→Hp→VK→Prop} (h:Ds X r) (h':Ds X r'):Ds X (fun x lo hi H Q=>r x lo hi H Q∨r' x lo hi H Q):=by
 intro pins s σ H x v vl vu lo hi sl Q I rx hs pl pu q
 rcases q with q | q
 ·exact h pins s σ H x v vl vu lo hi sl Q I rx hs pl pu q
 ·exact h' pins s σ H x v vl vu lo hi sl Q I rx hs pl pu q
def KA (r:V→Option Int→Option Int→Hp→VK→Prop) (te:TE) (tl th:TO):TE:=fun σ H Q=>te σ H fun x H1=>tl σ H1 fun l H2=>th σ H2 fun u H3=>r x l u H3 Q
theorem vR {r:V→Option Int→Option Int→Hp→VK→Prop} (hr:Ds X r) (he:PE X e te) (hl:PO X lo tl) (hu:PO X hi th):PE X (.Subscript e (.Slice lo hi none p2) pos) (KA r te tl th):=by
 intro pins s σ H Q I h
 refine Subscript_ (b9 (he pins s σ H _ I h) fun v s1 hq0=>?_)
 obtain⟨x,H1,I1,r1,q1⟩:=hq0
 refine wpAny_Slice (b9 (hl pins s1 σ H1 _ I1 q1) fun vl s2 ⟨l,H2,I2,pl,q2⟩=>b9 (hu pins s2 σ H2 _ I2 q2) fun vu s3 hq0=>?_)
 obtain⟨u,H3,I3,pu,q3⟩:=hq0
 rw [evalPart_none]
 refine KO ?_
 have I4:Inv X pins σ H3 { s3 with heap:=s3.heap.push { cls:=.type "slice",data:=.fields #[vl,vu,.none] } }:=I3.kept (t':=s3.toks) fun b ob q=>KY _ q
 obtain⟨T,id,hT,ht,hg⟩:=hr pins { s3 with heap:=s3.heap.push { cls:=.type "slice",data:=.fields #[vl,vu,.none] } } σ H3 x v vl vu l u s3.heap.objs.size Q I4 r1 (Heap.IsSliceOf.new ..) pl pu q3
 show wpAny (model X.prog X.w) X.A (subscriptTail e (.Slice lo hi none p2) v (.ref s3.heap.objs.size)) (EP X pins σ Q) X.xe { s3 with heap:=s3.heap.push { cls:=.type "slice",data:=.fields #[vl,vu,.none] } }
 exact tail_any (ops:=[.ref s3.heap.objs.size,v]) ht hT hg (by with_unfolding_all rfl)
def qO (xs:List V) (lo hi:Option Int):List V:=(xs.drop (HT.d4 xs.length 0 lo)).take (HT.d4 xs.length xs.length hi - HT.d4 xs.length 0 lo)
theorem nK (xs:List V) (lo hi:Option Int):(qO xs lo hi).length≤xs.length:=by
 unfold qO
 rw [List.length_take,List.length_drop]
 omega
def JB (K:PySem.W.Frag):V→Option Int→Option Int→Hp→VK→Prop:=fun x lo hi H Q=>∃a xs,x=.ref a∧iZ K H a xs ∧
 ¬ (HT.d4 xs.length 0 lo=0∧HT.d4 xs.length xs.length hi=xs.length)∧∀p,H p=none→Q (.ref p) (upd H p (.tup (qO xs lo hi)))
theorem FD:Ds X (JB X.K):=by
 intro pins s σ H x v vl vu lo hi sl Q I rx hs pl pu h
 obtain⟨a,xs,rfl,hx,hw,q⟩:=h
 cases rx
 obtain⟨its,r,ht,hz⟩:=I.tuple hx
 have hlen:its.toArray.size=xs.length:=by rw [K5];exact r.length.symm
 refine⟨"tuple",_,PyProof.Rows.slot_tuple_getitem.lookup,ht.typeIs,?_⟩
 refine HT.mf ht hs pl pu (by rw [hlen];exact hw) ?_ (by rw [hlen];exact hz)
 rw [hlen]
 refine⟨.ref s.heap.objs.size,_,I.laid (t':=s.toks) (o:=.tup (qO xs lo hi)) (fun b ob q=>KY _ q) (K0 _) ?_,rfl,q _ (I.hok.fresh (K0 _))⟩
 exact⟨LA (nK xs lo hi) hz,_,(r.drop (HT.d4 xs.length 0 lo)).take (HT.d4 xs.length xs.length hi - HT.d4 xs.length 0 lo),uk.new _ _⟩
def EF (K:PySem.W.Frag):R2:=fun x y H Q=>∃a b xs ys,x=.ref a∧y=.ref b∧iZ K H a xs∧iZ K H b ys∧xs≠[]∧xs.length + ys.length≤sizeLine ∧
 (ys=[]→Q (.ref a) H)∧(ys≠[]→∀p,H p=none→Q (.ref p) (upd H p (.tup (xs ++ ys))))
theorem Vals.tW {xs:List V} {us:List Value} (r:Vals xs us):us=[]↔xs=[]:=by
 cases r with
 | nil=>simp
 | cons _ _=>simp
theorem Dd:iX X (binaryOp .Add) (EF X.K):=by
 intro pins s σ H x y v u Q I rx ry h
 obtain⟨a,b,xs,ys,rfl,rfl,ha,hb,hx,hz,q1,q2⟩:=h
 cases rx
 cases ry
 obtain⟨its,r1,p1,_⟩:=I.tuple ha
 obtain⟨its2,r2,p2,_⟩:=I.tuple hb
 refine HT.DW p1 p2 (fun z=>hx (r1.tW.mp z)) (fun z=>⟨.ref a,H,I,rfl,q1 (r2.tW.mp z)⟩) (fun z=>?_) (by rw [← r1.length,← r2.length];exact hz)
 refine⟨.ref s.heap.objs.size,_,I.laid (t':=s.toks) (o:=.tup (xs ++ ys)) (fun b ob q=>KY _ q) (K0 _) ?_,rfl,q2 (fun w=>z (r2.tW.mpr w)) _ (I.hok.fresh (K0 _))⟩
 exact⟨by rw [Lh];exact hz,_,r1.append r2,uk.new _ _⟩
end
end L2
namespace L2
open PySem PySem.Spec PyProof.Rows
def ux (n:Nat) (i:Int):Option Nat:=if 0≤i then (if i < n then some i.toNat else none) else if -(n:Int)≤i then some (i + n).toNat else none
def kn {α:Type} (xs:List α) (i:Int):Option α:=(ux xs.length i).bind fun j=>xs[j]?
theorem ou {n:Nat} {i:Int} {j:Nat} (h:ux n i=some j):seqIndex? i n=some j∧j < n∧-(n:Int)≤i∧i < n:=by
 unfold ux at h
 by_cases h0:0≤i
 ·rw [KS h0] at h
  by_cases h1:i < n
  ·rw [KS h1] at h
   have e:i.toNat=j:=K3 h
   exact⟨by rw [seqIndex_of h0 h1,e],by omega,by omega,h1⟩
  ·rw [KQ h1] at h;cases h
 ·rw [KQ h0] at h
  by_cases h1:-(n:Int)≤i
  ·rw [KS h1] at h
   have e:(i + n).toNat=j:=K3 h
   exact⟨by rw [seqIndex_neg (by omega) h1,e],by omega,h1,by omega⟩
  ·rw [KQ h1] at h;cases h
theorem sy {α:Type} {xs:List α} {i:Int} {v:α} (h:kn xs i=some v):∃j,seqIndex? i xs.length=some j∧xs[j]?=some v∧j < xs.length∧-(xs.length:Int)≤i∧i < xs.length:=by
 unfold kn at h
 cases e:ux xs.length i with
 | none=>rw [e] at h;cases h
 | some j =>
  rw [e] at h
  obtain⟨h1,h2,h3,h4⟩:=ou e
  exact⟨j,h1,h,h2,h3,h4⟩
def sO (b:Expr):Prop:=∀o i,subscripted b false o i=operate [o,i] (getItem o i)
def CA (X:Cx) (r:R2):Prop :=
 ∀(value slice:Expr) (pins:List (Addr×Obj)) (s:Shared) (σ:St) (H:Hp) (x y:V) (v u:Value) (Q:VK),Inv X pins σ H s→RelV x v→RelV y u→r x y H Q →
  subscripted slice false v u=operate [v,u] (getItem v u)→wpAny (model X.prog X.w) X.A (subscriptTail value slice v u) (EP X pins σ Q) X.xe s
def Jn (X:Cx) (id:String) (r:V→List V→Hp→VK→Prop):Prop :=
 ∀(pins:List (Addr×Obj)) (s:Shared) (σ:St) (H:Hp) (x:V) (xs:List V) (v:Value) (us:List Value) (Q:VK),Inv X pins σ H s→RelV x v→Vals xs us→r x xs H Q →
  wpAny (model X.prog X.w) X.A (call (.builtin id) (v :: us)) (EP X pins σ Q) X.xe s
section
variable {X:Cx} {a b:Expr} {ta tb:TE} {pos:Pos}
theorem CA.or {r r':R2} (h:CA X r) (h':CA X r'):CA X (fun x y H Q=>r x y H Q∨r' x y H Q):=by
 intro value slice pins s σ H x y v u Q I rx ry q hs
 rcases q with q | q
 ·exact h value slice pins s σ H x y v u Q I rx ry q hs
 ·exact h' value slice pins s σ H x y v u Q I rx ry q hs
theorem EB {r:R2} (hr:CA X r) (ha:PE X a ta) (hb:PE X b tb) (hs:sO b):PE X (.Subscript a b pos) (Gi r ta tb):=by
 intro pins s σ H Q I h
 exact Subscript_ (Fu ha hb I h fun v u s2 x y H2 I2 rx ry q=>hr a b pins s2 σ H2 x y v u Q I2 rx ry q (hs _ _))
def Hs (K:PySem.W.Frag):R2:=fun x y H Q=>∃p xs i v,x=.ref p∧y=.int i∧d9 K H p xs∧kn xs i=some v∧Q v H
def IS (K:PySem.W.Frag):R2:=fun x y H Q=>∃p xs i v,x=.ref p∧y=.int i∧iZ K H p xs∧kn xs i=some v∧Q v H
def Io:R2:=fun x y H Q=>∃z i c,x=.str z∧y=.int i∧z.length≤sizeLine∧kn z.cps.toList i=some c∧Q (.str ⟨#[c]⟩) H
theorem xX:CA X (Hs X.K):=by
 intro value slice pins s σ H x y v u Q I rx ry h hs
 obtain⟨p,xs,i,z,rfl,rfl,hq,he,q⟩:=h
 cases rx
 obtain⟨t,rfl⟩:=ry
 obtain⟨its,r,pl,hz⟩:=I.list hq
 obtain⟨j,h1,h2,h3,h4,h5⟩:=sy he
 obtain⟨w,ew,rw'⟩:=r.get h2
 have hl:=r.length
 have hn:=mW
 have fin:EP X pins σ Q w s:=⟨z,H,I,rw',q⟩
 by_cases h0:0≤i
 ·have hj:i.toNat=j:=by
   rw [seqIndex_of h0 h5] at h1
   exact K3 h1
  exact item_listR pl.isList h0 (by omega) (by rw [hj];simpa using ew) fin hs
 ·have hj:(i + (its.toArray.size:Int)).toNat=j:=by
   rw [seqIndex_neg (by omega) h4] at h1
   rw [K5,← hl]
   exact K3 h1
  exact subscriptTail_builtinR (x:=w) pl.isList.typeIs slot_list_getitem.lookup
   (wpAny_getItem_list_neg (Q:=fun r s'=>r=w∧EP X pins σ Q r s') pl.isList (by omega) (by rw [K5] <;> omega) (by omega) (by rw [hj];simpa using ew) ⟨rfl,fin⟩) hs
theorem Gf:CA X (IS X.K):=by
 intro value slice pins s σ H x y v u Q I rx ry h hs
 obtain⟨p,xs,i,z,rfl,rfl,hq,he,q⟩:=h
 cases rx
 obtain⟨t,rfl⟩:=ry
 obtain⟨its,r,pl,hz⟩:=I.tuple hq
 obtain⟨j,h1,h2,h3,h4,h5⟩:=sy he
 obtain⟨w,ew,rw'⟩:=r.get h2
 have hl:=r.length
 have hn:=mW
 have fin:EP X pins σ Q w s:=⟨z,H,I,rw',q⟩
 exact subscriptTail_builtinR (x:=w) pl.typeIs slot_tuple_getitem.lookup
  (getItem_tuple (j:=j) (Q:=fun r s'=>r=w∧EP X pins σ Q r s') pl (by omega) (by omega) (by rw [K5,← hl];exact h1) (by simpa using ew) ⟨rfl,fin⟩) hs
theorem ES:CA X Io:=by
 intro value slice pins s σ H x y v u Q I rx ry h hs
 obtain⟨z,i,c,rfl,rfl,hz,he,q⟩:=h
 obtain⟨t,rfl⟩:=rx
 obtain⟨t',rfl⟩:=ry
 obtain⟨j,h1,h2,h3,h4,h5⟩:=sy he
 have hl:z.cps.toList.length=z.length:=by simp [Str.length]
 rw [hl] at h1 h4 h5
 have hn:=mW
 exact tail_any (typeIs_str s z t) slot_str_getitem.lookup (getItem_str (c:=c) (by
  have e1:decide (i < -(2 ^ 63:Int))=false:=decide_eq_false (by omega)
  have e2:decide (i≥2 ^ 63)=false:=decide_eq_false (by omega)
  rw [e1,e2,Bool.or_false]) (by rw [h1];simpa using h2) ⟨.str ⟨#[c]⟩,H,I.tok _,⟨_,rfl⟩,q⟩) hs
def Kl (K:PySem.W.Frag):R2:=fun x y H Q=>Hs K x y H Q∨IS K x y H Q∨Io x y H Q
theorem Gm:CA X (Kl X.K):=xX.or (Gf.or ES)
theorem xC (its:List Value) (n j:Nat) (u:Value):Obj.mapSeq (·.setIfInBounds j u) { cls:=.type "list",data:=.seq its.toArray n }={ cls:=.type "list",data:=.seq (its.set j u).toArray n }:=by
 simp [Obj.mapSeq]
theorem Inv.lst {pins:List (Addr×Obj)} {σ:St} {H:Hp} {s:Shared} {p:Addr} {xs:List V} (I:Inv X pins σ H s) (h:H p=some (.lst xs)) :
  ∃(its:List Value) (n:Nat),Vals xs its∧s.heap.get? p=some { cls:=.type "list",data:=.seq its.toArray n }∧xs.length≤sizeLine:=by
 obtain⟨z,its,n,r,e⟩:=I.hok p _ h
 exact⟨its,n,r,e,z⟩
theorem Inv.EU {pins:List (Addr×Obj)} {σ:St} {H:Hp} {s:Shared} {p:Addr} {xs ys:List V} {its its':List Value} {n n':Nat} {f:Obj→Obj} (I:Inv X pins σ H s) (h:H p=some (.lst xs))
  (ho:s.heap.get? p=some { cls:=.type "list",data:=.seq its.toArray n }) (hf:f { cls:=.type "list",data:=.seq its.toArray n }={ cls:=.type "list",data:=.seq its'.toArray n' }) (r:Vals ys its') (hz:ys.length≤sizeLine) (t:Nat) :
  Inv X pins σ (upd H p (.lst ys)) { s with heap:=s.heap.update p f,toks:=t }:=by
 have e:(s.heap.update p f).get? p=some { cls:=.type "list",data:=.seq its'.toArray n' }:=by
  rw [Heap.get?_update_self f ho (by rw [hf] <;> rfl),hf]
 refine I.write (x:=p) (e:=p) (by rw [h];trivial) (.inl rfl) (fun b u hb q=>(Heap.get?_update_other _ _ (Ne.symm hb)).trans q) ⟨_,e⟩ ?_
 exact⟨hz,its',n',r,e⟩
def IT:V→V→V→Hp→(Hp→Prop)→Prop:=fun o i v H Q=>∃p xs k j,o=.ref p∧i=.int k∧H p=some (.lst xs)∧ux xs.length k=some j∧Q (upd H p (.lst (xs.set j v)))
theorem set_list:IV X IT:=by
 intro pins s σ H o i v ov iv u Q I ro ri rv h
 obtain⟨p,xs,k,j,rfl,rfl,hp,hj,q⟩:=h
 cases ro
 obtain⟨t,rfl⟩:=ri
 obtain⟨its,n,r,ho,hz⟩:=I.lst hp
 obtain⟨h1,h2,h3,h4⟩:=ou hj
 have hl:=r.length
 have hn:=mW
 have I':Inv X pins σ (upd H p (.lst (xs.set j v))) { s with heap:=s.heap.update p (Obj.mapSeq (·.setIfInBounds j u)) } :=
  I.EU hp ho (xC its n j u) (r.set rv j) (by rw [List.length_set];exact hz) s.toks
 by_cases h0:0≤k
 ·have hk:k.toNat=j:=by
   rw [seqIndex_of h0 h4] at h1
   exact K3 h1
  exact PySem.W.ki_setAt ho h0 (by omega) (by rw [K5,← hl];exact h4) (by rw [hk];exact⟨_,I',q⟩)
 ·have hk:(k + (its.toArray.size:Int)).toNat=j:=by
   rw [seqIndex_neg (by omega) h3] at h1
   rw [K5,← hl]
   exact K3 h1
  exact PySem.W.ki_setBack ho (by omega) (by rw [K5,← hl];exact h3) (by omega) (by rw [hk];exact⟨_,I',q⟩)
theorem tL (lo hi:Option Int) (n:Nat):(sliceBounds lo hi none n).1=((HT.d4 n 0 lo:Nat):Int)∧(sliceBounds lo hi none n).2.1=((HT.d4 n n hi:Nat):Int)∧(sliceBounds lo hi none n).2.2=1:=by
 refine⟨?_,?_,rfl⟩
 ·cases lo with
  | none=>simp [sliceBounds,HT.d4]
  | some i =>
   simp only [sliceBounds,HT.d4,Option.getD_none,show (1:Int) > 0 by decide,if_true]
   by_cases h:i < 0
   ·simp only [h,if_true] <;> omega
   ·simp only [h,if_false] <;> omega
 ·cases hi with
  | none=>simp [sliceBounds,HT.d4]
  | some i =>
   simp only [sliceBounds,HT.d4,Option.getD_none,show (1:Int) > 0 by decide,if_true]
   by_cases h:i < 0
   ·simp only [h,if_true] <;> omega
   ·simp only [h,if_false] <;> omega
theorem qI (its:List Value) (lo hi:Option Int):slicePick its.toArray lo hi none=((its.drop (HT.d4 its.length 0 lo)).take (HT.d4 its.length its.length hi - HT.d4 its.length 0 lo)).toArray:=by
 obtain⟨h1,h2,h3⟩:=tL lo hi its.toArray.size
 unfold slicePick
 rw [h1,h2,h3]
 simp only [sliceRange_one,pick_run,K5] <;> rfl
def JM (K:PySem.W.Frag):V→Option Int→Option Int→Hp→VK→Prop:=fun x lo hi H Q=>∃a xs,x=.ref a∧d9 K H a xs∧∀p,H p=none→Q (.ref p) (upd H p (.lst (qO xs lo hi)))
theorem DT:Ds X (JM X.K):=by
 intro pins s σ H x v vl vu lo hi sl Q I rx hs pl pu h
 obtain⟨a,xs,rfl,hx,q⟩:=h
 cases rx
 obtain⟨its,r,ht,hz⟩:=I.list hx
 have hlen:=r.length
 refine⟨"list",_,slot_list_getitem.lookup,ht.isList.typeIs,?_⟩
 refine wpAny_getItem_list_slice ht.isList hs pl pu .none (by simp) ?_ (by rw [K5] <;> omega)
 rw [qI,← hlen]
 refine⟨.ref s.heap.objs.size,_,I.laid (t':=s.toks) (o:=.lst (qO xs lo hi)) (fun b ob q=>KY _ q) (K0 _) ?_,rfl,q _ (I.hok.fresh (K0 _))⟩
 exact⟨LA (nK xs lo hi) hz,_,0,(r.drop (HT.d4 xs.length 0 lo)).take (HT.d4 xs.length xs.length hi - HT.d4 xs.length 0 lo),La _ rfl⟩
theorem l6:fL X (.builtin "len") (fun xs H Q=>∃p ys,xs=[.ref p]∧(d9 X.K H p ys∨iZ X.K H p ys)∧Q (.int ys.length) H):=by
 intro pins s σ H xs us Q I r h
 obtain⟨p,ys,rfl,hq,q⟩:=h
 obtain⟨u,rfl,rx⟩:=vals1 r
 cases rx
 have hn:=mW
 rcases hq with hq | hq
 ·obtain⟨its,r',pl,hz⟩:=I.list hq
  have hlen:=r'.length
  exact Calls.call_len_list pl.isList (by simp only [K5] <;> omega) ⟨.int ys.length,H,I.tok _,⟨s.toks + 1,by rw [K5,hlen]⟩,q⟩
 ·obtain⟨its,r',pl,hz⟩:=I.tuple hq
  have hlen:=r'.length
  exact len_tuple pl (by simp only [K5] <;> omega) ⟨.int ys.length,H,I.tok _,⟨s.toks + 1,by rw [K5,hlen]⟩,q⟩
theorem t6:fL X (.builtin "len") (fun xs H Q=>∃z,xs=[.str z]∧z.length≤sizeLine∧Q (.int z.length) H):=by
 intro pins s σ H xs us Q I r h
 obtain⟨z,rfl,hz,q⟩:=h
 obtain⟨u,rfl,t,rfl⟩:=vals1 r
 have hn:=mW
 exact len_str (by omega) ⟨.int z.length,H,I.tok _,⟨_,rfl⟩,q⟩
theorem fL.or {f:Value} {r r':List V→Hp→VK→Prop} (h:fL X f r) (h':fL X f r'):fL X f (fun xs H Q=>r xs H Q∨r' xs H Q):=by
 intro pins s σ H xs us Q I rs q
 rcases q with q | q
 ·exact h pins s σ H xs us Q I rs q
 ·exact h' pins s σ H xs us Q I rs q
theorem sx:fL X (.type "list") (fun xs H Q=>∃p ys,xs=[.ref p]∧(d9 X.K H p ys∨iZ X.K H p ys)∧∀l,H l=none→Q (.ref l) (upd H l (.lst ys))):=by
 intro pins s σ H xs us Q I r h
 obtain⟨p,ys,rfl,hq,q⟩:=h
 obtain⟨u,rfl,rx⟩:=vals1 r
 cases rx
 have fin:∀(its:List Value),Vals ys its→ys.length≤sizeLine→∀(h':Heap) (c':Nat),(∀b o',s.heap.get? b=some o'→h'.get? b=some o') →
   h'.get? s.heap.objs.size=some { cls:=.type "list",dict:=none,data:=.seq its.toArray c',slots:=#[] }→EP X pins σ Q (.ref s.heap.objs.size) { s with heap:=h' }:=fun its r' hz h' c' kp e =>
  ⟨.ref s.heap.objs.size,_,I.laid (t':=s.toks) kp (K0 _) (show cE X.prog X.w _ h' _ (.lst ys) from ⟨hz,its,c',r',e⟩),rfl,q _ (I.hok.fresh (K0 _))⟩
 rcases hq with hq | hq
 ·obtain⟨its,r',pl,hz⟩:=I.list hq
  have hlen:=r'.length
  obtain⟨o,ho,hc,n,hd⟩:=pl.isList
  exact call_list_seq p (.inl rfl) ho hc hd (fun h' c' kp e=>fin its r' hz h' c' kp e) (by simp only [K5] <;> omega)
 ·obtain⟨its,r',pl,hz⟩:=I.tuple hq
  have hlen:=r'.length
  obtain⟨o,ho,hc,n,hd⟩:=pl
  exact call_list_seq p (.inr rfl) ho hc hd (fun h' c' kp e=>fin its r' hz h' c' kp e) (by simp only [K5] <;> omega)
theorem qG:fL X (.type "tuple") (fun xs H Q=>∃p ys,xs=[.ref p]∧((d9 X.K H p ys∧∀l,H l=none→Q (.ref l) (upd H l (.tup ys)))∨(iZ X.K H p ys∧Q (.ref p) H))):=by
 intro pins s σ H xs us Q I r h
 obtain⟨p,ys,rfl,h⟩:=h
 obtain⟨u,rfl,rx⟩:=vals1 r
 cases rx
 rcases h with ⟨hq,q⟩ | ⟨hq,q⟩
 ·obtain⟨its,r',pl,hz⟩:=I.list hq
  have hlen:=r'.length
  refine call_tuple_list pl.isList (fun h' kp=>?_) (by simp only [K5] <;> omega)
  have I1:Inv X pins σ H { s with heap:=h' }:=I.kept (t':=s.toks) kp
  have I2:Inv X pins σ (upd H h'.objs.size (.tup ys)) { s with heap:=h'.push { cls:=.type "tuple",data:=.seq its.toArray } } :=
   I1.laid (t':=s.toks) (fun b o e=>KY _ e) (K0 _) (show cE X.prog X.w _ _ _ (.tup ys) from ⟨hz,its,r',uk.new _ _⟩)
  exact⟨.ref h'.objs.size,_,I2,rfl,q _ (I1.hok.fresh (K0 _))⟩
 ·obtain⟨its,r',pl,hz⟩:=I.tuple hq
  exact call_tuple_same pl ⟨.ref p,H,I,rfl,q⟩
def J5 (K:PySem.W.Frag) (T:String) (x:V) (H:Hp):Prop:=match x with
 | .str _=>T = "str"
 | .int _=>T = "int"
 | .ref p=>(T = "list"∧∃xs,d9 K H p xs)∨(T = "tuple"∧∃o,K.lookup p=some o∧o.cls=.type "tuple"∧o.dict=none) ∨
   (T = "dict"∧((∃kvs,H p=some (.dK kvs))∨∃kvs,H p=some (.dT kvs)))∨(T = "set"∧∃S n,H p=some (.set S n))
 | _=>False
theorem AF {pins:List (Addr×Obj)} {σ:St} {H:Hp} {s:Shared} {T:String} {x:V} {v:Value} (I:Inv X pins σ H s) (r:RelV x v) (ty:J5 X.K T x H) :
  s.TypeIs v T∧∀a,v=.ref a→∃ob,s.heap.get? a=some ob∧ob.dict=none:=by
 cases x with
 | str z =>
  obtain⟨t,rfl⟩:=r
  cases (show T = "str" from ty)
  exact⟨typeIs_str s z t,fun _ e=>nomatch e⟩
 | int i =>
  obtain⟨t,rfl⟩:=r
  cases (show T = "int" from ty)
  exact⟨typeIs_int s i t,fun _ e=>nomatch e⟩
 | ref p =>
  cases r
  rcases ty with ⟨rfl,xs,hq⟩ | ⟨rfl,o,hk,hc,hd⟩ | ⟨rfl,hk⟩ | ⟨rfl,S,n,hk⟩
  ·obtain⟨its,_,pl,_⟩:=I.list hq
   refine⟨pl.isList.typeIs,fun a e=>?_⟩
   cases e
   obtain⟨o,n,e,c,hd,_⟩:=pl
   exact⟨o,e,hd⟩
  ·refine⟨⟨o,I.yH p o hk,hc⟩,fun a e=>?_⟩
   cases e
   exact⟨o,I.yH _ o hk,hd⟩
  ·have z:∃o,s.heap.get? p=some o∧o.ExactDict:=by
    rcases hk with ⟨kvs,hk⟩ | ⟨kvs,hk⟩
    ·obtain⟨_,_,_,_,o,_,_,e,ex,_⟩:=I.hok p _ hk
     exact⟨o,e,ex⟩
    ·obtain⟨_,_,_,_,o,_,_,e,ex,_⟩:=I.hok p _ hk
     exact⟨o,e,ex⟩
   obtain⟨o,e,ex⟩:=z
   refine⟨⟨o,e,ex.1⟩,fun a e2=>?_⟩
   cases e2
   exact⟨o,e,ex.2.1⟩
  ·obtain⟨o,_,_,_,e,ex,_⟩:=I.hok p _ hk
   refine⟨⟨o,e,ex.1⟩,fun a e2=>?_⟩
   cases e2
   exact⟨o,e,ex.2.1⟩
 | _=>exact False.elim ty
def Ju (K:PySem.W.Frag) (T:String) (r:V→List V→Hp→VK→Prop) (to:TE):TE:=fun σ H Q=>to σ H fun x H1=>J5 K T x H1∧r x [] H1 Q
def Ks (K:PySem.W.Frag) (T:String) (r:V→List V→Hp→VK→Prop) (to:TE) (t:TA):TE:=fun σ H Q=>to σ H fun x H1=>J5 K T x H1∧t σ H1 fun xs H2=>r x xs H2 Q
variable {o e:Expr} {es:List Expr} {to:TE} {t:TA} {name:Str} {apos cpos:Pos} {T id:String} {r:V→List V→Hp→VK→Prop}
theorem AX (pa:PlainAttrs T) (slot:Slot T name id) (hty:typeOf (.builtin id)=pure (.type "method_descriptor")) (hm:Jn X id r) (ho:PE X o to)
  (hbase:attributeBase o name X.env (eval o X.env)=eval o X.env:=by rfl) (hline:(apos.endLine == cpos.line)=true:=by rfl):PE X (.Call (.Attribute o name apos) [] [] cpos) (Ju X.K T r to):=by
 intro pins s σ H Q I h
 refine wpAny_Call_method0_late hbase hline (b9 (ho pins s σ H _ I h) fun v s1 hq0=>?_)
 obtain⟨x,H1,I1,r1,ty,q1⟩:=hq0
 obtain⟨h1,h2⟩:=AF I1 r1 ty
 exact⟨T,id,pa,slot,hty,h1,h2,Calls.callWith_builtin rfl (PySem.evalArgs_none (hm pins s1 σ H1 x [] v [] Q I1 r1 .nil q1))⟩
theorem rg (pa:PlainAttrs T) (slot:Slot T name id) (hty:typeOf (.builtin id)=pure (.type "method_descriptor")) (hm:Jn X id r) (ho:PE X o to) (ha:PA X (e :: es) t)
  (hbase:attributeBase o name X.env (eval o X.env)=eval o X.env:=by rfl)
  (hfew:((backTo cpos (starEach (e :: es) X.env)).all (fun x=>!x.1) && (backToKw cpos (keywordEach [] X.env)).all (fun x=>x.1.isSome)
   && decide ((e :: es).length + ([]:List Keyword).length + (if ([]:List Keyword).isEmpty then 0 else 1) < 30))=true:=by rfl)
  (hline:(apos.endLine == cpos.line)=true:=by rfl) (hs:starEach (e :: es) X.env=(false,eval e X.env) :: starEach es X.env:=by rfl) (hplain:(backTo cpos (starEach es X.env)).any (·.1)=false:=by rfl) :
  PE X (.Call (.Attribute o name apos) (e :: es) [] cpos) (Ks X.K T r to t):=by
 intro pins s σ H Q I h
 refine wpAny_Call_method_late hbase hfew hline rfl (b9 (ho pins s σ H _ I h) fun v s1 hq0=>?_)
 obtain⟨x,H1,I1,r1,ty,q1⟩:=hq0
 obtain⟨h1,h2⟩:=AF I1 r1 ty
 refine⟨T,id,pa,slot,hty,h1,h2,?_⟩
 have hA:=ha cpos pins s1 σ H1 _ I1 q1
 rw [hs] at hA ⊢
 refine Calls.callWith_builtin (by show (false || (backTo cpos (starEach es X.env)).any (·.1))=false;rw [hplain] <;> rfl) (Calls.evalArgs_plain ?_)
 exact b9 hA fun us s2 ⟨vs,H2,I2,r2,q2⟩=>hm pins s2 σ H2 x vs v us Q I2 r1 r2 q2
end
end L2
namespace L2
open PySem PySem.Spec PyProof.Rows
def Jd (X:Cx) (id:String) (r:V→List V→Hp→VK→Prop):Prop :=
 ∀(pins:List (Addr×Obj)) (s:Shared) (σ:St) (H:Hp) (x:V) (xs:List V) (v:Value) (us:List Value) (Q:VK),Inv X pins σ H s→RelV x v→Vals xs us→r x xs H Q →
  wpAny (model X.prog X.w) X.A (call (.builtin id) (v :: us)) (EP X pins σ Q) X.xe s
theorem Vals.one:∀{x:V} {us:List Value},Vals [x] us→∃u,us=[u]∧RelV x u
 | _,_,.cons r .nil=>⟨_,rfl,r⟩
theorem Vals.two {x y:V} {us:List Value} (h:Vals [x,y] us):∃u v,us=[u,v]∧RelV x u∧RelV y v:=by
 cases h with
 | cons r q =>
  cases q with
  | cons q z=>cases z;exact⟨_,_,rfl,r,q⟩
theorem Vals.zero:∀{us:List Value},Vals [] us→us=[]
 | _,.nil=>rfl
theorem Vals.dropLast {xs:List V} {us:List Value} (h:Vals xs us):Vals xs.dropLast us.dropLast:=by
 induction h with
 | nil=>exact .nil
 | cons r t ih =>
  cases t with
  | nil=>exact .nil
  | cons q t'=>exact .cons r ih
theorem Vals.eraseIdx:∀{xs:List V} {us:List Value} (i:Nat),Vals xs us→Vals (xs.eraseIdx i) (us.eraseIdx i)
 | _,_,_,.nil=>.nil
 | _,_,0,.cons _ t=>t
 | _,_,i + 1,.cons r t=>.cons r (Vals.eraseIdx i t)
theorem Vals.reverse {xs:List V} {us:List Value} (h:Vals xs us):Vals xs.reverse us.reverse:=by
 induction h with
 | nil=>exact .nil
 | cons r t ih=>rw [List.reverse_cons,List.reverse_cons];exact Vals.append ih (.cons r .nil)
theorem Vals.rep {xs:List V} {us:List Value} (h:Vals xs us):∀k:Nat,Vals (List.replicate k xs).flatten (List.replicate k us).flatten
 | 0=>.nil
 | k + 1=>by
  rw [List.replicate_succ,List.replicate_succ,List.flatten_cons,List.flatten_cons]
  exact Vals.append h (Vals.rep h k)
theorem xM {α:Type} (l:List α):l.eraseIdx (l.length - 1)=l.dropLast:=by
 induction l with
 | nil=>rfl
 | cons a r ih =>
  cases r with
  | nil=>rfl
  | cons b r =>
   have e:(a :: b :: r).length - 1=((b :: r).length - 1) + 1:=by
    have h1:(a :: b :: r).length=r.length + 2:=rfl
    have h2:(b :: r).length=r.length + 1:=rfl
    omega
   rw [e,List.eraseIdx_cons_succ,ih]
   all_goals rfl
theorem rz {α:Type}:∀(l:List α) (i:Nat),(l.eraseIdx i).length≤l.length
 | [],_=>K0 _
 | _ :: _,0=>Nat.le_succ _
 | _ :: r,i + 1=>Nat.succ_le_succ (rz r i)
section
variable {X:Cx} {pins:List (Addr×Obj)} {σ:St} {H:Hp} {s:Shared} {l b:Addr} {xs ys zs:List V}
theorem Inv.CM {its its':List Value} {n:Nat} {f:Array Value→Array Value} {t':Nat} (I:Inv X pins σ H s) (hH:H l=some (.lst xs))
  (e:s.heap.get? l=some { cls:=.type "list",data:=.seq its.toArray n }) (hf:f its.toArray=its'.toArray) (hv:Vals ys its') (hz:ys.length≤sizeLine) :
  Inv X pins σ (upd H l (.lst ys)) { s with heap:=s.heap.update l (Obj.mapSeq f),toks:=t' }:=by
 have q:=PySem.IsL.update e f
 rw [hf] at q
 refine I.write (x:=l) (e:=l) (by rw [hH];exact trivial) (.inl rfl) (fun b' u hb hu=>(Heap.get?_update_other s.heap (Obj.mapSeq f) (Ne.symm hb)).trans hu) ⟨_,q⟩ ?_
 exact⟨hz,its',_,hv,q⟩
theorem Inv.IP {its:List Value} {t':Nat} (I:Inv X pins σ H s) (hv:Vals ys its) (hz:ys.length≤sizeLine) :
  Inv X pins σ (upd H s.heap.objs.size (.lst ys)) { s with heap:=s.heap.push { cls:=.type "list",data:=.seq its.toArray },toks:=t' } :=
 I.laid (fun _ _ q=>KY _ q) (K0 _) ⟨hz,its,0,hv,La _ rfl⟩
theorem Inv.fresh (I:Inv X pins σ H s):H s.heap.objs.size=none:=I.hok.fresh (K0 _)
theorem Inv.DY (I:Inv X pins σ H s) (hH:H l=some (.lst xs)):xs.length≤sizeLine∧∃(its:List Value) (n:Nat),Vals xs its∧xs.length=its.length∧s.heap.get? l=some { cls:=.type "list",data:=.seq its.toArray n }:=by
 obtain⟨z,its,n,r,e⟩:=I.hok l _ hH
 exact⟨z,its,n,r,r.length,e⟩
end
section
variable {X:Cx}
def Eb:V→List V→Hp→VK→Prop:=fun x vs H Q=>∃l xs y,x=.ref l∧vs=[y]∧H l=some (.lst xs)∧xs.length < sizeLine∧Q .non (upd H l (.lst (xs ++ [y])))
theorem rL:Jd X "list.append" Eb:=by
 intro pins s σ H x vs v us Q I rx rv h
 obtain⟨l,xs,y,rfl,rfl,hH,hz,q⟩:=h
 cases rx
 obtain⟨u,rfl,ru⟩:=rv.one
 obtain⟨z,its,n,r,hl,e⟩:=I.DY hH
 refine call_meets F.slot_list_append ⟨_,e,rfl⟩ F.entry_list_append (F.args_list_append_2 _ _) (PySem.list_append l its.toArray n u (by rw [K5];omega)) ⟨e,?_⟩
 refine⟨.non,_,I.CM (its':=its ++ [u]) hH e (by simp) (r.append (.cons ru .nil)) ?_,rfl,q⟩
 rw [Lh,List.length_singleton]
 omega
def J2:V→List V→Hp→VK→Prop:=fun x vs H Q=>∃l xs y,x=.ref l∧vs=[]∧H l=some (.lst xs)∧xs[xs.length - 1]?=some y∧Q y (upd H l (.lst xs.dropLast))
theorem BY:Jd X "list.pop" J2:=by
 intro pins s σ H x vs v us Q I rx rv h
 obtain⟨l,xs,y,rfl,rfl,hH,hy,q⟩:=h
 cases rx
 have hus:=rv.zero
 subst hus
 obtain⟨z,its,n,r,hl,e⟩:=I.DY hH
 obtain⟨u,hu,ru⟩:=r.get hy
 have hy':its.toArray[its.toArray.size - 1]?=some u:=by
  show its.toArray[its.length - 1]?=some u
  rw [← Array.getElem?_toList,← hl]
  exact hu
 refine call_meets F.slot_list_pop ⟨_,e,rfl⟩ F.entry_list_pop (F.args_list_pop_1 _) (MeetsSeq.list_pop_last l its.toArray n u hy' (by rw [K5];omega)) ⟨e,?_⟩
 refine⟨y,_,I.CM (its':=its.dropLast) hH e ?_ r.dropLast ?_,ru,q⟩
 ·show its.toArray.eraseIdxIfInBounds (its.toArray.size - 1)=its.dropLast.toArray
  rw [K5,List.eraseIdxIfInBounds_toArray,xM]
 ·rw [List.length_dropLast]
  omega
def Ft:V→List V→Hp→VK→Prop:=fun x vs H Q=>∃l xs i k y,x=.ref l∧vs=[.int i]∧H l=some (.lst xs)∧-(2 ^ 63)≤i∧i < 2 ^ 63∧seqIndex? i xs.length=some k∧xs[k]?=some y∧Q y (upd H l (.lst (xs.eraseIdx k)))
theorem vg:Jd X "list.pop" Ft:=by
 intro pins s σ H x vs v us Q I rx rv h
 obtain⟨l,xs,i,k,y,rfl,rfl,hH,h1,h2,hk,hy,q⟩:=h
 cases rx
 obtain⟨u,rfl,ru⟩:=rv.one
 obtain⟨t,rfl⟩:=ru
 obtain⟨z,its,n,r,hl,e⟩:=I.DY hH
 obtain⟨w,hw,rw'⟩:=r.get hy
 refine call_meets F.slot_list_pop ⟨_,e,rfl⟩ F.entry_list_pop (F.args_list_pop_2 _ _)
  (MeetsSeq.list_pop_at l its.toArray n i t k w (fitsIndex_both h1 h2) (by rw [K5,← hl];exact hk) (by rw [← Array.getElem?_toList];exact hw) (by rw [K5];omega)) ⟨e,?_⟩
 refine⟨y,_,I.CM (its':=its.eraseIdx k) hH e ?_ (r.eraseIdx k) ?_,rw',q⟩
 ·show its.toArray.eraseIdxIfInBounds k=(its.eraseIdx k).toArray
  rw [List.eraseIdxIfInBounds_toArray]
 ·have:=rz xs k
  omega
theorem len_rep {α:Type} (xs:List α) (k:Nat):(List.replicate k xs).flatten.length=k * xs.length:=by
 induction k with
 | zero=>simp
 | succ k ih=>rw [List.replicate_succ,List.flatten_cons,Lh,ih,Nat.succ_mul,Nat.add_comm]
end
end L2
namespace Att
open PySem PySem.W PySem.Calls PyProof.Rows
theorem nX {P:Params} {h:Heap}:∀(ns:List Int) (vs:List Value),WellAll P h vs (ns.map WData.int)→IntsAre vs ns:=by
 intro ns
 induction ns with
 | nil =>
  intro vs w
  rw [List.map_nil] at w
  cases w
  exact .nil
 | cons n ns ih =>
  intro vs w
  rw [Ll] at w
  cases w with
  | cons a b =>
   cases a
   exact .cons _ _ (ih _ b)
theorem za {l:OpenLaw} {n:Nat} (hn:l.most=some n) {P:Params} {h:Heap} {args:List WData} {vals:List Value}
  (hpre:l.row.toRowW.claim.pre args=true) (hwl:WellAll P h vals args) :
  ∃a vs ns,vals=[Value.ref a]∧args=[WData.list (ns.map WData.int)]∧h.get? a=some { cls:=.type "list",data:=.seq vs.toArray }∧IntsAre vs ns∧ns.length≤n:=by
 have hsh:WShape.hasAll [] args [.list .int]=true:=(pre_splitW hpre).1
 have hc:l.pre.holds [] { args:=args }=true:=(pre_splitW hpre).2
 obtain⟨d,r,rfl,h1,h2⟩:=hasAllW_cons hsh
 obtain rfl:=hasAllW_nil h2
 obtain⟨xs,rfl,h3⟩:=hasW_list h1
 obtain⟨ns,rfl⟩:=items_int h3
 have hlen:ns.length≤n:=by
  unfold OpenLaw.pre at hc
  have h4:(WTm.not (.lt (.lit (.int (n:Int))) (.len (.arg 0)))).holds [] { args:=[.list (ns.map .int)] }=true:=by
   have h4:=(holds_andW hc).1
   rw [hn] at h4
   exact h4
  have h5:=condW_of h4 (w_not (w_lt w_lit (w_len_list (w_arg rfl))))
  rw [KZ] at h5
  refine Nat.le_of_not_lt fun q=>?_
  have q':(n:Int) < ((ns.length:Nat):Int):=by omega
  first
   | (rw [decide_eq_true q'] at h5;exact absurd h5 (by decide))
   | (simp at h5;omega)
 cases hwl with
 | cons w1 w2 =>
  cases w2
  cases w1 with
  | list ho hall=>exact⟨_,_,ns,rfl,rfl,ho,nX ns _ hall,hlen⟩
theorem y9 (l:OpenLaw) (args:List WData):l.row.toRowW.claim.post args (.bool true) args=true :=
 postW_of (r:=l.row.toRowW) (X:=(true == true))
  (show WShape.has [] (.bool true) .bool=true by first | rfl | decide | simp [WShape.has,WShape.arms,WShape.armsAll])
  (show (WTm.eq .res (.lit (.bool true))).value [] { args:=args,res:=some (.bool true),after:=args }=some (.bool (true == true)) from w_eq_bool (w_res rfl) w_lit) rfl
theorem va {l:OpenLaw} {n:Nat} {q:Program} {loose:List Str} {XP:(Str→Option Value)→Heap→Prop} {YP:World→Heap→Prop} {d:DefRec}
  (hn:l.most=some n) (hdf:d.params.defaults=[])
  (call:∀(w:World) (s₀ s₁:Shared) (mg mb:Str→Option Value) (fa:Addr) (o:Obj) (pm cd doc:Value) (a:Addr) (vs:List Value) (ns:List Int),
   Ground q loose [] XP w s₀ mg mb s₁.heap→YP w s₁.heap →
   s₁.heap.get? fa=some o→o.data=.func (docDef d.name d.params d.body d.scope pm cd doc)→s₁.heap.CodeRec cd d.name→mg d.name=some (.ref fa) →
   s₁.heap.get? a=some { cls:=.type "list",data:=.seq vs.toArray }→IntsAre vs ns→ns.length≤n→s₁.gens=#[] →
   codeAny (model l.prog w) callerA (.call (.ref fa) ⟨[.ref a],[]⟩) (fun r s'=>r=.ok (.ret (.bool true))∧OldK s₁.heap s'.heap∧s'.os=s₁.os∧AllBare s'.gens) s₁) :
  WalkO q loose XP YP l.row.toRowW d [] (fun f vs=>PySem.call f vs):=by
 intro w s₀ s₁ mg mb G Y fa o pm cd doc dV kV ho hd hcd hD hmg hg args vals as hpre hlay hrd hwl hlo
 obtain rfl:dV=.none:=Dflts.none hD hdf
 obtain rfl:kV=.none:=Dflts.noKw hD
 obtain⟨a,vs,ns,rfl,rfl,hobj,hints,hlen⟩:=za hn hpre hwl
 refine enter_call (codeAny_mono (call w s₀ s₁ mg mb fa o pm cd doc a vs ns G Y ho (fd_plain hd) hcd hmg hobj hints hlen hg) fun r s' hq=>?_)
 obtain⟨rfl,h2,h3,h4⟩:=hq
 exact⟨.inl ⟨.bool true,.bool true,[],rfl,fun _=>rfl,.bool true,y9 l _,fun _=>⟨List.Pairwise.nil,fun _ hm=>(nomatch hm)⟩⟩,h2,h3,h4⟩
end Att
namespace L2
open PySem PySem.Spec PyProof.Rows
theorem j9:∀{vs:List Value} {ns:List Int},IntsAre vs ns→Vals (ns.map V.int) vs
 | _,_,.nil=>.nil
 | _,_,.cons n t h=>.cons ⟨t,rfl⟩ (j9 h)
def E7 (H:Hp):Prop:=∀b,H b=none∨∃o xs,H b=some (.frz o (.lst xs))
theorem BR {P:Program} {w:World} {K:PySem.W.Frag} {mg mb:Str→Option Value} {CX:Af} {k:Nat} {fa a:Addr} {fd:FuncData} {x:Str} {sp:Sp} {s₁:Shared} {vs:List Value} {ns:List Int}
  (KX:K.In s₁.heap) (hns:s₁.heap.Ns mainGlobals mg) (hb:s₁.heap.Ns builtinsNs mb) (hbb:∀x:Str,x≠"__name__"→mb x=bootBuiltins x) (hlim:s₁.heap.NoLimit) (hg:s₁.gens=#[])
  (ha:s₁.heap.get? a=some { cls:=.type "list",data:=.seq vs.toArray }) (hi:IntsAre vs ns) (hl:ns.length≤sizeLine) (hr:dg k callerA)
  (F:∀base:Heap,K.In base→base.Ns mainGlobals mg→mP P w K mg base CX k fa fd [x] sp) (hbind:∀(s:Shared) (u:Value),BindsTo s fd ⟨[u],[]⟩ [(x,u)])
  (hsp:∀H:Hp,E7 H→d9 K H a (ns.map V.int)→sp [.ref a] H (fun v _=>v=.bl true) fun _ _ _=>False)
  (hCX:∀H e s',CX [] H s₁ (fun _ _ _=>False) e s'→False) :
  codeAny (model P w) callerA (.call (.ref fa) ⟨[.ref a],[]⟩) (fun r s'=>r=.ok (.ret (.bool true))∧OldK s₁.heap s'.heap∧s'.os=s₁.os∧AllBare s'.gens) s₁:=by
 have rv:=j9 hi
 have lenV:=hi.length
 have core:∀H:Hp,E7 H→d9 K H a (ns.map V.int)→mF P w H s₁.heap→(∀b,H b≠none→b=a)→(H a≠none→K.lookup a=none) →
   codeAny (model P w) callerA (.call (.ref fa) ⟨[.ref a],[]⟩) (fun r s'=>r=.ok (.ret (.bool true))∧OldK s₁.heap s'.heap∧s'.os=s₁.os∧AllBare s'.gens) s₁:=by
  intro H hO hS hok hA hK
  have base_of:∀{b:Addr} {o:Obj},s₁.heap.get? b=some o→H b=none→(tm s₁.heap H).get? b=some o:=fun e n=>A1 e n
  have noA:∀{b:Addr} {o:Obj} {es:Array DictEntry} {ep:Nat},s₁.heap.get? b=some o→o.data=.dict es ep→H b=none:=fun {b o es ep} e d=>by
   cases q:H b with
   | none=>rfl
   | some u =>
    have e':b=a:=hA b (by rw [q];simp)
    subst e'
    rw [ha] at e;cases e
    have d':Data.seq vs.toArray _=Data.dict es ep:=d
    cases d'
  have nsK:∀{b:Addr} {m:Str→Option Value},s₁.heap.Ns b m→(tm s₁.heap H).Ns b m:=fun {b m} ⟨o,es,ep,e,d,r⟩=>⟨o,es,ep,base_of e (noA e d),d,r⟩
  have hKb:K.In (tm s₁.heap H):=fun b o e=>base_of (KX b o e) (by
   cases q:H b with
   | none=>rfl
   | some u =>
    have e':b=a:=hA b (by rw [q];simp)
    subst e'
    rw [hK (by rw [q];simp)] at e;cases e)
  have hM:Mod K mg (tm s₁.heap H):=⟨hKb,nsK hns,⟨mb,nsK hb,hbb⟩,let ⟨mc,h1,h2⟩:=hlim;⟨mc,nsK h1,h2⟩⟩
  have e0:zJ P w K mg (tm s₁.heap H) callerA [] s₁ H:=⟨rfl,hM,fun b o e=>CL e,Nat.le_of_eq (zq _ _),trivial,fun b hb=>absurd (show b∈([]:List Addr) from hb) (by simp),hok,.of_eq hg⟩
  refine codeAny_mono ((F _ hKb (nsK hns)).run callerA [] s₁ H ⟨[.ref a],[]⟩ [.ref a] [.ref a] _ _ hr e0 (hbind s₁ (.ref a)) (.cons rfl .nil) (hsp H hO hS)) fun r s' h=>?_
  cases r with
  | error e=>exact (hCX H e s' h).elim
  | ok fl =>
   cases fl with
   | next=>exact False.elim h
   | brk=>exact False.elim h
   | cont=>exact False.elim h
   | ret u =>
    obtain⟨v,H',os,bare,un,hok',r',q⟩:=h
    have q':v=.bl true:=q
    subst q'
    obtain rfl:u=Value.bool true:=r'
    refine⟨rfl,OldK.of_keep fun b o e=>?_,os,bare⟩
    cases q:H b with
    | none=>exact un.keep b o e q (by intro z;exact absurd (show b∈([]:List Addr) from z) (by simp)) (by simp)
    | some u =>
     rcases hO b with z | ⟨ob,xs,z⟩
     ·rw [q] at z;cases z
     ·have z2:=un.frzs b ob _ z
      obtain⟨e1,_⟩:=hok b _ z
      obtain⟨e2,_⟩:=hok' b _ z2
      rw [e] at e1;cases e1
      exact e2
 cases hk:K.lookup a with
 | some o =>
  have e:=KX a o hk
  rw [ha] at e
  cases e
  refine core (fun _=>none) (fun _=>.inl rfl) (.inr ⟨_,vs.toArray,_,hk,rfl,rfl,rfl,by rw [K5,lenV];exact hl,by simpa using rv⟩) (fun b u z=>by have z':(none:Option HO)=some u:=z;cases z') (fun b z=>absurd rfl z) fun z=>absurd rfl z
 | none =>
  refine core (fun b=>if b=a then some (.frz { cls:=.type "list",data:=.seq vs.toArray } (.lst (ns.map V.int))) else none) (fun b=>?_) (.inl (.inr ⟨{ cls:=.type "list",data:=.seq vs.toArray },KS rfl⟩)) (fun b u z=>?_) (fun b z=>?_) fun _=>hk
  ·by_cases hb:b=a
   ·exact .inr ⟨_,_,KS hb⟩
   ·exact .inl (KQ hb)
  ·by_cases hb:b=a
   ·have z':=(KS hb).symm.trans z
    cases z'
    subst hb
    exact⟨ha,by rw [KZ];exact hl,vs,_,rv,ha⟩
   ·have z':=(KQ hb).symm.trans z
    cases z'
  ·by_cases hb:b=a
   ·exact hb
   ·exact absurd (KQ hb) z
end L2
namespace L2
open PySem PySem.Spec PyProof.Rows
theorem DC {l:PySem.W.OpenLaw} {n k:Nat} {q:Program} {loose:List Str} {XP:(Str→Option Value)→Heap→Prop} {YP:World→Heap→Prop} {d:DefRec} {K:Params→PySem.W.Frag} {CX:World→Af} {sp:World→Sp} {x:Str}
  (hn:l.most=some n) (hn2:n≤sizeLine) (hdf:d.params.defaults=[]) (hr:dg k callerA)
  (hY:∀(w:World) (h:Heap),YP w h→(K w.params).In h)
  (F:∀(w:World) (mg:Str→Option Value) (fa:Addr) (h:Heap),(K w.params).In h→h.Ns mainGlobals mg→mg d.name=some (.ref fa) →
   ∃fd:FuncData,(∀(s:Shared) (u:Value),BindsTo s fd ⟨[u],[]⟩ [(x,u)]) ∧
    ∀base:Heap,(K w.params).In base→base.Ns mainGlobals mg→mP l.prog w (K w.params) mg base (CX w) k fa fd [x] (sp w))
  (hsp:∀(w:World) (H:Hp) (a:Addr) (ns:List Int),ns.length≤n→E7 H→d9 (K w.params) H a (ns.map V.int)→sp w [.ref a] H (fun v _=>v=.bl true) fun _ _ _=>False)
  (hCX:∀(w:World) (H:Hp) (s:Shared) (e:Value) (s':Shared),CX w [] H s (fun _ _ _=>False) e s'→False) :
  PySem.W.WalkO q loose XP YP l.row.toRowW d [] (fun f vs=>PySem.call f vs):=by
 refine Att.va hn hdf fun w s₀ s₁ mg mb fa o pm cd doc a vs ns G Y ho hd hcd hmg hobj hints hlen hg=>?_
 have KX:=hY w _ Y
 obtain⟨fd,hb,hF⟩:=F w mg fa _ KX G.T.g hmg
 exact BR KX G.T.g G.T.b G.T.builtins G.T.nolimit hg hobj hints (LA hlen hn2) hr hF hb (fun H hO hS=>hsp w H a ns hlen hO hS) fun H e s'=>hCX w H s₁ e s'
end L2
namespace L2
open PySem PySem.Spec PyProof.Rows
def dC (s:Stmt):Arguments:=match s with
 | .FunctionDef _ a _ _ _ _ _ _ _ _=>a
 | _=>{ posonlyargs:=[],args:=[],vararg:=none,kwonlyargs:=[],kw_defaults:=[],kwarg:=none,defaults:=[] }
def a9 (s:Stmt):List Stmt:=match s with
 | .FunctionDef _ _ b _ _ _ _ _ _ _=>b
 | _=>[]
def ak (s:Stmt):Scope:=match s with
 | .FunctionDef _ _ _ _ _ _ sc _ _ _=>sc
 | _=>{ kind:=.function,names:=[],isGenerator:=false,isCoroutine:=false }
abbrev r9:Af:=fun _ _ _ _ _ _=>False
abbrev E0:XK:=fun _ _ _=>False
theorem As {X:Cx}:Passes r9 X E0:=fun _ _ _ _ _ _ _ h=>h.elim
structure og (K:PySem.W.Frag) (x qual:Str) (st:Stmt) (f:Addr) (fd:FuncData):Prop where
 ex:∃(oc:Value) (od:Option Addr) (kV doc pm:Value) (an:Option Addr) (cdv ct:Value) (osl:Array (Option Value)),
  fd=PySem.W.fnOf x qual (dC st) (a9 st) (ak st) .none kV doc pm an cdv ct∧K.lookup f=some ⟨oc,od,.func fd,osl⟩∧PySem.W.codeIn K cdv qual=true
 kp:PySem.W.keepIn K (.ref f)=true
section
variable {P:Program} {w:World} {K:PySem.W.Frag} {mg:Str→Option Value} {base:Heap}
theorem og.ok {x qual:Str} {st:Stmt} {f:Addr} {fd:FuncData} {N ps:List Str} {k:Nat} {sp:Sp} (F:og K x qual st f fd) (S:aD N ps (ak st)) (len:∀vs H Q E,sp vs H Q E→vs.length=ps.length)
  (hbody:∀(cdv:Value) (A:Around) (outer:List Env) (s:Shared) (H:Hp) (vs:List V) (Q:VK) (E:XK),dg k (A.deeper (envOfC qual (ak st) s.heap.objs.size f cdv))→sp vs H Q E →
   ∃t,uz (gw r9 P w K mg base N qual (ak st) f cdv A outer s H E).oO (a9 st) t∧t { nx:=fun _ H'=>Q .non H',rt:=Q } (start N vs) H):mP P w K mg base r9 (k + 1) f fd ps sp:=by
 obtain⟨oc,od,kV,doc,pm,an,cdv,ct,osl,rfl,lk,hcd⟩:=F.ex
 refine yg lk hcd S len fun A outer s H vs Q E hr hsp=>?_
 obtain⟨t,h,q⟩:=hbody cdv A outer s H vs Q E hr hsp
 exact⟨t,h.oO,q⟩
theorem og.binds {x qual:Str} {st:Stmt} {f:Addr} {fd:FuncData} {ps:List Str} (F:og K x qual st f fd)
  (h:∀(kV doc pm:Value) (an:Option Addr) (cdv ct:Value) (us:List Value),us.length=ps.length→bindArgs (PySem.W.fnOf x qual (dC st) (a9 st) (ak st) .none kV doc pm an cdv ct) ⟨us,[]⟩=pure (ps.zip us)):Binds K fd ps []:=by
 obtain⟨oc,od,kV,doc,pm,an,cdv,ct,osl,rfl,lk,hcd⟩:=F.ex
 exact .all (h kV doc pm an cdv ct)
theorem A4 {x qual:Str} {st:Stmt} {f:Addr} {oc:Value} {od an:Option Addr} {osl:Array (Option Value)} {kV doc pm cdv ct:Value} (l:K.lookup f=some ⟨oc,od,.func (PySem.W.fnOf x qual (dC st) (a9 st) (ak st) .none kV doc pm an cdv ct),osl⟩)
  (c:PySem.W.codeIn K cdv qual=true) (k:PySem.W.keepIn K (.ref f)=true):og K x qual st f (PySem.W.fnOf x qual (dC st) (a9 st) (ak st) .none kV doc pm an cdv ct):=⟨⟨oc,od,kV,doc,pm,an,cdv,ct,osl,rfl,l,c⟩,k⟩
end
def ar (H H':Hp):Prop:=∀b o,H b=some o→H' b=some o
theorem ar.refl (H:Hp):ar H H:=fun _ _ h=>h
theorem ar.trans {H H1 H2:Hp} (a:ar H H1) (b:ar H1 H2):ar H H2:=fun c o h=>b c o (a c o h)
theorem ar.free {H H':Hp} (e:ar H H') {l:Addr} (h:H' l=Option.none):H l=Option.none:=by
 cases q:H l with
 | none=>rfl
 | some o =>
  rw [e l o q] at h
  cases h
theorem ar.seq {K:PySem.W.Frag} {H H':Hp} {a:Addr} {xs:List V} (e:ar H H') (h:d9 K H a xs):d9 K H' a xs:=by
 rcases h with (h | ⟨o,h⟩) | h
 ·exact .inl (.inl (e _ _ h))
 ·exact .inl (.inr ⟨o,e _ _ h⟩)
 ·exact .inr h
end L2
set_option maxHeartbeats 8000000
namespace L2
open PySem PySem.Spec PyProof.Rows
section
variable {κ:Type} [DecidableEq κ]
theorem KV.length {kvs:List (κ×V)} {vs:List (κ×Value)} (r:KV kvs vs):kvs.length=vs.length:=Paired.length r
end
section
variable {X:Cx} {pins:List (Addr×Obj)} {σ:St} {H:Hp} {s:Shared} {a:Addr} {y v:V} {u r:Value} {o:Option V} {A:Around} {E:Value→Shared→Prop}
theorem Inv.big (I:Inv X pins σ H s):sysModules < s.heap.objs.size:=by
 have h:mainGlobals < s.heap.objs.size:=(I.mod.glob.keeps I.bk).lt
 exact Nat.lt_trans (by decide) h
theorem yN {h':Heap} {t':Nat} {ob:HO} (I:Inv X pins σ H s) (mu:HI (H a)) (hs:Heap.SameBut a s.heap h') (he:∃q,h'.get? a=some q) (new:cE X.prog X.w (upd H a ob) h' a ob) :
  Inv X pins σ (upd H a ob) { s with heap:=h',toks:=t' } :=
 I.write (x:=a) (e:=a) mu (.inl rfl) (fun b q hb z=>(hs.2 b hb).trans z) he new
end
def DP (i:Expr):Prop:=∀ov iv,subscripted i false ov iv=operate [ov,iv] (getItem ov iv)
theorem Dh {prog:Program} {w:World} {A:Around} {E:Value→Shared→Prop} {s:Shared} {env:Env} {value slice:Expr} {pos:Pos} {T id:String} {Q:Value→Shared→Prop}
  (hl:typeLookup (.type T) "__getitem__" = pure (some (.builtin id))) (hs:DP slice)
  (h:wpAny (model prog w) A (eval value env) (fun o s₁=>wpAny (model prog w) A (eval slice env) (fun i s₂=>s₂.TypeIs o T∧wpAny (model prog w) A (getItem o i) Q E s₂) E s₁) E s) :
  wpAny (model prog w) A (eval (.Subscript value slice pos) env) Q E s:=by
 refine Subscript_ (Li h (fun o s₁ h₁=>Li h₁ (fun i s₂ h₂=>?_) fun _ _ x=>x) fun _ _ x=>x)
 obtain⟨hT,h₂⟩:=h₂
 unfold subscriptTail
 refine KJ ?_
 rw [getitemInPython_of_ne hT.not_modules]
 refine KJ (wpAny_specialOf hT hl ?_)
 have fin:wpAny (model prog w) A (subscripted slice false o i) (fun r s₃=>wpAny (model prog w) A (letTemporaryGo value o r >>= fun _=>pure r) Q E s₃) E s₂:=by
  rw [hs o i]
  exact wpAny_operating (Li h₂ (fun r s₃ h₃=>KJ (wpAny_letTemporaryGo (KO h₃))) fun _ _ x=>x)
 first
  | exact KO (KJ fin)
  | exact KJ (KO (KJ fin))
  | exact KJ fin
structure M1 (X:Cx) (o:Expr) (m:Str) (apos:Pos) (e:Expr) (cpos:Pos):Prop where
 base:attributeBase o m X.env (eval o X.env)=eval o X.env
 few:((backTo cpos (starEach [e] X.env)).all (fun x=>!x.1) && (backToKw cpos (keywordEach [] X.env)).all (fun x=>x.1.isSome)
  && decide (([e]:List Expr).length + ([]:List Keyword).length + (if ([]:List Keyword).isEmpty then 0 else 1) < 30))=true
 line:(apos.endLine == cpos.line)=true
 trees:backTo cpos (starEach [e] X.env)=[(false,eval e X.env)]
end L2
namespace L2.L3
open PySem PySem.Spec PyProof.Rows
inductive D where
 | non | bl (b:Bool) | int (i:Int) | str (x:Str) | tup (xs:List D) | lst (xs:List D) | dct (ks:List Key) (xs:List D) | ty (n:String) | exc (c:Str) | cls (c:Str) | obj (P:PySem.W.Frag→Hp→Addr→Prop)
def excAt (a C:Addr) (h:Heap):Prop:=∃o vs,h.get? a=some o∧o.cls=.ref C∧o.dict=none∧o.data=.fields vs
mutual
def Den (K:PySem.W.Frag) (F:Hp):D→V→Prop
 | .non,v=>v=V.non
 | .bl b,v=>v=V.bl b
 | .int i,v=>v=V.int i
 | .str x,v=>v=V.str x
 | .ty n,v=>v=V.ty n
 | .exc c,v=>∃a C,v=V.ref a∧PySem.W.nsIn K mainGlobals c=some (some (.ref C))∧F a=some (.ext (excAt a C))
 | .cls c,v=>∃C,v=V.ref C∧PySem.W.nsIn K mainGlobals c=some (some (.ref C))
 | .tup ds,v=>∃a vs,v=V.ref a∧iZ K F a vs∧aq K F ds vs
 | .lst ds,v=>∃a vs,v=V.ref a∧d9 K F a vs∧aq K F ds vs
 | .obj P,v=>∃a,v=V.ref a∧∀G,ar F G→P K G a
 | .dct ks ds,v=>∃a vs,v=V.ref a∧F a=some (.dK (ks.zip vs))∧vs.length=ks.length∧aq K F ds vs
def aq (K:PySem.W.Frag) (F:Hp):List D→List V→Prop
 | [],vs=>vs=[]
 | d :: ds,vs=>∃v r,vs=v :: r∧Den K F d v∧aq K F ds r
end
theorem ar.cn {K:PySem.W.Frag} {H H':Hp} {a:Addr} {xs:List V} (e:ar H H') (h:iZ K H a xs):iZ K H' a xs:=by
 rcases h with (h | ⟨o,h⟩) | h
 ·exact .inl (.inl (e _ _ h))
 ·exact .inl (.inr ⟨o,e _ _ h⟩)
 ·exact .inr h
mutual
theorem Den.mono {K:PySem.W.Frag} {F F':Hp} (s:ar F F'):∀(d:D) (v:V),Den K F d v→Den K F' d v
 | .non,_,h=>by simpa only [Den] using h
 | .bl _,_,h=>by simpa only [Den] using h
 | .int _,_,h=>by simpa only [Den] using h
 | .str _,_,h=>by simpa only [Den] using h
 | .ty _,_,h=>by simpa only [Den] using h
 | .cls _,_,h=>by simpa only [Den] using h
 | .exc _,v,h=>by
  simp only [Den] at h ⊢
  obtain⟨a,C,e,z,q⟩:=h
  exact⟨a,C,e,z,s _ _ q⟩
 | .tup ds,v,h=>by
  simp only [Den] at h ⊢
  obtain⟨a,vs,e,q,r⟩:=h
  exact⟨a,vs,e,ar.cn s q,aq.mono s ds vs r⟩
 | .lst ds,v,h=>by
  simp only [Den] at h ⊢
  obtain⟨a,vs,e,q,r⟩:=h
  exact⟨a,vs,e,s.seq q,aq.mono s ds vs r⟩
 | .obj _,v,h=>by
  simp only [Den] at h ⊢
  obtain⟨a,e,q⟩:=h
  exact⟨a,e,fun G sG=>q G (s.trans sG)⟩
 | .dct ks ds,v,h=>by
  simp only [Den] at h ⊢
  obtain⟨a,vs,e,q,l,r⟩:=h
  exact⟨a,vs,e,s _ _ q,l,aq.mono s ds vs r⟩
theorem aq.mono {K:PySem.W.Frag} {F F':Hp} (s:ar F F'):∀(ds:List D) (vs:List V),aq K F ds vs→aq K F' ds vs
 | [],_,h=>by simpa only [aq] using h
 | d :: ds,vs,h=>by
  simp only [aq] at h ⊢
  obtain⟨v,r,e,a,b⟩:=h
  exact⟨v,r,e,Den.mono s d v a,aq.mono s ds r b⟩
end
section
variable {K:PySem.W.Frag} {F:Hp}
theorem bC {i:Int}:Den K F (.int i) (.int i):=by simp only [Den]
theorem hG {b:Bool}:Den K F (.bl b) (.bl b):=by simp only [Den]
theorem jR:Den K F .non .non:=by simp only [Den]
theorem gG {x:Str}:Den K F (.str x) (.str x):=by simp only [Den]
theorem GN {x:String}:Den K F (.ty x) (.ty x):=by simp only [Den]
theorem fN {a:Addr} {vs:List V} {ds:List D} (h:iZ K F a vs) (r:aq K F ds vs):Den K F (.tup ds) (.ref a):=by
 simp only [Den];exact⟨a,vs,rfl,h,r⟩
theorem fe {a:Addr} {vs:List V} {ds:List D} (h:d9 K F a vs) (r:aq K F ds vs):Den K F (.lst ds) (.ref a):=by
 simp only [Den];exact⟨a,vs,rfl,h,r⟩
theorem aW:aq K F [] []:=by simp only [aq]
theorem aX {d:D} {v:V} {ds:List D} {vs:List V} (h:Den K F d v) (r:aq K F ds vs):aq K F (d :: ds) (v :: vs):=by
 simp only [aq];exact⟨v,vs,rfl,h,r⟩
theorem aq.length:∀{ds:List D} {vs:List V},aq K F ds vs→ds.length=vs.length
 | [],vs,h=>by simp only [aq] at h;subst h;rfl
 | d :: ds,vs,h=>by
  simp only [aq] at h
  obtain⟨v,r,rfl,_,b⟩:=h
  simp [aq.length b]
theorem aq.get:∀{ds:List D} {vs:List V} {i:Nat} {d:D},aq K F ds vs→ds[i]?=some d→∃v,vs[i]?=some v∧Den K F d v
 | [],vs,i,d,h,e=>by simp at e
 | x :: ds,vs,i,d,h,e=>by
  simp only [aq] at h
  obtain⟨v,r,rfl,a,b⟩:=h
  cases i with
  | zero=>simp at e;subst e;exact⟨v,rfl,a⟩
  | succ i=>simpa using aq.get b (by simpa using e)
theorem aq.Iu:∀{ds:List D} {vs:List V} {i:Nat} {v:V},aq K F ds vs→vs[i]?=some v→∃d,ds[i]?=some d∧Den K F d v
 | [],vs,i,d,h,e=>by simp only [aq] at h;subst h;simp at e
 | x :: ds,vs,i,d,h,e=>by
  simp only [aq] at h
  obtain⟨v,r,rfl,a,b⟩:=h
  cases i with
  | zero=>simp at e;subst e;exact⟨x,rfl,a⟩
  | succ i=>simpa using aq.Iu b (by simpa using e)
theorem aq.append:∀{ds es:List D} {vs us:List V},aq K F ds vs→aq K F es us→aq K F (ds ++ es) (vs ++ us)
 | [],es,vs,us,h,g=>by simp only [aq] at h;subst h;exact g
 | x :: ds,es,vs,us,h,g=>by
  simp only [aq] at h
  obtain⟨v,r,rfl,a,b⟩:=h
  exact aX a (aq.append b g)
theorem aq.take:∀{ds:List D} {vs:List V} (n:Nat),aq K F ds vs→aq K F (ds.take n) (vs.take n)
 | _,_,0,_=>by simpa using aW
 | [],vs,n + 1,h=>by simp only [aq] at h;subst h;simpa using aW
 | x :: ds,vs,n + 1,h=>by
  simp only [aq] at h
  obtain⟨v,r,rfl,a,b⟩:=h
  exact aX a (aq.take n b)
theorem aq.drop:∀{ds:List D} {vs:List V} (n:Nat),aq K F ds vs→aq K F (ds.drop n) (vs.drop n)
 | _,_,0,h=>by simpa using h
 | [],vs,n + 1,h=>by simp only [aq] at h;subst h;simpa using aW
 | x :: ds,vs,n + 1,h=>by
  simp only [aq] at h
  obtain⟨v,r,rfl,a,b⟩:=h
  exact aq.drop n b
theorem aq.set {x:D} {v:V} (q:Den K F x v):∀{ds:List D} {vs:List V} (n:Nat),aq K F ds vs→aq K F (ds.set n x) (vs.set n v)
 | [],vs,n,h=>by simp only [aq] at h;subst h;simpa using aW
 | y :: ds,vs,0,h=>by
  simp only [aq] at h
  obtain⟨w,r,rfl,a,b⟩:=h
  exact aX q b
 | y :: ds,vs,n + 1,h=>by
  simp only [aq] at h
  obtain⟨w,r,rfl,a,b⟩:=h
  exact aX a (aq.set q n b)
theorem nC (ns:List Int):aq K F (ns.map D.int) (ns.map V.int):=by
 induction ns with
 | nil=>exact aW
 | cons n r ih=>exact aX bC ih
end
mutual
def Ar:D→Int
 | .int i=>hashInt i
 | .tup ds=>reduceHash (Builtin.Tuple.tupleHashOf (qp ds))
 | .non=>4238894112
 | _=>0
def qp:List D→List Int
 | []=>[]
 | d :: ds=>Ar d :: qp ds
end
def bI (h:Heap) (d:Addr) (es:Array DictEntry) (ep:Nat):Prop:=∃o,h.get? d=some o∧o.ExactDict∧o.data=.dict es ep
def Co (row:Int×V×V) (e:DictEntry):Prop:=e.hash=row.1∧RelV row.2.1 e.key∧RelV row.2.2 e.val
def kr (p:Addr) (ep:Nat) (rows:List (Int×V×V)):HO:=.ext fun h=>rows.length≤sizeLine∧(p == sysModules)=false∧∃es,bI h p es ep∧Paired Co rows es.toList
def b4 (kvs:List (D×D)) (us vs:List V):List (Int×V×V):=(kvs.map fun kv=>Ar kv.1).zip (us.zip vs)
inductive Lo where
 | d (x:D) | own (xs:List D) | dic (kvs:List (D×D))
abbrev En:=List (Option Lo)
structure Base where
 F:Hp
 H:Hp
 N:Addr→Prop
 nb:∀p,N p→H p≠none
structure Rep (K:PySem.W.Frag) (B:Base) (F H:Hp) (σ:St) (e:En):Prop where
 f0:ar B.F F
 fh:ar F H
 h0:ar B.H H
 nf:∀p,B.N p→F p=none
 dv:∀(i:Nat) x,e[i]?=some (some (.d x))→∃v,σ[i]?=some (some v)∧Den K F x v
 ov:∀(i:Nat) xs,e[i]?=some (some (.own xs))→∃p vs,σ[i]?=some (some (.ref p))∧H p=some (.lst vs)∧F p=none∧B.H p=none∧aq K F xs vs
 ne:∀(i j:Nat) xs ys p,i≠j→e[i]?=some (some (.own xs))→e[j]?=some (some (.own ys))→σ[i]?=some (some (.ref p))→σ[j]?=some (some (.ref p))→False
 mv:∀(i:Nat) kvs,e[i]?=some (some (.dic kvs))→∃p ep us vs,σ[i]?=some (some (.ref p))∧H p=some (kr p ep (b4 kvs us vs))∧F p=none∧B.H p=none∧aq K F (kvs.map (·.1)) us∧aq K F (kvs.map (·.2)) vs
 nm:∀(i j:Nat) xs ys p,i≠j→e[i]?=some (some (.dic xs))→e[j]?=some (some (.dic ys))→σ[i]?=some (some (.ref p))→σ[j]?=some (some (.ref p))→False
section
variable {K:PySem.W.Frag} {B:Base} {F H F' H':Hp} {σ:St} {e:En}
theorem Rep.ext (r:Rep K B F H σ e) (a:ar F F') (b:ar F' H') (c:ar H H') (n:∀p,H p≠none→F p=none→F' p=none):Rep K B F' H' σ e where
 f0:=r.f0.trans a
 fh:=b
 h0:=r.h0.trans c
 nf:=fun p hp=>by
  refine n p (fun z=>?_) (r.nf p hp)
  have q:=B.nb p hp
  cases w:B.H p with
  | none=>exact q w
  | some o=>rw [r.h0 _ _ w] at z;cases z
 dv:=fun i x h=>let ⟨v,h1,h2⟩:=r.dv i x h;⟨v,h1,Den.mono a _ _ h2⟩
 ov:=fun i xs h=>by
  obtain⟨p,vs,h1,h2,h3,h4,h5⟩:=r.ov i xs h
  exact⟨p,vs,h1,c _ _ h2,n p (by rw [h2];simp) h3,h4,aq.mono a _ _ h5⟩
 ne:=r.ne
 mv:=fun i xs h=>by
  obtain⟨p,ep,us,vs,h1,h2,h3,h4,h5,h6⟩:=r.mv i xs h
  exact⟨p,ep,us,vs,h1,c _ _ h2,n p (by rw [h2];simp) h3,h4,aq.mono a _ _ h5,aq.mono a _ _ h6⟩
 nm:=r.nm
theorem Rep.rK (r:Rep K B F H σ e) {p:Addr} (h:H p=none):F p=none:=r.fh.free h
theorem cA {H:Hp} {p:Addr} {o:HO} (h:H p=none):ar H (upd H p o):=fun b u q=>by rw [aH (bZ q h)];exact q
theorem mI {F H:Hp} {p:Addr} {o:HO} (h:ar F H):ar (upd F p o) (upd H p o):=fun b u q=>by
 by_cases e:b=p
 ·subst e;rw [aI] at q ⊢;exact q
 ·rw [aH e] at q ⊢;exact h _ _ q
theorem Rep.laid (r:Rep K B F H σ e) {p:Addr} {o:HO} (h:H p=none):Rep K B (upd F p o) (upd H p o) σ e∧ar F (upd F p o):=by
 have hf:=r.rK h
 refine⟨r.ext (cA hf) (mI r.fh) (cA h) fun q hq hn=>?_,cA hf⟩
 by_cases z:q=p
 ·subst z;exact absurd h hq
 ·rw [aH z];exact hn
theorem Rep.loose (r:Rep K B F H σ e) {p:Addr} {o:HO} (h:H p=none):Rep K B F (upd H p o) σ e :=
 r.ext (ar.refl _) (r.fh.trans (cA h)) (cA h) fun _ _ hn=>hn
theorem Rep.now (r:Rep K B F H σ e):Rep K ⟨F,B.H,B.N,B.nb⟩ F H σ e:=⟨ar.refl _,r.fh,r.h0,r.nf,r.dv,r.ov,r.ne,r.mv,r.nm⟩
theorem Rep.back {G:Hp} (s:ar B.F G) (r:Rep K ⟨G,B.H,B.N,B.nb⟩ F H σ e):Rep K B F H σ e:=⟨s.trans r.f0,r.fh,r.h0,r.nf,r.dv,r.ov,r.ne,r.mv,r.nm⟩
theorem aT {e:En} {i j:Nat} {l:Lo} {kvs:List (D×D)} (hl:∀z,l≠.dic z) (q:(e.set i (some l))[j]?=some (some (.dic kvs))):i≠j:=fun z=>by
 subst z
 by_cases w:i < e.length
 ·rw [KW w] at q;cases q;exact hl _ rfl
 ·rw [K7 (by simpa using w)] at q;cases q
theorem Rep.set (r:Rep K B F H σ e) {i:Nat} {v:V} {x:D} (h:Den K F x v) (hl:i < σ.length):Rep K B F H (σ.set i (some v)) (e.set i (some (.d x))) where
 f0:=r.f0
 fh:=r.fh
 h0:=r.h0
 nf:=r.nf
 dv:=fun j y q=>by
  by_cases z:i=j
  ·subst z
   by_cases w:i < e.length
   ·rw [KW w] at q
    cases q
    exact⟨v,KW hl,h⟩
   ·rw [K7 (by simpa using w)] at q;cases q
  ·rw [KN z] at q ⊢;exact r.dv j y q
 ov:=fun j y q=>by
  by_cases z:i=j
  ·subst z
   by_cases w:i < e.length
   ·rw [KW w] at q;cases q
   ·rw [K7 (by simpa using w)] at q;cases q
  ·rw [KN z] at q ⊢;exact r.ov j y q
 ne:=fun j k xs ys p hjk q1 q2 q3 q4=>by
  have own_ne:∀(j:Nat) (ys:List D),(e.set i (some (.d x)))[j]?=some (some (.own ys))→i≠j:=fun j ys q z=>by
   subst z
   by_cases w:i < e.length
   ·rw [KW w] at q;cases q
   ·rw [K7 (by simpa using w)] at q;cases q
  have z1:=own_ne j xs q1
  have z2:=own_ne k ys q2
  rw [KN z1] at q1 q3
  rw [KN z2] at q2 q4
  exact r.ne j k xs ys p hjk q1 q2 q3 q4
 mv:=fun j y q=>by
  have z:i≠j:=aT (fun _ w=>by cases w) q
  rw [KN z] at q ⊢;exact r.mv j y q
 nm:=fun j k xs ys p hjk q1 q2 q3 q4=>by
  have z1:=aT (fun _ w=>by cases w) q1
  have z2:=aT (fun _ w=>by cases w) q2
  rw [KN z1] at q1 q3
  rw [KN z2] at q2 q4
  exact r.nm j k xs ys p hjk q1 q2 q3 q4
theorem Rep.B8 (r:Rep K B F H σ e) {i:Nat} {p:Addr} {vs:List V} {xs:List D} (h:H p=none) (hd:aq K F xs vs) (hl:i < σ.length) :
  Rep K B F (upd H p (.lst vs)) (σ.set i (some (.ref p))) (e.set i (some (.own xs))):=by
 have r1:=r.loose (o:=.lst vs) h
 have hb:B.H p=none:=r.h0.free h
 have old:∀(j:Nat) (ys:List D),e[j]?=some (some (.own ys))→σ[j]?≠some (some (.ref p)):=fun j ys q z=>by
  obtain⟨q1,_,h1,h2,_⟩:=r.ov j ys q
  rw [z] at h1;cases h1;rw [h] at h2;cases h2
 refine⟨r1.f0,r1.fh,r1.h0,r1.nf,fun j y q=>?_,fun j y q=>?_,fun j k ys zs q hjk q1 q2 q3 q4=>?_,fun j y q=>?_,fun j k ys zs q hjk q1 q2 q3 q4=>?_⟩
 ·by_cases z:i=j
  ·subst z
   by_cases w:i < e.length
   ·rw [KW w] at q;cases q
   ·rw [K7 (by simpa using w)] at q;cases q
  ·rw [KN z] at q ⊢;exact r1.dv j y q
 ·by_cases z:i=j
  ·subst z
   by_cases w:i < e.length
   ·rw [KW w] at q
    cases q
    exact⟨p,vs,KW hl,aI,r.rK h,hb,hd⟩
   ·rw [K7 (by simpa using w)] at q;cases q
  ·rw [KN z] at q ⊢;exact r1.ov j y q
 ·by_cases z1:i=j
  ·subst z1
   rw [KN hjk] at q2 q4
   by_cases w:i < e.length
   ·rw [KW hl] at q3
    cases q3
    exact old k zs q2 q4
   ·rw [K7 (by simpa using w)] at q1;cases q1
  ·rw [KN z1] at q1 q3
   by_cases z2:i=k
   ·subst z2
    rw [KW hl] at q4
    cases q4
    exact old j ys q1 q3
   ·rw [KN z2] at q2 q4
    exact r.ne j k ys zs q hjk q1 q2 q3 q4
 ·have z:i≠j:=aT (fun _ w=>by cases w) q
  rw [KN z] at q ⊢;exact r1.mv j y q
 ·have z1:=aT (fun _ w=>by cases w) q1
  have z2:=aT (fun _ w=>by cases w) q2
  rw [KN z1] at q1 q3
  rw [KN z2] at q2 q4
  exact r.nm j k ys zs q hjk q1 q2 q3 q4
theorem Rep.change (r:Rep K B F H σ e) {i:Nat} {p:Addr} {vs:List V} {xs ys:List D} (h:e[i]?=some (some (.own xs))) (hp:σ[i]?=some (some (.ref p))) (hd:aq K F ys vs) :
  Rep K B F (upd H p (.lst vs)) σ (e.set i (some (.own ys))):=by
 obtain⟨p',_,h1,h2,h3,h4,_⟩:=r.ov i xs h
 rw [hp] at h1;cases h1
 have wl:i < e.length:=(KL.mp h).1
 have fk:∀q o,F q=some o→q≠p:=fun q o z w=>by subst w;rw [h3] at z;cases z
 have bk:∀q o,B.H q=some o→q≠p:=fun q o z w=>by subst w;rw [h4] at z;cases z
 have ownAt:∀(j:Nat) (zs:List D),(e.set i (some (.own ys)))[j]?=some (some (.own zs))→∃ws,e[j]?=some (some (.own ws)):=fun j zs q=>by
  by_cases z:i=j
  ·subst z;exact⟨xs,h⟩
  ·rw [KN z] at q;exact⟨zs,q⟩
 refine⟨r.f0,fun b o z=>by rw [aH (fk b o z)];exact r.fh _ _ z,fun b o z=>by rw [aH (bk b o z)];exact r.h0 _ _ z,r.nf,fun j y q=>?_,fun j y q=>?_,fun j k as bs q hjk q1 q2 q3 q4=>?_,fun j y q=>?_,fun j k as bs q hjk q1 q2 q3 q4=>?_⟩
 ·by_cases z:i=j
  ·subst z;rw [KW wl] at q;cases q
  ·rw [KN z] at q;exact r.dv j y q
 ·by_cases z:i=j
  ·subst z
   rw [KW wl] at q
   cases q
   exact⟨p,vs,hp,aI,h3,h4,hd⟩
  ·rw [KN z] at q
   obtain⟨p2,us,g1,g2,g3,g4,g5⟩:=r.ov j y q
   have:p2≠p:=fun w=>by subst w;exact r.ne j i y xs p2 (Ne.symm z) q h g1 hp
   exact⟨p2,us,g1,by rw [aH this];exact g2,g3,g4,g5⟩
 ·obtain⟨as',w1⟩:=ownAt j as q1
  obtain⟨bs',w2⟩:=ownAt k bs q2
  exact r.ne j k as' bs' q hjk w1 w2 q3 q4
 ·have z:i≠j:=aT (fun _ w=>by cases w) q
  rw [KN z] at q
  obtain⟨p2,ep,us,ws,g1,g2,g3,g4,g5,g6⟩:=r.mv j y q
  have:p2≠p:=fun w=>by subst w;rw [h2] at g2;cases g2
  exact⟨p2,ep,us,ws,g1,by rw [aH this];exact g2,g3,g4,g5,g6⟩
 ·have z1:=aT (fun _ w=>by cases w) q1
  have z2:=aT (fun _ w=>by cases w) q2
  rw [KN z1] at q1
  rw [KN z2] at q2
  exact r.nm j k as bs q hjk q1 q2 q3 q4
theorem Rep.freeze (r:Rep K B F H σ e) {i:Nat} {xs:List D} (h:e[i]?=some (some (.own xs))):∃F',ar F F'∧Rep K B F' H σ (e.set i (some (.d (.lst xs)))):=by
 obtain⟨p,vs,h1,h2,h3,h4,h5⟩:=r.ov i xs h
 have wl:i < e.length:=(KL.mp h).1
 have s1:ar F (upd F p (.lst vs)):=cA h3
 refine⟨upd F p (.lst vs),s1,r.f0.trans s1,fun b o z=>?_,r.h0,fun q hq=>?_,fun j y q=>?_,fun j y q=>?_,fun j k as bs q hjk q1 q2 q3 q4=>?_,fun j y q=>?_,fun j k as bs q hjk q1 q2 q3 q4=>?_⟩
 ·by_cases w:b=p
  ·subst w;rw [aI] at z;cases z;exact h2
  ·rw [aH w] at z;exact r.fh _ _ z
 ·have:q≠p:=fun w=>by subst w;exact B.nb _ hq h4
  rw [aH this];exact r.nf q hq
 ·by_cases z:i=j
  ·subst z
   rw [KW wl] at q
   cases q
   exact⟨_,h1,fe (d9.of aI) (aq.mono s1 _ _ h5)⟩
  ·rw [KN z] at q
   obtain⟨v,a,b⟩:=r.dv j y q
   exact⟨v,a,Den.mono s1 _ _ b⟩
 ·by_cases z:i=j
  ·subst z;rw [KW wl] at q;cases q
  ·rw [KN z] at q
   obtain⟨p2,us,g1,g2,g3,g4,g5⟩:=r.ov j y q
   have:p2≠p:=fun w=>by subst w;exact r.ne j i y xs p2 (Ne.symm z) q h g1 h1
   exact⟨p2,us,g1,g2,by rw [aH this];exact g3,g4,aq.mono s1 _ _ g5⟩
 ·have ownAt:∀(j:Nat) (zs:List D),(e.set i (some (.d (.lst xs))))[j]?=some (some (.own zs))→e[j]?=some (some (.own zs)):=fun j zs q=>by
   by_cases z:i=j
   ·subst z;rw [KW wl] at q;cases q
   ·rw [KN z] at q;exact q
  exact r.ne j k as bs q hjk (ownAt j as q1) (ownAt k bs q2) q3 q4
 ·have z:i≠j:=aT (fun _ w=>by cases w) q
  rw [KN z] at q
  obtain⟨p2,ep,us,ws,g1,g2,g3,g4,g5,g6⟩:=r.mv j y q
  have:p2≠p:=fun w=>by subst w;rw [h2] at g2;cases g2
  exact⟨p2,ep,us,ws,g1,g2,by rw [aH this];exact g3,g4,aq.mono s1 _ _ g5,aq.mono s1 _ _ g6⟩
 ·have z1:=aT (fun _ w=>by cases w) q1
  have z2:=aT (fun _ w=>by cases w) q2
  rw [KN z1] at q1
  rw [KN z2] at q2
  exact r.nm j k as bs q hjk q1 q2 q3 q4
end
end L2.L3
namespace L2.L3
open PySem PySem.Spec PyProof.Rows
def notStar:Expr→Bool
 | .Starred _ _=>false
 | _=>true
theorem a6 {e:Expr} {es:List Expr} {env:Env} (h:notStar e=true):starEach (e :: es) env=(false,eval e env) :: starEach es env:=by
 cases e <;> first | rfl | cases h
abbrev TD:=En→(D→Prop)→Prop
abbrev TB:=En→(Bool→Prop)→Prop
abbrev fF:=En→(List D→Prop)→Prop
structure Ends3 where
 nx:En→Prop
 rt:D→Prop
 bk:En→Prop:=fun _=>False
 ct:En→Prop:=fun _=>False
abbrev bH:=Ends3→En→Prop
def wE (X:Cx) (e:Expr):TE:=fun σ H Q=>∀(pins:List (Addr×Obj)) (s:Shared),Inv X pins σ H s→wpAny (model X.prog X.w) X.A (eval e X.env) (EP X pins σ Q) X.xe s
def wT (X:Cx) (e:Expr):TT:=fun σ H Q=>∀(pins:List (Addr×Obj)) (s:Shared),Inv X pins σ H s→wpAny (model X.prog X.w) X.A (isTrue e X.env (eval e X.env)) (TP X pins σ Q) X.xe s
def wW (X:Cx) (e:Expr):TT:=fun σ H Q=>∀(whole:Sem Value) (pins:List (Addr×Obj)) (s:Shared),Inv X pins σ H s→wpAny (model X.prog X.w) X.A (isTrue e X.env whole) (TP X pins σ Q) X.xe s
def wA (X:Cx) (es:List Expr):TA:=fun σ H Q=>∀(pos:Pos) (pins:List (Addr×Obj)) (s:Shared),Inv X pins σ H s→wpAny (model X.prog X.w) X.A (spliced (backTo pos (starEach es X.env))) (AP X pins σ Q) X.xe s
def wS (X:Cx) (st:Stmt):TS:=fun D σ H=>∀(pins:List (Addr×Obj)) (s:Shared),Inv X pins σ H s→wpAny (model X.prog X.w) X.A (exec st X.env) (SP X pins D) X.xe s
def wSs (X:Cx) (st:List Stmt):TS:=fun D σ H=>∀(pins:List (Addr×Obj)) (s:Shared),Inv X pins σ H s→wpAny (model X.prog X.w) X.A (execs st X.env) (SP X pins D) X.xe s
section
variable {X:Cx} {e:Expr} {es:List Expr} {st:Stmt} {sts:List Stmt} {σ:St} {H:Hp}
theorem bR:PE X e (wE X e):=fun pins s σ H Q I h=>h pins s I
theorem qq:PT X e (wT X e):=fun pins s σ H Q I h=>h pins s I
theorem ID:PW X e (wW X e):=fun wh pins s σ H Q I h=>h wh pins s I
theorem i9:PA X es (wA X es):=fun pos pins s σ H Q I h=>h pos pins s I
theorem zQ:PS X st (wS X st):=fun pins s σ H D I h=>h pins s I
theorem eI:uz X sts (wSs X sts):=fun pins s σ H D I h=>h pins s I
theorem bY {te:TE} {Q:VK} (h:PE X e te) (q:te σ H Q):wE X e σ H Q:=fun pins s I=>h pins s σ H Q I q
theorem rR {te:TT} {Q:Bool→Hp→Prop} (h:PT X e te) (q:te σ H Q):wT X e σ H Q:=fun pins s I=>h pins s σ H Q I q
theorem yv {te:TT} {Q:Bool→Hp→Prop} (h:PW X e te) (q:te σ H Q):wW X e σ H Q:=fun wh pins s I=>h wh pins s σ H Q I q
theorem Ek {te:TA} {Q:List V→Hp→Prop} (h:PA X es te) (q:te σ H Q):wA X es σ H Q:=fun pos pins s I=>h pos pins s σ H Q I q
theorem eB {te:TS} {D:Ends} (h:PS X st te) (q:te D σ H):wS X st D σ H:=fun pins s I=>h pins s σ H D I q
theorem kZ {te:TS} {D:Ends} (h:uz X sts te) (q:te D σ H):wSs X sts D σ H:=fun pins s I=>h pins s σ H D I q
theorem aL {Q Q':VK} (h:wE X e σ H Q) (i:∀v H',Q v H'→Q' v H'):wE X e σ H Q':=fun pins s I=>b9 (h pins s I) fun _ _ ⟨v,H',I',r,q⟩=>⟨v,H',I',r,i v H' q⟩
theorem gJ {Q Q':Bool→Hp→Prop} (h:wT X e σ H Q) (i:∀v H',Q v H'→Q' v H'):wT X e σ H Q':=fun pins s I=>b9 (h pins s I) fun b _ ⟨H',I',q⟩=>⟨H',I',i b H' q⟩
theorem x3 {Q Q':Bool→Hp→Prop} (h:wW X e σ H Q) (i:∀v H',Q v H'→Q' v H'):wW X e σ H Q':=fun wh pins s I=>b9 (h wh pins s I) fun b _ ⟨H',I',q⟩=>⟨H',I',i b H' q⟩
theorem ck {Q Q':List V→Hp→Prop} (h:wA X es σ H Q) (i:∀v H',Q v H'→Q' v H'):wA X es σ H Q':=fun pos pins s I=>b9 (h pos pins s I) fun _ _ ⟨v,H',I',r,q⟩=>⟨v,H',I',r,i v H' q⟩
theorem oH {pins:List (Addr×Obj)} {D D':Ends} {f:Flow} {s':Shared} (h:SP X pins D f s') (nx:∀σ H,D.nx σ H→D'.nx σ H) (rt:∀v H,D.rt v H→D'.rt v H) (bk:∀σ H,D.bk σ H→D'.bk σ H) (ct:∀σ H,D.ct σ H→D'.ct σ H):SP X pins D' f s':=by
 cases f with
 | next=>obtain⟨σ',H',I,q⟩:=h;exact⟨σ',H',I,nx _ _ q⟩
 | brk=>obtain⟨σ',H',I,q⟩:=h;exact⟨σ',H',I,bk _ _ q⟩
 | cont=>obtain⟨σ',H',I,q⟩:=h;exact⟨σ',H',I,ct _ _ q⟩
 | ret u=>obtain⟨v,σ',H',I,r,q⟩:=h;exact⟨v,σ',H',I,r,rt _ _ q⟩
theorem sP {D D':Ends} (h:wS X st D σ H) (nx:∀σ H,D.nx σ H→D'.nx σ H) (rt:∀v H,D.rt v H→D'.rt v H) (bk:∀σ H,D.bk σ H→D'.bk σ H) (ct:∀σ H,D.ct σ H→D'.ct σ H):wS X st D' σ H :=
 fun pins s I=>b9 (h pins s I) fun _ _ q=>oH q nx rt bk ct
theorem gj {D D':Ends} (h:wSs X sts D σ H) (nx:∀σ H,D.nx σ H→D'.nx σ H) (rt:∀v H,D.rt v H→D'.rt v H) (bk:∀σ H,D.bk σ H→D'.bk σ H) (ct:∀σ H,D.ct σ H→D'.ct σ H):wSs X sts D' σ H :=
 fun pins s I=>b9 (h pins s I) fun _ _ q=>oH q nx rt bk ct
end
def RV (X:Cx) (B:Base) (σ:St) (env:En) (F:Hp) (Q:D→Prop):VK:=fun v H'=>∃F' d,Rep X.K B F' H' σ env∧ar F F'∧Den X.K F' d v∧Q d
def RB (X:Cx) (B:Base) (σ:St) (env:En) (F:Hp) (Q:Bool→Prop):Bool→Hp→Prop:=fun b H'=>∃F',Rep X.K B F' H' σ env∧ar F F'∧Q b
def RA (X:Cx) (B:Base) (σ:St) (env:En) (F:Hp) (Q:List D→Prop):List V→Hp→Prop:=fun vs H'=>∃F' ds,Rep X.K B F' H' σ env∧ar F F'∧aq X.K F' ds vs∧Q ds
def RS (X:Cx) (B:Base) (D:Ends3):Ends where
 nx:=fun σ' H'=>∃F' env',Rep X.K B F' H' σ' env'∧D.nx env'
 rt:=fun v H'=>∃F' d,Rep X.K B F' H' [] []∧Den X.K F' d v∧D.rt d
 bk:=fun σ' H'=>∃F' env',Rep X.K B F' H' σ' env'∧D.bk env'
 ct:=fun σ' H'=>∃F' env',Rep X.K B F' H' σ' env'∧D.ct env'
structure QE (X:Cx) (e:Expr) (t:TD):Prop where
 of ::
 run:∀(B:Base) (σ:St) (F H:Hp) (env:En) (Q:D→Prop),Rep X.K B F H σ env→t env Q→wE X e σ H (RV X B σ env F Q)
instance {X:Cx} {e:Expr} {t:TD}:CoeFun (QE X e t) (fun _=>∀(B:Base) (σ:St) (F H:Hp) (env:En) (Q:D→Prop),Rep X.K B F H σ env→t env Q→wE X e σ H (RV X B σ env F Q)):=⟨QE.run⟩
structure QT (X:Cx) (e:Expr) (t:TB):Prop where
 of ::
 run:∀(B:Base) (σ:St) (F H:Hp) (env:En) (Q:Bool→Prop),Rep X.K B F H σ env→t env Q→wT X e σ H (RB X B σ env F Q)
instance {X:Cx} {e:Expr} {t:TB}:CoeFun (QT X e t) (fun _=>∀(B:Base) (σ:St) (F H:Hp) (env:En) (Q:Bool→Prop),Rep X.K B F H σ env→t env Q→wT X e σ H (RB X B σ env F Q)):=⟨QT.run⟩
structure QW (X:Cx) (e:Expr) (t:TB):Prop where
 of ::
 run:∀(B:Base) (σ:St) (F H:Hp) (env:En) (Q:Bool→Prop),Rep X.K B F H σ env→t env Q→wW X e σ H (RB X B σ env F Q)
instance {X:Cx} {e:Expr} {t:TB}:CoeFun (QW X e t) (fun _=>∀(B:Base) (σ:St) (F H:Hp) (env:En) (Q:Bool→Prop),Rep X.K B F H σ env→t env Q→wW X e σ H (RB X B σ env F Q)):=⟨QW.run⟩
structure QA (X:Cx) (es:List Expr) (t:fF):Prop where
 of ::
 run:∀(B:Base) (σ:St) (F H:Hp) (env:En) (Q:List D→Prop),Rep X.K B F H σ env→t env Q→wA X es σ H (RA X B σ env F Q)
instance {X:Cx} {es:List Expr} {t:fF}:CoeFun (QA X es t) (fun _=>∀(B:Base) (σ:St) (F H:Hp) (env:En) (Q:List D→Prop),Rep X.K B F H σ env→t env Q→wA X es σ H (RA X B σ env F Q)):=⟨QA.run⟩
structure QS (X:Cx) (st:Stmt) (t:bH):Prop where
 of ::
 run:∀(B:Base) (σ:St) (F H:Hp) (env:En) (D:Ends3),Rep X.K B F H σ env→t D env→wS X st (RS X B D) σ H
instance {X:Cx} {st:Stmt} {t:bH}:CoeFun (QS X st t) (fun _=>∀(B:Base) (σ:St) (F H:Hp) (env:En) (D:Ends3),Rep X.K B F H σ env→t D env→wS X st (RS X B D) σ H):=⟨QS.run⟩
structure nS (X:Cx) (st:List Stmt) (t:bH):Prop where
 of ::
 run:∀(B:Base) (σ:St) (F H:Hp) (env:En) (D:Ends3),Rep X.K B F H σ env→t D env→wSs X st (RS X B D) σ H
instance {X:Cx} {st:List Stmt} {t:bH}:CoeFun (nS X st t) (fun _=>∀(B:Base) (σ:St) (F H:Hp) (env:En) (D:Ends3),Rep X.K B F H σ env→t D env→wSs X st (RS X B D) σ H):=⟨nS.run⟩
section
variable {X:Cx} {a b c e:Expr} {es:List Expr} {ta tb tc:TD} {tA tB':TB} {ts:fF} {pos:Pos} {rest:List Expr}
def ag (i:Nat):TD:=fun env Q=>∃x,env[i]?=some (some (.d x))∧Q x
def cC (x:D):TD:=fun _ Q=>Q x
theorem qv (i:Nat) {x:Str} {pos:Pos} (hN:X.N[i]?=some x:=by rfl) (hv:rf X.env.scope x:=by first | exact Or.inl rfl | exact Or.inr (Or.inl rfl) | exact Or.inr (Or.inr rfl)) (hd:(x == ("__debug__" : Str))=false:=by decide)
  (hcd:(x == ("__classdict__" : Str))=false:=by decide):QE X (.Name x pos) (ag i):=by
 refine⟨?_⟩
 intro B σ F H env Q r ⟨x,hx,q⟩
 obtain⟨v,hv',hd'⟩:=r.dv i x hx
 exact bY (cL hN hv hd hcd) ⟨v,hv',F,x,r,ar.refl _,hd',q⟩
theorem qc {te:TE} {v:V} {x:D} (h:PE X e (tC v)) (hd:∀F,Den X.K F x v):QE X e (cC x):=⟨fun B σ F H env Q r q=>bY h ⟨F,x,r,ar.refl _,hd F,q⟩⟩
theorem au {i j pos}:QE X (.Constant (.int i) j pos) (cC (.int i)):=qc (te:=tC (.int i)) GW fun _=>bC
theorem Jf {b j pos}:QE X (.Constant (.bool b) j pos) (cC (.bl b)):=qc (te:=tC (.bl b)) Ht fun _=>hG
theorem xg {j pos}:QE X (.Constant .none j pos) (cC .non):=qc (te:=tC .non) G7 fun _=>jR
theorem cG {x j pos}:QE X (.Constant (.str x) j pos) (cC (.str x)):=qc (te:=tC (.str x)) FH fun _=>gG
theorem Kw {x:Str} {n:String} {pos:Pos} (hg:Gl X x) (hm:X.mg x=none) (hv:bootBuiltins x=some (.type n)) (hn:x≠"__name__":=by decide) (hd:(x == ("__debug__" : Str))=false:=by decide):QE X (.Name x pos) (cC (.ty n)) :=
 qc (te:=tC (.ty n)) (Dp (v:=.ty n) hg hm hv rfl hn hd) fun _=>GN
def Kont (X:Cx) (B:Base) (σ:St) (env:En) (F:Hp) (Q:D→Prop) (Z:VK):Prop:=∀(v:V) (H' F':Hp) (d:D),Rep X.K B F' H' σ env→ar F F'→Den X.K F' d v→Q d→Z v H'
def u7 (X:Cx) (r:R2) (f:D→D→(D→Prop)→Prop):Prop:=∀(B:Base) (σ:St) (F H:Hp) (env:En) (Q:D→Prop) (d d':D) (x y:V) (Z:VK),Rep X.K B F H σ env→Den X.K F d x→Den X.K F d' y→Kont X B σ env F Q Z→f d d' Q→r x y H Z
def aC (f:D→D→(D→Prop)→Prop) (ta tb:TD):TD:=fun env Q=>ta env fun x=>tb env fun y=>f x y Q
theorem RV.weaken {B:Base} {σ:St} {env:En} {F F':Hp} {Q:D→Prop} (s:ar F F') {v:V} {H:Hp} (h:RV X B σ env F' Q v H):RV X B σ env F Q v H:=by
 obtain⟨G,d,r,s',hd,q⟩:=h
 exact⟨G,d,r,s.trans s',hd,q⟩
theorem two {r:R2} {f:D→D→(D→Prop)→Prop} (hf:u7 X r f) (ha:QE X a ta) (hb:QE X b tb) {B:Base} {σ:St} {F H:Hp} {env:En} {Q:D→Prop} {Z:VK} (rp:Rep X.K B F H σ env) (hz:Kont X B σ env F Q Z) (h:aC f ta tb env Q) :
  Gi r (wE X a) (wE X b) σ H Z:=by
 refine aL (ha B σ F H env _ rp h) fun x H1 hq0=>?_
 obtain⟨F1,d,r1,s1,d1,q1⟩:=hq0
 refine aL (hb B σ F1 H1 env _ r1 q1) fun y H2 hq0=>?_
 obtain⟨F2,d',r2,s2,d2,q2⟩:=hq0
 exact hf B σ F2 H2 env Q d d' x y Z r2 (Den.mono s2 _ _ d1) d2 (fun v H' F' d' r' s'=>hz v H' F' d' r' ((s1.trans s2).trans s')) q2
theorem J3 {B:Base} {σ:St} {env:En} {F:Hp} {Q:D→Prop}:Kont X B σ env F Q (RV X B σ env F Q):=fun v H' F' d r s hd q=>⟨F',d,r,s,hd,q⟩
theorem xo {op:Operator} {r:R2} {f:D→D→(D→Prop)→Prop} (ho:iX X (binaryOp op) r) (hf:u7 X r f) (ha:QE X a ta) (hb:QE X b tb):QE X (.BinOp a op b pos) (aC f ta tb) :=
 ⟨fun B σ F H env Q rp h=>bY (vF ho bR bR) (two hf ha hb rp J3 h)⟩
theorem yI {op:CmpOp} {r:R2} {f:D→D→(D→Prop)→Prop} (ho:iX X (compareOp op) r) (hf:u7 X r f) (ha:QE X a ta) (hb:QE X b tb) (hm:behindInMarks op b=false):QE X (.Compare a [op] [b] pos) (aC f ta tb) :=
 ⟨fun B σ F H env Q rp h=>bY (DV ho bR bR hm) (two hf ha hb rp J3 h)⟩
def aK (t:TD):TB:=fun env Q=>t env fun x=>∃k,x=.bl k∧Q k
theorem qo {K:PySem.W.Frag} {F:Hp} {k:Bool} {v:V} (h:Den K F (.bl k) v):v=.bl k:=by simpa only [Den] using h
theorem gc {op:CmpOp} {r:R2} {f:D→D→(D→Prop)→Prop} (ho:iX X (compareOp op) r) (hf:u7 X r f) (ha:QE X a ta) (hb:QE X b tb) (hm:behindInMarks op b=false):QT X (.Compare a [op] [b] pos) (aK (aC f ta tb)):=by
 refine⟨?_⟩
 intro B σ F H env Q rp h
 refine rR (oK ho bR bR hm) ?_
 show Gi r (wE X a) (wE X b) σ H fun x H'=>∃k,x=.bl k∧RB X B σ env F Q k H'
 refine two hf ha hb rp (fun v H' F' d r' s' hd q=>?_) h
 obtain⟨k,rfl,q⟩:=q
 exact⟨k,qo hd,F',r',s',q⟩
theorem GK {t:TD} (h:QE X e t) (he:∀whole,isTrue e X.env whole=(do let v ← whole;standAt e.pos;holding [v] (truthy v)):=by intro _;rfl):QT X e (aK t):=by
 refine⟨?_⟩
 intro B σ F H env Q rp hq
 refine rR (Gu bR he) ?_
 refine aL (h B σ F H env _ rp hq) fun v H' w=>?_
 obtain⟨F',d,r',s',hd,k,rfl,q⟩:=w
 exact⟨k,qo hd,F',r',s',q⟩
def kc (t u:TB):TB:=fun env Q=>t env fun k=>if k=true then u env Q else Q false
def zw (t u:TB):TB:=fun env Q=>t env fun k=>if k=true then Q true else u env Q
def vf (t:TB):TB:=fun env Q=>t env fun k=>Q (!k)
theorem QW.t (h:QW X e tA):QT X e tA:=⟨fun B σ F H env Q rp hq pins s I=>h B σ F H env Q rp hq _ pins s I⟩
theorem fP (ha:QT X a tA):QW X (.BoolOp .And [a] pos) tA:=⟨fun B σ F H env Q rp h=>yv (CQ qq) (ha B σ F H env Q rp h)⟩
theorem m8 (ha:QT X a tA):QW X (.BoolOp .Or [a] pos) tA:=⟨fun B σ F H env Q rp h=>yv (G0 qq) (ha B σ F H env Q rp h)⟩
theorem iG (ha:QT X a tA) (hb:QW X (.BoolOp .And (b :: rest) pos) tB'):QW X (.BoolOp .And (a :: b :: rest) pos) (kc tA tB'):=by
 refine⟨?_⟩
 intro B σ F H env Q rp h
 refine yv (ER qq ID) ?_
 refine gJ (ha B σ F H env _ rp h) fun k H1 ⟨F1,r1,s1,q1⟩=>?_
 cases k with
 | true=>exact x3 (hb B σ F1 H1 env Q r1 q1) fun k2 H2 ⟨F2,r2,s2,q2⟩=>⟨F2,r2,s1.trans s2,q2⟩
 | false=>exact⟨F1,r1,s1,q1⟩
theorem rA (ha:QT X a tA) (hb:QW X (.BoolOp .Or (b :: rest) pos) tB'):QW X (.BoolOp .Or (a :: b :: rest) pos) (zw tA tB'):=by
 refine⟨?_⟩
 intro B σ F H env Q rp h
 refine yv (IW qq ID) ?_
 refine gJ (ha B σ F H env _ rp h) fun k H1 ⟨F1,r1,s1,q1⟩=>?_
 cases k with
 | false=>exact x3 (hb B σ F1 H1 env Q r1 q1) fun k2 H2 ⟨F2,r2,s2,q2⟩=>⟨F2,r2,s1.trans s2,q2⟩
 | true=>exact⟨F1,r1,s1,q1⟩
theorem FG (ha:QT X a tA):QT X (.UnaryOp .Not a pos) (vf tA):=⟨fun B σ F H env Q rp h=>rR (EW qq) (gJ (ha B σ F H env _ rp h) fun k H1 q=>q)⟩
def ED (t:TB) (ta tb:TD):TD:=fun env Q=>t env fun k=>if k=true then ta env Q else tb env Q
theorem Iq (hc:QT X c tA) (ha:QE X a ta) (hb:QE X b tb):QE X (.IfExp c a b pos) (ED tA ta tb):=by
 refine⟨?_⟩
 intro B σ F H env Q rp h
 refine bY (Ae qq bR bR) ?_
 refine gJ (hc B σ F H env _ rp h) fun k H1 ⟨F1,r1,s1,q1⟩=>?_
 cases k with
 | true=>exact aL (ha B σ F1 H1 env Q r1 q1) fun v H2 z=>z.weaken s1
 | false=>exact aL (hb B σ F1 H1 env Q r1 q1) fun v H2 z=>z.weaken s1
def av:fF:=fun _ Q=>Q []
def af (ta:TD) (tr:fF):fF:=fun env Q=>ta env fun x=>tr env fun xs=>Q (x :: xs)
theorem aj:QA X [] av:=⟨fun B σ F H env Q rp h=>Ek gU ⟨F,[],rp,ar.refl _,aW,h⟩⟩
theorem ae (ha:QE X e ta) (hr:QA X es ts) (hs:starEach (e :: es) X.env=(false,eval e X.env) :: starEach es X.env:=by exact a6 rfl):QA X (e :: es) (af ta ts):=by
 refine⟨?_⟩
 intro B σ F H env Q rp h
 refine Ek (fT bR i9 hs) ?_
 refine aL (ha B σ F H env _ rp h) fun x H1 hq0=>?_
 obtain⟨F1,d,r1,s1,d1,q1⟩:=hq0
 exact ck (hr B σ F1 H1 env _ r1 q1) fun xs H2 ⟨F2,ds,r2,s2,d2,q2⟩=>⟨F2,d :: ds,r2,s1.trans s2,aX (Den.mono s2 _ _ d1) d2,q2⟩
def bD (t:fF):TD:=fun env Q=>t env fun xs=>xs.length≤sizeLine∧Q (.tup xs)
def eY (t:fF):TD:=fun env Q=>t env fun xs=>xs.length≤sizeLine∧Q (.lst xs)
theorem RV.BU {B:Base} {σ:St} {env:En} {F H:Hp} {Q:D→Prop} {ds:List D} {vs:List V} (r:Rep X.K B F H σ env) (hd:aq X.K F ds vs) (q:Q (.tup ds)):∀p,H p=none→RV X B σ env F Q (.ref p) (upd H p (.tup vs)):=fun p hp=>by
 obtain⟨r2,s2⟩:=r.laid (o:=.tup vs) hp
 exact⟨_,_,r2,s2,fN (iZ.of aI) (aq.mono s2 _ _ hd),q⟩
theorem RV.Ab {B:Base} {σ:St} {env:En} {F H:Hp} {Q:D→Prop} {ds:List D} {vs:List V} (r:Rep X.K B F H σ env) (hd:aq X.K F ds vs) (q:Q (.lst ds)):∀p,H p=none→RV X B σ env F Q (.ref p) (upd H p (.lst vs)):=fun p hp=>by
 obtain⟨r2,s2⟩:=r.laid (o:=.lst vs) hp
 exact⟨_,_,r2,s2,fe (d9.of aI) (aq.mono s2 _ _ hd),q⟩
theorem aP {x1} (h:QA X es ts):QE X (.Tuple es x1 pos) (bD ts):=by
 refine⟨?_⟩
 intro B σ F H env Q rp hq
 refine bY (FW i9) ?_
 refine ck (h B σ F H env _ rp hq) fun vs H1 ⟨F1,ds,r1,s1,d1,z,q1⟩=>⟨by rw [← d1.length];exact z,fun p hp=>(RV.BU r1 d1 q1 p hp).weaken s1⟩
theorem cy (h:QA X es ts):QE X (.List es pos) (eY ts):=by
 refine⟨?_⟩
 intro B σ F H env Q rp hq
 refine bY (sv i9) ?_
 refine ck (h B σ F H env _ rp hq) fun vs H1 ⟨F1,ds,r1,s1,d1,z,q1⟩=>⟨by rw [← d1.length];exact z,fun p hp=>(RV.Ab r1 d1 q1 p hp).weaken s1⟩
end
end L2.L3
namespace L2.L3
open PySem PySem.Spec PyProof.Rows
mutual
def a5:D→D→Bool
 | .non,.non=>true
 | .bl a,.bl b=>a == b
 | .bl a,.int b=>(if a then 1 else 0) == b
 | .int a,.bl b=>a == (if b then 1 else 0)
 | .int a,.int b=>a == b
 | .str a,.str b=>a == b
 | .tup a,.tup b=>eN a b
 | .lst a,.lst b=>eN a b
 | _,_=>false
def eN:List D→List D→Bool
 | [],[]=>true
 | a :: as,b :: bs=>a5 a b && eN as bs
 | _,_=>false
end
mutual
def dep:D→Nat
 | .tup ds=>bE ds + 1
 | .lst ds=>bE ds + 1
 | .dct _ _=>1000
 | .obj _=>1000
 | .ty _=>1000
 | .exc _=>1000
 | .cls _=>1000
 | _=>0
def bE:List D→Nat
 | []=>0
 | d :: ds=>max (dep d) (bE ds)
end
def vN (ds es:List D) (j:Nat):Bool:=match ds[j]?,es[j]? with
 | some a,some b=>a5 a b
 | _,_=>true
theorem p6 (n:Nat) (e:Nat→Bool):(List.range (n + 1)).all e=(e 0 && (List.range n).all fun i=>e (i + 1)):=by
 rw [List.range_succ_eq_map,List.all_cons,List.all_map];rfl
theorem sN:∀ds es:List D,((List.range (min ds.length es.length)).all (vN ds es) && (ds.length == es.length))=eN ds es
 | [],[]=>by simp [eN]
 | [],b :: es=>by simp [eN]
 | a :: ds,[]=>by simp [eN]
 | a :: ds,b :: es=>by
  have ih:=sN ds es
  rw [List.length_cons,List.length_cons,Nat.succ_min_succ,p6]
  have e1:vN (a :: ds) (b :: es) 0=a5 a b:=by simp [vN]
  have e2:(fun i=>vN (a :: ds) (b :: es) (i + 1))=vN ds es:=by funext i;simp [vN]
  have e3:(ds.length + 1 == es.length + 1)=(ds.length == es.length):=by
   rw [Bool.eq_iff_iff];simp
  rw [e1,e2,e3,Bool.and_assoc,ih,eN]
section
variable {X:Cx} {pins:List (Addr×Obj)} {σ:St} {H F:Hp} {s:Shared}
theorem Inv.uu (I:Inv X pins σ H s) {a:Addr} {xs ys:List V} (h:iZ X.K H a xs) (h':d9 X.K H a ys):False:=by
 obtain⟨_,_,⟨o,e1,c1,_⟩,_⟩:=I.tuple h
 obtain⟨_,_,⟨o2,_,e2,c2,_⟩,_⟩:=I.list h'
 rw [e1] at e2;cases e2;rw [c1] at c2;injection c2 with z;exact absurd z (by decide)
mutual
theorem oE (I:Inv X pins σ H s) (fh:ar F H):∀(d d':D) (v:V),dep d < 1000→dep d' < 1000→Den X.K F d v→Den X.K F d' v→a5 d d'=true
 | .non,d',v,h1,h2,e1,e2=>by
  simp only [Den] at e1;subst e1
  cases d' <;> simp only [Den] at e2 <;> first | rfl | (obtain⟨a,vs,z,_⟩:=e2;cases z;done) | (obtain⟨a,z,_⟩:=e2;cases z;done) | cases e2
 | .bl b,d',v,h1,h2,e1,e2=>by
  simp only [Den] at e1;subst e1
  cases d' <;> simp only [Den] at e2 <;> first | (obtain⟨a,vs,z,_⟩:=e2;cases z;done) | (obtain⟨a,z,_⟩:=e2;cases z;done) | (cases e2;simp [a5];done) | cases e2
 | .int b,d',v,h1,h2,e1,e2=>by
  simp only [Den] at e1;subst e1
  cases d' <;> simp only [Den] at e2 <;> first | (obtain⟨a,vs,z,_⟩:=e2;cases z;done) | (obtain⟨a,z,_⟩:=e2;cases z;done) | (cases e2;simp [a5];done) | cases e2
 | .str b,d',v,h1,h2,e1,e2=>by
  simp only [Den] at e1;subst e1
  cases d' <;> simp only [Den] at e2 <;> first | (obtain⟨a,vs,z,_⟩:=e2;cases z;done) | (obtain⟨a,z,_⟩:=e2;cases z;done) | (cases e2;simp [a5];done) | cases e2
 | .ty b,d',v,h1,h2,e1,e2=>by simp [dep] at h1
 | .exc b,d',v,h1,h2,e1,e2=>by simp [dep] at h1
 | .cls b,d',v,h1,h2,e1,e2=>by simp [dep] at h1
 | .dct _ _,d',v,h1,h2,e1,e2=>by simp [dep] at h1
 | .obj _,d',v,h1,h2,e1,e2=>by simp [dep] at h1
 | .tup ds,d',v,h1,h2,e1,e2=>by
  simp only [Den] at e1
  obtain⟨a,vs,rfl,q,r⟩:=e1
  cases d' with
  | tup es =>
   simp only [Den] at e2
   obtain⟨a',us,z,q',r'⟩:=e2
   cases z
   have:=I.mz (ar.cn fh q) (ar.cn fh q')
   subst this
   simp only [a5]
   exact pj I fh ds es vs (by simp [dep] at h1;omega) (by simp [dep] at h2;omega) r r'
  | lst es =>
   simp only [Den] at e2
   obtain⟨a',us,z,q',r'⟩:=e2
   cases z
   exact (Inv.uu I (ar.cn fh q) (fh.seq q')).elim
  | dct _ _=>simp [dep] at h2
  | obj _=>simp [dep] at h2
  | exc _=>simp [dep] at h2
  | cls _=>simp [dep] at h2
  | _=>simp only [Den] at e2;cases e2
 | .lst ds,d',v,h1,h2,e1,e2=>by
  simp only [Den] at e1
  obtain⟨a,vs,rfl,q,r⟩:=e1
  cases d' with
  | lst es =>
   simp only [Den] at e2
   obtain⟨a',us,z,q',r'⟩:=e2
   cases z
   have:=I.oY (fh.seq q) (fh.seq q')
   subst this
   simp only [a5]
   exact pj I fh ds es vs (by simp [dep] at h1;omega) (by simp [dep] at h2;omega) r r'
  | tup es =>
   simp only [Den] at e2
   obtain⟨a',us,z,q',r'⟩:=e2
   cases z
   exact (Inv.uu I (ar.cn fh q') (fh.seq q)).elim
  | dct _ _=>simp [dep] at h2
  | obj _=>simp [dep] at h2
  | exc _=>simp [dep] at h2
  | cls _=>simp [dep] at h2
  | _=>simp only [Den] at e2;cases e2
theorem pj (I:Inv X pins σ H s) (fh:ar F H):∀(ds es:List D) (vs:List V),bE ds < 1000→bE es < 1000→aq X.K F ds vs→aq X.K F es vs→eN ds es=true
 | [],es,vs,h1,h2,e1,e2=>by
  simp only [aq] at e1;subst e1
  cases es with
  | nil=>rfl
  | cons _ _=>simp only [aq] at e2;obtain⟨_,_,z,_⟩:=e2;cases z
 | d :: ds,es,vs,h1,h2,e1,e2=>by
  simp only [aq] at e1
  obtain⟨v,r,rfl,a,b⟩:=e1
  cases es with
  | nil=>simp only [aq] at e2;cases e2
  | cons e es =>
   simp only [aq] at e2
   obtain⟨v',r',z,a',b'⟩:=e2
   cases z
   simp only [bE] at h1 h2
   simp only [eN,Bool.and_eq_true]
   exact⟨oE I fh d e v (by omega) (by omega) a a',pj I fh ds es r (by omega) (by omega) b b'⟩
end
theorem units_in1 (A:Around):A.in1.units=A.units + 1:=rfl
def HN:D→Bool
 | .non=>true
 | .bl _=>true
 | .int _=>true
 | .str _=>true
 | _=>false
theorem sa (I:Inv X pins σ H s) (fh:ar F H):∀(d d':D) (A:Around) (x y:V) (u v:Value),HN d=true→A.units + dep d < cLine→dep d' < 1000→Den X.K F d x→Den X.K F d' y→RelV x u→RelV y v →
  SeqAt.RcAt A s u v (a5 d d')∧SeqAt.RcNeAt A s u v (!a5 d d')
 | .non,d',A,x,y,u,v,lf,hu,h2,e1,e2,r1,r2=>by
  simp only [Den] at e1;subst e1;cases r1
  have hu0:A.units < cLine:=by omega
  cases d' with
  | ty _=>simp [dep] at h2
  | dct _ _=>simp [dep] at h2
  | obj _=>simp [dep] at h2
  | exc _=>simp [dep] at h2
  | cls _=>simp [dep] at h2
  | non=>simp only [Den] at e2;subst e2;cases r2;exact⟨SeqAt.RcAt.none_none,SeqAt.RcNeAt.none_none⟩
  | bl b=>simp only [Den] at e2;subst e2;cases r2;exact⟨SeqAt.RcAt.none_bool b,SeqAt.RcNeAt.none_bool b⟩
  | int b=>simp only [Den] at e2;subst e2;obtain⟨t,rfl⟩:=r2;exact⟨SeqAt.RcAt.none_int b t,SeqAt.RcNeAt.none_int b t⟩
  | str b=>simp only [Den] at e2;subst e2;obtain⟨t,rfl⟩:=r2;exact⟨SeqAt.RcAt.none_str b t,SeqAt.RcNeAt.none_str b t⟩
  | tup es =>
   simp only [Den] at e2;obtain⟨a,vs,rfl,q,r⟩:=e2;cases r2
   obtain⟨its,rv,ht,hz⟩:=I.tuple (ar.cn fh q)
   exact⟨SeqAt.RcAt.none_tuple ht hu0,SeqAt.RcNeAt.none_tuple ht hu0⟩
  | lst es =>
   simp only [Den] at e2;obtain⟨a,vs,rfl,q,r⟩:=e2;cases r2
   obtain⟨its,rv,ht,hz⟩:=I.list (fh.seq q)
   exact⟨SeqAt.RcAt.none_list ht.isList hu0,SeqAt.RcNeAt.none_list ht.isList hu0⟩
 | .bl b',d',A,x,y,u,v,lf,hu,h2,e1,e2,r1,r2=>by
  simp only [Den] at e1;subst e1;cases r1
  have hu0:A.units < cLine:=by omega
  cases d' with
  | ty _=>simp [dep] at h2
  | dct _ _=>simp [dep] at h2
  | obj _=>simp [dep] at h2
  | exc _=>simp [dep] at h2
  | cls _=>simp [dep] at h2
  | non=>simp only [Den] at e2;subst e2;cases r2;exact⟨SeqAt.RcAt.bool_none b',SeqAt.RcNeAt.bool_none b'⟩
  | bl b=>simp only [Den] at e2;subst e2;cases r2;exact⟨by simpa only [a5] using SeqAt.RcAt.bool_bool b' b,by simpa only [a5] using SeqAt.RcNeAt.bool_bool b' b⟩
  | int b=>simp only [Den] at e2;subst e2;obtain⟨t,rfl⟩:=r2;exact⟨by simpa only [a5] using SeqAt.RcAt.bool_int b' b t,by simpa only [a5] using SeqAt.RcNeAt.bool_int b' b t⟩
  | str b=>simp only [Den] at e2;subst e2;obtain⟨t,rfl⟩:=r2;exact⟨SeqAt.RcAt.bool_str b' b t,SeqAt.RcNeAt.bool_str b' b t⟩
  | tup es =>
   simp only [Den] at e2;obtain⟨a,vs,rfl,q,r⟩:=e2;cases r2
   obtain⟨its,rv,ht,hz⟩:=I.tuple (ar.cn fh q)
   exact⟨SeqAt.RcAt.bool_tuple b' ht hu0,SeqAt.RcNeAt.bool_tuple b' ht hu0⟩
  | lst es =>
   simp only [Den] at e2;obtain⟨a,vs,rfl,q,r⟩:=e2;cases r2
   obtain⟨its,rv,ht,hz⟩:=I.list (fh.seq q)
   exact⟨SeqAt.RcAt.bool_list b' ht.isList hu0,SeqAt.RcNeAt.bool_list b' ht.isList hu0⟩
 | .int b',d',A,x,y,u,v,lf,hu,h2,e1,e2,r1,r2=>by
  simp only [Den] at e1;subst e1;obtain⟨t',rfl⟩:=r1
  have hu0:A.units < cLine:=by omega
  cases d' with
  | ty _=>simp [dep] at h2
  | dct _ _=>simp [dep] at h2
  | obj _=>simp [dep] at h2
  | exc _=>simp [dep] at h2
  | cls _=>simp [dep] at h2
  | non=>simp only [Den] at e2;subst e2;cases r2;exact⟨SeqAt.RcAt.int_none b' t',SeqAt.RcNeAt.int_none b' t'⟩
  | bl b=>simp only [Den] at e2;subst e2;cases r2;exact⟨by simpa only [a5] using SeqAt.RcAt.int_bool b' t' b,by simpa only [a5] using SeqAt.RcNeAt.int_bool b' t' b⟩
  | int b=>simp only [Den] at e2;subst e2;obtain⟨t,rfl⟩:=r2;exact⟨by simpa only [a5] using SeqAt.RcAt.int_int b' t' b t,by simpa only [a5] using SeqAt.RcNeAt.int_int b' t' b t⟩
  | str b=>simp only [Den] at e2;subst e2;obtain⟨t,rfl⟩:=r2;exact⟨SeqAt.RcAt.int_str b' t' b t,SeqAt.RcNeAt.int_str b' t' b t⟩
  | tup es =>
   simp only [Den] at e2;obtain⟨a,vs,rfl,q,r⟩:=e2;cases r2
   obtain⟨its,rv,ht,hz⟩:=I.tuple (ar.cn fh q)
   exact⟨SeqAt.RcAt.int_tuple b' t' ht hu0,SeqAt.RcNeAt.int_tuple b' t' ht hu0⟩
  | lst es =>
   simp only [Den] at e2;obtain⟨a,vs,rfl,q,r⟩:=e2;cases r2
   obtain⟨its,rv,ht,hz⟩:=I.list (fh.seq q)
   exact⟨SeqAt.RcAt.int_list b' t' ht.isList hu0,SeqAt.RcNeAt.int_list b' t' ht.isList hu0⟩
 | .str b',d',A,x,y,u,v,lf,hu,h2,e1,e2,r1,r2=>by
  simp only [Den] at e1;subst e1;obtain⟨t',rfl⟩:=r1
  have hu0:A.units < cLine:=by omega
  cases d' with
  | ty _=>simp [dep] at h2
  | dct _ _=>simp [dep] at h2
  | obj _=>simp [dep] at h2
  | exc _=>simp [dep] at h2
  | cls _=>simp [dep] at h2
  | non=>simp only [Den] at e2;subst e2;cases r2;exact⟨SeqAt.RcAt.str_none b' t',SeqAt.RcNeAt.str_none b' t'⟩
  | bl b=>simp only [Den] at e2;subst e2;cases r2;exact⟨SeqAt.RcAt.str_bool b' t' b,SeqAt.RcNeAt.str_bool b' t' b⟩
  | int b=>simp only [Den] at e2;subst e2;obtain⟨t,rfl⟩:=r2;exact⟨SeqAt.RcAt.str_int b' t' b t,SeqAt.RcNeAt.str_int b' t' b t⟩
  | str b=>simp only [Den] at e2;subst e2;obtain⟨t,rfl⟩:=r2;exact⟨by simpa only [a5] using SeqAt.RcAt.str_str b' t' b t,by simpa only [a5] using SeqAt.RcNeAt.str_str b' t' b t⟩
  | tup es =>
   simp only [Den] at e2;obtain⟨a,vs,rfl,q,r⟩:=e2;cases r2
   obtain⟨its,rv,ht,hz⟩:=I.tuple (ar.cn fh q)
   exact⟨SeqAt.RcAt.str_tuple b' t' ht hu0,SeqAt.RcNeAt.str_tuple b' t' ht hu0⟩
  | lst es =>
   simp only [Den] at e2;obtain⟨a,vs,rfl,q,r⟩:=e2;cases r2
   obtain⟨its,rv,ht,hz⟩:=I.list (fh.seq q)
   exact⟨SeqAt.RcAt.str_list b' t' ht.isList hu0,SeqAt.RcNeAt.str_list b' t' ht.isList hu0⟩
 | .ty _,d',A,x,y,u,v,lf,hu,h2,e1,e2,r1,r2=>(by cases lf)
 | .exc _,d',A,x,y,u,v,lf,hu,h2,e1,e2,r1,r2=>(by cases lf)
 | .cls _,d',A,x,y,u,v,lf,hu,h2,e1,e2,r1,r2=>(by cases lf)
 | .dct _ _,d',A,x,y,u,v,lf,hu,h2,e1,e2,r1,r2=>(by cases lf)
 | .obj _,d',A,x,y,u,v,lf,hu,h2,e1,e2,r1,r2=>(by cases lf)
 | .tup _,d',A,x,y,u,v,lf,hu,h2,e1,e2,r1,r2=>(by cases lf)
 | .lst _,d',A,x,y,u,v,lf,hu,h2,e1,e2,r1,r2=>(by cases lf)
theorem yX (I:Inv X pins σ H s) (fh:ar F H) (d d':D) (A:Around) (x y:V) (u v:Value) (hu:A.units + dep d < cLine) (h1:dep d < 1000) (h2:dep d' < 1000) (e1:Den X.K F d x) (e2:Den X.K F d' y) (r1:RelV x u) (r2:RelV y v) (k:SeqAt.RcAt A s u v (a5 d d')) :
  SeqAt.EqAt A s u v (a5 d d'):=by
 have hu0:A.units < cLine:=by omega
 by_cases z:u=v
 ·subst z
  have:x=y:=r1.inj r2
  subst this
  rw [oE I fh d d' x h1 h2 e1 e2]
  exact SeqAt.EqAt.same u
 ·intro prog w E Q hq
  unfold eqBool
  refine wpAny_holding ?_
  refine wpAny_ite_split (fun hab=>absurd (eq_of_beq hab) z) (fun _=>?_)
  have nf:∀b t,u≠.float b t:=fun b t w=>by
   subst w
   cases x <;> first | (obtain⟨_,q⟩:=r1;cases q;done) | (cases r1;done) | skip
   cases d <;> simp only [Den] at e1 <;> first | (cases e1;done) | (obtain⟨_,_,z,_⟩:=e1;cases z;done) | (obtain⟨_,z,_⟩:=e1;cases z;done)
  cases u <;> cases v <;> first | exact absurd rfl (nf _ _) | exact KJ (k prog w E _ (wpAny_truthy_bool hq))
theorem Eg (I:Inv X pins σ H s) (fh:ar F H) (ds0:List D) (d d':D) (A:Around) (x y:V) (u v:Value) (hl:d=.tup ds0∨d=.lst ds0) (hu:A.units + dep d < cLine) (h1:dep d < 1000) (h2:dep d' < 1000) (e1:Den X.K F d x) (e2:Den X.K F d' y) (r1:RelV x u) (r2:RelV y v)
  (rec:∀(es:List D),(d'=.tup es∨d'=.lst es)→∀(vs1 vs:List V) (its1 its:List Value),aq X.K F ds0 vs1→aq X.K F es vs→Vals vs1 its1→Vals vs its→∀(j:Nat) (h1:j < its1.length) (h2:j < its.length),SeqAt.EqAt A.in1 s its1[j] its[j] (vN ds0 es j)) :
  SeqAt.RcAt A s u v (a5 d d')∧SeqAt.RcNeAt A s u v (!a5 d d'):=by
 cases d with
 | non=>rcases hl with hl | hl <;> cases hl
 | bl _=>rcases hl with hl | hl <;> cases hl
 | int _=>rcases hl with hl | hl <;> cases hl
 | str _=>rcases hl with hl | hl <;> cases hl
 | ty _=>simp [dep] at h1
 | exc _=>simp [dep] at h1
 | cls _=>simp [dep] at h1
 | dct _ _=>simp [dep] at h1
 | obj _=>simp [dep] at h1
 | tup ds =>
  have z:ds=ds0:=by rcases hl with hl | hl <;> cases hl <;> rfl
  subst z
  simp only [Den] at e1;obtain⟨a1,vs1,rfl,q1,g1⟩:=e1;cases r1
  obtain⟨its1,rv1,ht1,hz1⟩:=I.tuple (ar.cn fh q1)
  simp only [dep] at hu h1
  have hu0:A.units < cLine:=by omega
  cases d' with
  | ty _=>simp [dep] at h2
  | dct _ _=>simp [dep] at h2
  | obj _=>simp [dep] at h2
  | exc _=>simp [dep] at h2
  | cls _=>simp [dep] at h2
  | non=>simp only [Den] at e2;subst e2;cases r2;exact⟨SeqAt.RcAt.tuple_none ht1 hu0,SeqAt.RcNeAt.tuple_none ht1 hu0⟩
  | bl b=>simp only [Den] at e2;subst e2;cases r2;exact⟨SeqAt.RcAt.tuple_bool b ht1 hu0,SeqAt.RcNeAt.tuple_bool b ht1 hu0⟩
  | int b=>simp only [Den] at e2;subst e2;obtain⟨t,rfl⟩:=r2;exact⟨SeqAt.RcAt.tuple_int b t ht1 hu0,SeqAt.RcNeAt.tuple_int b t ht1 hu0⟩
  | str b=>simp only [Den] at e2;subst e2;obtain⟨t,rfl⟩:=r2;exact⟨SeqAt.RcAt.tuple_str b t ht1 hu0,SeqAt.RcNeAt.tuple_str b t ht1 hu0⟩
  | lst es =>
   simp only [Den] at e2;obtain⟨a,vs,rfl,q,r⟩:=e2;cases r2
   obtain⟨its,rv,ht,hz⟩:=I.list (fh.seq q)
   exact⟨SeqAt.RcAt.tuple_list ht1 ht.isList hu0,SeqAt.RcNeAt.tuple_list ht1 ht.isList hu0⟩
  | tup es =>
   simp only [Den] at e2;obtain⟨a,vs,rfl,q,r⟩:=e2;cases r2
   obtain⟨its,rv,ht,hz⟩:=I.tuple (ar.cn fh q)
   simp only [dep] at h2
   have he:=rec es (.inl rfl) vs1 vs its1 its g1 r rv1 rv
   have l1:its1.length=ds.length:=by rw [g1.length,rv1.length]
   have l2:its.length=es.length:=by rw [r.length,rv.length]
   have k1:=SeqAt.RcAt.tuples (e:=vN ds es) ht1 ht hu0 (fun j h1 h2=>he j (by simpa using h1) (by simpa using h2))
   have k2:=SeqAt.RcNeAt.tuples (e:=vN ds es) ht1 ht hu0 (fun j h1 h2=>he j (by simpa using h1) (by simpa using h2))
   rw [K5,K5,l1,l2,sN] at k1 k2
   exact⟨by simpa only [a5] using k1,by simpa only [a5] using k2⟩
 | lst ds =>
  have z:ds=ds0:=by rcases hl with hl | hl <;> cases hl <;> rfl
  subst z
  simp only [Den] at e1;obtain⟨a1,vs1,rfl,q1,g1⟩:=e1;cases r1
  obtain⟨its1,rv1,ht1,hz1⟩:=I.list (fh.seq q1)
  simp only [dep] at hu h1
  have hu0:A.units < cLine:=by omega
  cases d' with
  | ty _=>simp [dep] at h2
  | dct _ _=>simp [dep] at h2
  | obj _=>simp [dep] at h2
  | exc _=>simp [dep] at h2
  | cls _=>simp [dep] at h2
  | non=>simp only [Den] at e2;subst e2;cases r2;exact⟨SeqAt.RcAt.list_none ht1.isList hu0,SeqAt.RcNeAt.list_none ht1.isList hu0⟩
  | bl b=>simp only [Den] at e2;subst e2;cases r2;exact⟨SeqAt.RcAt.list_bool b ht1.isList hu0,SeqAt.RcNeAt.list_bool b ht1.isList hu0⟩
  | int b=>simp only [Den] at e2;subst e2;obtain⟨t,rfl⟩:=r2;exact⟨SeqAt.RcAt.list_int b t ht1.isList hu0,SeqAt.RcNeAt.list_int b t ht1.isList hu0⟩
  | str b=>simp only [Den] at e2;subst e2;obtain⟨t,rfl⟩:=r2;exact⟨SeqAt.RcAt.list_str b t ht1.isList hu0,SeqAt.RcNeAt.list_str b t ht1.isList hu0⟩
  | tup es =>
   simp only [Den] at e2;obtain⟨a,vs,rfl,q,r⟩:=e2;cases r2
   obtain⟨its,rv,ht,hz⟩:=I.tuple (ar.cn fh q)
   exact⟨SeqAt.RcAt.list_tuple ht1.isList ht hu0,SeqAt.RcNeAt.list_tuple ht1.isList ht hu0⟩
  | lst es =>
   simp only [Den] at e2;obtain⟨a,vs,rfl,q,r⟩:=e2;cases r2
   obtain⟨its,rv,ht,hz⟩:=I.list (fh.seq q)
   simp only [dep] at h2
   have he:=rec es (.inr rfl) vs1 vs its1 its g1 r rv1 rv
   have l1:its1.length=ds.length:=by rw [g1.length,rv1.length]
   have l2:its.length=es.length:=by rw [r.length,rv.length]
   simp only [a5]
   rw [← sN]
   by_cases hsz:ds.length=es.length
   ·have k1:=SeqAt.RcAt.lists (e:=vN ds es) ht1.isList ht.isList (by simp [l1,l2,hsz]) hu0 (fun j h1 h2=>he j (by simpa using h1) (by simpa using h2))
    have k2:=SeqAt.RcNeAt.lists (e:=vN ds es) ht1.isList ht.isList (by simp [l1,l2,hsz]) hu0 (fun j h1 h2=>he j (by simpa using h1) (by simpa using h2))
    rw [K5,l1] at k1 k2
    have e:(ds.length == es.length)=true:=by simp [hsz]
    rw [e,Bool.and_true,← hsz,Nat.min_self]
    exact⟨k1,k2⟩
   ·have e:(ds.length == es.length)=false:=by simp [hsz]
    rw [e,Bool.and_false]
    have e2:(its1.toArray.size != its.toArray.size)=true:=by simp [l1,l2,hsz]
    exact⟨SeqAt.RcAt.lists_lengths ht1.isList ht.isList e2 hu0,SeqAt.RcNeAt.lists_lengths ht1.isList ht.isList e2 hu0⟩
mutual
theorem DE (I:Inv X pins σ H s) (fh:ar F H):∀(d d':D) (A:Around) (x y:V) (u v:Value),A.units + dep d < cLine→dep d < 1000→dep d' < 1000→Den X.K F d x→Den X.K F d' y→RelV x u→RelV y v →
  SeqAt.RcAt A s u v (a5 d d')∧SeqAt.RcNeAt A s u v (!a5 d d')
 | .ty _,d',A,x,y,u,v,hu,h1,h2,e1,e2,r1,r2=>by simp [dep] at h1
 | .exc _,d',A,x,y,u,v,hu,h1,h2,e1,e2,r1,r2=>by simp [dep] at h1
 | .cls _,d',A,x,y,u,v,hu,h1,h2,e1,e2,r1,r2=>by simp [dep] at h1
 | .dct _ _,d',A,x,y,u,v,hu,h1,h2,e1,e2,r1,r2=>by simp [dep] at h1
 | .obj _,d',A,x,y,u,v,hu,h1,h2,e1,e2,r1,r2=>by simp [dep] at h1
 | .non,d',A,x,y,u,v,hu,h1,h2,e1,e2,r1,r2=>sa I fh _ d' A x y u v rfl hu h2 e1 e2 r1 r2
 | .bl _,d',A,x,y,u,v,hu,h1,h2,e1,e2,r1,r2=>sa I fh _ d' A x y u v rfl hu h2 e1 e2 r1 r2
 | .int _,d',A,x,y,u,v,hu,h1,h2,e1,e2,r1,r2=>sa I fh _ d' A x y u v rfl hu h2 e1 e2 r1 r2
 | .str _,d',A,x,y,u,v,hu,h1,h2,e1,e2,r1,r2=>sa I fh _ d' A x y u v rfl hu h2 e1 e2 r1 r2
 | .tup ds,d',A,x,y,u,v,hu,h1,h2,e1,e2,r1,r2=>Eg I fh ds _ d' A x y u v (.inl rfl) hu h1 h2 e1 e2 r1 r2 fun es z2 vs1 vs its1 its g1 r rv1 rv =>
  BQ I fh ds es A.in1 vs1 vs its1 its (by rw [units_in1];simp only [dep] at hu;omega) (by simp only [dep] at h1;omega) (by rcases z2 with rfl | rfl <;> (simp only [dep] at h2;omega)) g1 r rv1 rv
 | .lst ds,d',A,x,y,u,v,hu,h1,h2,e1,e2,r1,r2=>Eg I fh ds _ d' A x y u v (.inr rfl) hu h1 h2 e1 e2 r1 r2 fun es z2 vs1 vs its1 its g1 r rv1 rv =>
  BQ I fh ds es A.in1 vs1 vs its1 its (by rw [units_in1];simp only [dep] at hu;omega) (by simp only [dep] at h1;omega) (by rcases z2 with rfl | rfl <;> (simp only [dep] at h2;omega)) g1 r rv1 rv
theorem BQ (I:Inv X pins σ H s) (fh:ar F H):∀(ds es:List D) (A:Around) (xs ys:List V) (us vs:List Value),A.units + bE ds < cLine→bE ds < 1000→bE es < 1000→aq X.K F ds xs→aq X.K F es ys→Vals xs us→Vals ys vs →
  ∀(j:Nat) (h1:j < us.length) (h2:j < vs.length),SeqAt.EqAt A s us[j] vs[j] (vN ds es j)
 | [],es,A,xs,ys,us,vs,hu,h1,h2,e1,e2,r1,r2,j,hj1,hj2=>by
  simp only [aq] at e1;subst e1;cases r1;simp at hj1
 | d :: ds,es,A,xs,ys,us,vs,hu,h1,h2,e1,e2,r1,r2,j,hj1,hj2=>by
  simp only [aq] at e1
  obtain⟨x,xr,rfl,ax,bx⟩:=e1
  cases r1 with
  | cons rx rrx =>
  cases es with
  | nil=>simp only [aq] at e2;subst e2;cases r2;simp at hj2
  | cons e es =>
   simp only [aq] at e2
   obtain⟨y,yr,rfl,ay,by'⟩:=e2
   cases r2 with
   | cons ry rry =>
   simp only [bE] at hu h1 h2
   cases j with
   | zero =>
    simp only [List.getElem_cons_zero]
    have e0:vN (d :: ds) (e :: es) 0=a5 d e:=by simp [vN]
    rw [e0]
    exact yX I fh d e A x y _ _ (by omega) (by omega) (by omega) ax ay rx ry (DE I fh d e A x y _ _ (by omega) (by omega) (by omega) ax ay rx ry).1
   | succ j =>
    simp only [List.getElem_cons_succ]
    have e0:vN (d :: ds) (e :: es) (j + 1)=vN ds es j:=by simp [vN]
    rw [e0]
    exact BQ I fh ds es A xr yr _ _ (by omega) (by omega) (by omega) bx by' rrx rry j (by simpa using hj1) (by simpa using hj2)
end
theorem oX (I:Inv X pins σ H s) (fh:ar F H) (d d':D) (A:Around) (x y:V) (u v:Value) (hu:A.units + dep d < cLine) (h1:dep d < 1000) (h2:dep d' < 1000) (e1:Den X.K F d x) (e2:Den X.K F d' y) (r1:RelV x u) (r2:RelV y v) :
  SeqAt.EqAt A s u v (a5 d d'):=yX I fh d d' A x y u v hu h1 h2 e1 e2 r1 r2 (DE I fh d d' A x y u v hu h1 h2 e1 e2 r1 r2).1
end
end L2.L3
namespace L2.L3
open PySem PySem.Spec PyProof.Rows
section
variable {X:Cx} {a b c e:Expr} {es:List Expr} {ta tb tc:TD} {tA tB':TB} {ts:fF} {pos:Pos} {rest:List Expr}
def Er (K:PySem.W.Frag):R2:=fun x y H Q=>∃l b xs zs,x=.ref l∧y=.ref b∧d9 K H l xs∧d9 K H b zs∧xs.length + zs.length≤sizeLine∧∀p,H p=none→Q (.ref p) (upd H p (.lst (xs ++ zs)))
theorem yR:iX X (binaryOp .Add) (Er X.K):=by
 intro pins s σ H x y v u Q I rx ry h
 obtain⟨l,b,xs,zs,rfl,rfl,hH,hB,hz,q⟩:=h
 cases rx
 cases ry
 obtain⟨its,r,⟨⟨cls,dd,data,sl⟩,n,ho,hc,hdd,hd⟩,z⟩:=I.list hH
 obtain⟨its2,r2,⟨⟨cls2,dd2,data2,sl2⟩,n2,ho2,hc2,hdd2,hd2⟩,z2⟩:=I.list hB
 simp only at hc hdd hd hc2 hdd2 hd2
 subst hc hdd hd hc2 hdd2 hd2
 have ea:its.toArray ++ its2.toArray=(its ++ its2).toArray:=by simp
 refine concat_meets ⟨_,ho,rfl⟩ ⟨_,ho2,rfl⟩ noFill_list_add seq_list_add PySem.F.slot_list_add PySem.F.entry_list_add (PySem.F.args_list_add_2 _ _)
  (list_addW l b its.toArray its2.toArray n n2 none none sl sl2 (by rw [K5,K5,← r.length,← r2.length];exact hz)) ⟨ho,ho2,?_⟩
 rw [ea]
 exact⟨.ref _,_,I.IP (t':=s.toks) (r.append r2) (by rw [Lh];omega),rfl,q _ I.fresh⟩
def Cs (K:PySem.W.Frag):R2:=fun x y H Q=>∃a b ys,x=.ref a∧y=.ref b∧iZ K H a []∧iZ K H b ys∧Q (.ref b) H
theorem Cf:iX X (binaryOp .Add) (Cs X.K):=by
 intro pins s σ H x y v u Q I rx ry h
 obtain⟨l,b,zs,rfl,rfl,hH,hB,q⟩:=h
 cases rx
 cases ry
 obtain⟨its,r,⟨⟨cls,dd,data,sl⟩,ho,hc,n,hd⟩,z⟩:=I.tuple hH
 obtain⟨its2,r2,⟨⟨cls2,dd2,data2,sl2⟩,ho2,hc2,n2,hd2⟩,z2⟩:=I.tuple hB
 cases r
 simp only at hc hd hc2 hd2
 subst hc hd hc2 hd2
 exact concat_meets ⟨_,ho,rfl⟩ ⟨_,ho2,rfl⟩ noFill_tuple_add seq_tuple_add PySem.F.slot_tuple_add PySem.F.entry_tuple_add (PySem.F.args_tuple_add_2 _ _)
  (tuple_addW0 l b _ _ n n2 dd dd2 sl sl2 (by simp)) ⟨ho,ho2,⟨.ref b,H,I,rfl,q⟩⟩
def bO (x y:D) (Q:D→Prop):Prop:=match x,y with
 | .int i,.int j=>Q (.int (i + j))
 | .str u,.str w=>u.length + w.length≤sizeLine∧Q (.str (u ++ w))
 | .lst u,.lst w=>u.length + w.length≤sizeLine∧Q (.lst (u ++ w))
 | .tup u,.tup w=>u.length + w.length≤sizeLine∧Q (.tup (u ++ w))
 | _,_=>False
def ye (K:PySem.W.Frag):R2:=fun x y H Q=>Av (fun i j=>.int (i + j)) x y H Q∨(∃i j,x=.str i∧y=.str j∧i.length + j.length≤sizeLine∧Q (.str (i ++ j)) H)∨Er K x y H Q∨EF K x y H Q∨Cs K x y H Q
theorem rO:iX X (binaryOp .Add) (ye X.K):=E3.or (wM.or (yR.or (Dd.or Cf)))
theorem Bi:u7 X (ye X.K) bO:=by
 intro B σ F H env Q d d' x y Z rp h1 h2 hz hf
 unfold bO at hf
 split at hf
 ·simp only [Den] at h1 h2;subst h1 h2
  exact .inl ⟨_,_,rfl,rfl,hz _ _ F _ rp (ar.refl _) bC hf⟩
 ·simp only [Den] at h1 h2;subst h1 h2
  exact .inr (.inl ⟨_,_,rfl,rfl,hf.1,hz _ _ F _ rp (ar.refl _) gG hf.2⟩)
 ·simp only [Den] at h1 h2
  obtain⟨p,vs,rfl,q,r⟩:=h1
  obtain⟨p',vs',rfl,q',r'⟩:=h2
  refine .inr (.inr (.inl ⟨p,p',vs,vs',rfl,rfl,rp.fh.seq q,rp.fh.seq q',by rw [← r.length,← r'.length];exact hf.1,fun w hw=>?_⟩))
  obtain⟨r2,s2⟩:=rp.laid (o:=.lst (vs ++ vs')) hw
  exact hz _ _ _ _ r2 s2 (fe (d9.of aI) (aq.mono s2 _ _ (r.append r'))) hf.2
 ·simp only [Den] at h1 h2
  obtain⟨p,vs,rfl,q,r⟩:=h1
  obtain⟨p',vs',rfl,q',r'⟩:=h2
  cases vs with
  | nil =>
   rename_i u w
   cases u with
   | cons _ _=>simp only [aq] at r;obtain⟨_,_,z,_⟩:=r;cases z
   | nil =>
    exact .inr (.inr (.inr (.inr ⟨p,p',vs',rfl,rfl,ar.cn rp.fh q,ar.cn rp.fh q',hz _ _ F _ rp (ar.refl _) (fN q' r') (by simpa using hf.2)⟩)))
  | cons v0 vr =>
   refine .inr (.inr (.inr (.inl ⟨p,p',v0 :: vr,vs',rfl,rfl,ar.cn rp.fh q,ar.cn rp.fh q',by simp,by rw [← r.length,← r'.length];exact hf.1,fun w=>?_,fun w z hw=>?_⟩)))
   ·subst w
    rename_i w
    have e:w=[]:=by
     cases w with
     | nil=>rfl
     | cons _ _=>simp only [aq] at r';obtain⟨_,_,z,_⟩:=r';cases z
    subst e
    exact hz _ _ F _ rp (ar.refl _) (fN q r) (by simpa using hf.2)
   ·obtain⟨r2,s2⟩:=rp.laid (o:=.tup (v0 :: vr ++ vs')) hw
    exact hz _ _ _ _ r2 s2 (fN (iZ.of aI) (aq.mono s2 _ _ (r.append r'))) hf.2
 ·exact hf.elim
theorem bh (ha:QE X a ta) (hb:QE X b tb):QE X (.BinOp a .Add b pos) (aC bO ta tb):=xo rO Bi ha hb
def wo (C:Int→Int→Prop) (g:Int→Int→D) (x y:D) (Q:D→Prop):Prop:=match x,y with
 | .int i,.int j=>C i j∧Q (g i j)
 | _,_=>False
theorem u6 {C:Int→Int→Prop} {g:Int→Int→Int}:u7 X (rI C fun i j=>.int (g i j)) (wo C fun i j=>.int (g i j)):=by
 intro B σ F H env Q d d' x y Z rp h1 h2 hz hf
 unfold wo at hf
 split at hf
 ·simp only [Den] at h1 h2;subst h1 h2
  exact⟨_,_,rfl,rfl,hf.1,hz _ _ F _ rp (ar.refl _) bC hf.2⟩
 ·exact hf.elim
theorem Gr {g:Int→Int→Int}:u7 X (Av fun i j=>.int (g i j)) (wo (fun _ _=>True) fun i j=>.int (g i j)):=by
 intro B σ F H env Q d d' x y Z rp h1 h2 hz hf
 unfold wo at hf
 split at hf
 ·simp only [Den] at h1 h2;subst h1 h2
  exact⟨_,_,rfl,rfl,hz _ _ F _ rp (ar.refl _) bC hf.2⟩
 ·exact hf.elim
theorem mx {g:Int→Int→Bool}:u7 X (Av fun i j=>.bl (g i j)) (wo (fun _ _=>True) fun i j=>.bl (g i j)):=by
 intro B σ F H env Q d d' x y Z rp h1 h2 hz hf
 unfold wo at hf
 split at hf
 ·simp only [Den] at h1 h2;subst h1 h2
  exact⟨_,_,rfl,rfl,hz _ _ F _ rp (ar.refl _) hG hf.2⟩
 ·exact hf.elim
theorem DU:iX X (binaryOp .Mult) (rI IntMulOk fun i j=>.int (i * j)):=Jj fun _ _ _ _ _ _ _ hc q=>mul_int q hc
def wa (_ j:Int):Prop:=j≠0∧j.natAbs.log2 < 9000
theorem Aw:iX X (binaryOp .FloorDiv) (rI wa fun i j=>.int (i.fdiv j)):=Jj fun _ _ _ _ _ _ _ hc q=>floordiv_int hc.1 q (.inl (PyProof.noPylong_of_log2 hc.2))
def oV (_ j:Int):Prop:=j≠0
abbrev gr:=wo (fun _ _=>True) fun i j=>.int (i - j)
abbrev cQ:=wo IntMulOk fun i j=>.int (i * j)
abbrev jN:=wo wa fun i j=>.int (i.fdiv j)
abbrev gz:=wo oV fun i j=>.int (i.fmod j)
abbrev CT:=wo FC fun i j=>.int (i ^ j.toNat)
abbrev wm:=wo (fun _ _=>True) fun i j=>.bl (decide (i < j))
abbrev Kp:=wo (fun _ _=>True) fun i j=>.bl (decide (i≤j))
abbrev DA:=wo (fun _ _=>True) fun i j=>.bl (decide (j < i))
abbrev Ki:=wo (fun _ _=>True) fun i j=>.bl (decide (j≤i))
theorem df (ha:QE X a ta) (hb:QE X b tb):QE X (.BinOp a .Sub b pos) (aC gr ta tb):=xo Gk Gr ha hb
theorem bG (ha:QE X a ta) (hb:QE X b tb):QE X (.BinOp a .Mult b pos) (aC cQ ta tb):=xo DU u6 ha hb
theorem hJ (ha:QE X a ta) (hb:QE X b tb):QE X (.BinOp a .FloorDiv b pos) (aC jN ta tb):=xo Aw u6 ha hb
theorem eG (ha:QE X a ta) (hb:QE X b tb):QE X (.BinOp a .Mod b pos) (aC gz ta tb):=xo (r:=rI oV fun i j=>.int (i.fmod j)) yC u6 ha hb
theorem Bw (ha:QE X a ta) (hb:QE X b tb):QE X (.BinOp a .Pow b pos) (aC CT ta tb):=xo FR u6 ha hb
theorem JA (ha:QE X a ta) (hb:QE X b tb):QE X (.Compare a [.Lt] [b] pos) (aC wm ta tb):=yI Et mx ha hb (ef _)
theorem Hr (ha:QE X a ta) (hb:QE X b tb):QE X (.Compare a [.Gt] [b] pos) (aC DA ta tb):=yI Eo mx ha hb (ef _)
theorem nz (ha:QE X a ta) (hb:QE X b tb):QT X (.Compare a [.Lt] [b] pos) (aK (aC wm ta tb)):=gc Et mx ha hb (ef _)
theorem JN (ha:QE X a ta) (hb:QE X b tb):QT X (.Compare a [.LtE] [b] pos) (aK (aC Kp ta tb)):=gc HY mx ha hb (ef _)
theorem Be (ha:QE X a ta) (hb:QE X b tb):QT X (.Compare a [.Gt] [b] pos) (aK (aC DA ta tb)):=gc Eo mx ha hb (ef _)
theorem J0 (ha:QE X a ta) (hb:QE X b tb):QT X (.Compare a [.GtE] [b] pos) (aK (aC Ki ta tb)):=gc Hu mx ha hb (ef _)
def Kx (X:Cx) (r:V→Hp→VK→Prop) (f:D→(D→Prop)→Prop):Prop:=∀(B:Base) (σ:St) (F H:Hp) (env:En) (Q:D→Prop) (d:D) (x:V) (Z:VK),Rep X.K B F H σ env→Den X.K F d x→Kont X B σ env F Q Z→f d Q→r x H Z
def lq (f:D→(D→Prop)→Prop) (ta:TD):TD:=fun env Q=>ta env fun x=>f x Q
theorem J4 {op:UnaryOp} {r:V→Hp→VK→Prop} {f:D→(D→Prop)→Prop} (ho:Jl X (unaryOp op) r) (hf:Kx X r f) (ha:QE X a ta):QE X (.UnaryOp op a pos) (lq f ta):=by
 refine⟨?_⟩
 intro B σ F H env Q rp h
 refine bY (Hw ho bR) ?_
 refine aL (ha B σ F H env _ rp h) fun x H1 hq0=>?_
 obtain⟨F1,d,r1,s1,d1,q1⟩:=hq0
 exact hf B σ F1 H1 env Q d x _ r1 d1 (fun v H' F' d' r' s' hd q=>⟨F',d',r',s1.trans s',hd,q⟩) q1
def fK (x:D) (Q:D→Prop):Prop:=match x with
 | .int i=>Q (.int (-i))
 | _=>False
theorem c9 (ha:QE X a ta):QE X (.UnaryOp .USub a pos) (lq fK ta):=by
 refine J4 Fj ?_ ha
 intro B σ F H env Q d x Z rp h1 hz hf
 unfold fK at hf
 split at hf
 ·simp only [Den] at h1;subst h1
  exact⟨_,rfl,hz _ _ F _ rp (ar.refl _) bC hf⟩
 ·exact hf.elim
def C9 (X:Cx) (neg:Bool):R2:=fun x y H Q=>∃(F:Hp) (d d':D),ar F H∧Den X.K F d x∧Den X.K F d' y∧X.A.units + dep d < cLine∧dep d < 1000∧dep d' < 1000∧Q (.bl (if neg then !a5 d d' else a5 d d')) H
theorem wx:iX X (compareOp .Eq) (C9 X false):=by
 intro pins s σ H x y v u Q I rx ry h
 obtain⟨F,d,d',fh,h1,h2,hu,hd,hd',q⟩:=h
 exact (DE I fh d d' X.A x y v u hu hd hd' h1 h2 rx ry).1 X.prog X.w X.xe _ ⟨.bl _,H,I,rfl,q⟩
theorem xT:iX X (compareOp .NotEq) (C9 X true):=by
 intro pins s σ H x y v u Q I rx ry h
 obtain⟨F,d,d',fh,h1,h2,hu,hd,hd',q⟩:=h
 exact (DE I fh d d' X.A x y v u hu hd hd' h1 h2 rx ry).2 X.prog X.w X.xe _ ⟨.bl _,H,I,rfl,q⟩
def kz (x y:D):Prop:=dep x≤60∧dep y≤60
def ja (x y:D) (Q:D→Prop):Prop:=kz x y∧Q (.bl (a5 x y))
def sT (x y:D) (Q:D→Prop):Prop:=kz x y∧Q (.bl (!a5 x y))
theorem Ei (hu:X.A.units + 64 < cLine):u7 X (C9 X false) ja:=by
 intro B σ F H env Q d d' x y Z rp h1 h2 hz hf
 obtain⟨⟨l1,l2⟩,q⟩:=hf
 exact⟨F,d,d',rp.fh,h1,h2,by omega,by omega,by omega,hz _ _ F _ rp (ar.refl _) hG q⟩
theorem Em (hu:X.A.units + 64 < cLine):u7 X (C9 X true) sT:=by
 intro B σ F H env Q d d' x y Z rp h1 h2 hz hf
 obtain⟨⟨l1,l2⟩,q⟩:=hf
 exact⟨F,d,d',rp.fh,h1,h2,by omega,by omega,by omega,hz _ _ F _ rp (ar.refl _) hG q⟩
theorem CS (hu:X.A.units + 64 < cLine) (ha:QE X a ta) (hb:QE X b tb):QE X (.Compare a [.Eq] [b] pos) (aC ja ta tb):=yI wx (Ei hu) ha hb (ef _)
theorem JO (hu:X.A.units + 64 < cLine) (ha:QE X a ta) (hb:QE X b tb):QE X (.Compare a [.NotEq] [b] pos) (aC sT ta tb):=yI xT (Em hu) ha hb (ef _)
theorem gy (hu:X.A.units + 64 < cLine) (ha:QE X a ta) (hb:QE X b tb):QT X (.Compare a [.Eq] [b] pos) (aK (aC ja ta tb)):=gc wx (Ei hu) ha hb (ef _)
theorem w8 (hu:X.A.units + 64 < cLine) (ha:QE X a ta) (hb:QE X b tb):QT X (.Compare a [.NotEq] [b] pos) (aK (aC sT ta tb)):=gc xT (Em hu) ha hb (ef _)
def cR (x y:D) (Q:D→Prop):Prop:=match x,y with
 | .lst xs,.int i=>∃v,kn xs i=some v∧Q v
 | .tup xs,.int i=>∃v,kn xs i=some v∧Q v
 | .str z,.int i=>z.length≤sizeLine∧∃c,kn z.cps.toList i=some c∧Q (.str ⟨#[c]⟩)
 | _,_=>False
theorem aq.kn {K:PySem.W.Frag} {F:Hp} {ds:List D} {vs:List V} {i:Int} {d:D} (r:aq K F ds vs) (h:kn ds i=some d):∃v,L2.kn vs i=some v∧Den K F d v:=by
 unfold L2.kn at h ⊢
 rw [← r.length]
 cases e:ux ds.length i with
 | none=>rw [e] at h;cases h
 | some j =>
  rw [e] at h
  exact r.get h
theorem HJ:u7 X (Kl X.K) cR:=by
 intro B σ F H env Q d d' x y Z rp h1 h2 hz hf
 unfold cR at hf
 split at hf
 ·simp only [Den] at h1 h2;subst h2
  obtain⟨p,vs,rfl,q,r⟩:=h1
  obtain⟨v,hv,qv⟩:=hf
  obtain⟨w,hw,dw⟩:=r.kn hv
  exact .inl ⟨p,vs,_,w,rfl,rfl,rp.fh.seq q,hw,hz _ _ F _ rp (ar.refl _) dw qv⟩
 ·simp only [Den] at h1 h2;subst h2
  obtain⟨p,vs,rfl,q,r⟩:=h1
  obtain⟨v,hv,qv⟩:=hf
  obtain⟨w,hw,dw⟩:=r.kn hv
  exact .inr (.inl ⟨p,vs,_,w,rfl,rfl,ar.cn rp.fh q,hw,hz _ _ F _ rp (ar.refl _) dw qv⟩)
 ·simp only [Den] at h1 h2;subst h1 h2
  obtain⟨hl,c,hc,qv⟩:=hf
  exact .inr (.inr ⟨_,_,c,rfl,rfl,hl,hc,hz _ _ F _ rp (ar.refl _) gG qv⟩)
 ·exact hf.elim
theorem bt (ha:QE X a ta) (hb:QE X b tb) (hs:sO b):QE X (.Subscript a b pos) (aC cR ta tb):=⟨fun B σ F H env Q rp h=>bY (EB Gm bR bR hs) (two HJ ha hb rp J3 h)⟩
abbrev G9:=En→(Option Int→Prop)→Prop
def c8:G9:=fun _ Q=>Q none
def fv (t:TD):G9:=fun env Q=>t env fun x=>∃i,x=.int i∧Q (some i)
def QO (X:Cx) (e:Option Expr) (t:G9):Prop:=∃to:TO,PO X e to∧∀(B:Base) (σ:St) (F H:Hp) (env:En) (Q:Option Int→Prop) (Z:Option Int→Hp→Prop),Rep X.K B F H σ env→(∀o H' F',Rep X.K B F' H' σ env→ar F F'→Q o→Z o H')→t env Q→to σ H Z
theorem j8:QO X none c8:=⟨_,CN,fun B σ F H env Q Z rp hz h=>hz none H F rp (ar.refl _) h⟩
theorem fm (h:QE X e ta):QO X (some e) (fv ta):=by
 refine⟨_,Dm bR,fun B σ F H env Q Z rp hz hq=>?_⟩
 refine aL (h B σ F H env _ rp hq) fun x H1 hq0=>?_
 obtain⟨F1,d,r1,s1,d1,i,hi,q1⟩:=hq0
 subst hi
 simp only [Den] at d1
 exact⟨i,d1,hz _ _ F1 r1 s1 q1⟩
def cutD (xs:List D) (lo hi:Option Int):List D:=(xs.drop (HT.d4 xs.length 0 lo)).take (HT.d4 xs.length xs.length hi - HT.d4 xs.length 0 lo)
def Jq (x:D) (lo hi:Option Int) (Q:D→Prop):Prop:=match x with
 | .lst xs=>Q (.lst (cutD xs lo hi))
 | .tup xs=>¬ (HT.d4 xs.length 0 lo=0∧HT.d4 xs.length xs.length hi=xs.length)∧Q (.tup (cutD xs lo hi))
 | _=>False
def BP (ta:TD) (tl th:G9):TD:=fun env Q=>ta env fun x=>tl env fun lo=>th env fun hi=>Jq x lo hi Q
theorem Dj {lo hi:Option Expr} {tl th:G9} {p2:Pos} (ha:QE X a ta) (hl:QO X lo tl) (hh:QO X hi th):QE X (.Subscript a (.Slice lo hi none p2) pos) (BP ta tl th):=by
 refine⟨?_⟩
 intro B σ F H env Q rp h
 obtain⟨tl',pl,ql⟩:=hl
 obtain⟨th',ph,qh⟩:=hh
 refine bY (vR (Ds.or DT FD) bR pl ph) ?_
 refine aL (ha B σ F H env _ rp h) fun x H1 hq0=>?_
 obtain⟨F1,d,r1,s1,d1,q1⟩:=hq0
 refine ql B σ F1 H1 env _ _ r1 (fun lo' H2 F2 r2 s2 q2=>?_) q1
 refine qh B σ F2 H2 env _ _ r2 (fun hi' H3 F3 r3 s3 q3=>?_) q2
 have d3:=Den.mono (s2.trans s3) _ _ d1
 unfold Jq at q3
 split at q3
 ·simp only [Den] at d3
  obtain⟨p,vs,rfl,q,r⟩:=d3
  refine .inl ⟨p,vs,rfl,r3.fh.seq q,fun w hw=>?_⟩
  obtain⟨r4,s4⟩:=r3.laid (o:=.lst (qO vs lo' hi')) hw
  refine⟨_,_,r4,((s1.trans s2).trans s3).trans s4,fe (d9.of aI) ?_,q3⟩
  unfold qO cutD
  rw [r.length]
  exact aq.mono s4 _ _ ((r.drop _).take _)
 ·simp only [Den] at d3
  obtain⟨p,vs,rfl,q,r⟩:=d3
  refine .inr ⟨p,vs,rfl,ar.cn r3.fh q,by rw [← r.length];exact q3.1,fun w hw=>?_⟩
  obtain⟨r4,s4⟩:=r3.laid (o:=.tup (qO vs lo' hi')) hw
  refine⟨_,_,r4,((s1.trans s2).trans s3).trans s4,fN (iZ.of aI) ?_,q3.2⟩
  unfold qO cutD
  rw [r.length]
  exact aq.mono s4 _ _ ((r.drop _).take _)
 ·exact q3.elim
def Call3 (X:Cx) (r:List V→Hp→VK→Prop) (f:List D→(D→Prop)→Prop):Prop:=∀(B:Base) (σ:St) (F H:Hp) (env:En) (Q:D→Prop) (ds:List D) (vs:List V) (Z:VK),Rep X.K B F H σ env→aq X.K F ds vs→Kont X B σ env F Q Z→f ds Q→r vs H Z
def aB (f:List D→(D→Prop)→Prop) (ts:fF):TD:=fun env Q=>ts env fun xs=>f xs Q
theorem Ex {r:List V→Hp→VK→Prop} {f:List D→(D→Prop)→Prop} (hf:Call3 X r f) (ha:QA X es ts) {B:Base} {σ:St} {F H:Hp} {env:En} {Q:D→Prop} (rp:Rep X.K B F H σ env) (h:aB f ts env Q):Kc r (wA X es) σ H (RV X B σ env F Q):=by
 refine ck (ha B σ F H env _ rp h) fun vs H1 hq0=>?_
 obtain⟨F1,ds,r1,s1,d1,q1⟩:=hq0
 exact hf B σ F1 H1 env Q ds vs _ r1 d1 (fun v H' F' d' r' s' hd q=>⟨F',d',r',s1.trans s',hd,q⟩) q1
theorem ub {id:String} {r:List V→Hp→VK→Prop} {f:List D→(D→Prop)→Prop} {x:Str} {p:Pos} (hc:fL X (.builtin id) r) (hf:Call3 X r f) (hg:Gl X x) (hm:X.mg x=none) (hv:bootBuiltins x=some (.builtin id)) (ha:QA X (e :: es) ts)
  (hn:x≠"__name__":=by decide) (hdb:(x == ("__debug__" : Str))=false:=by decide) (he:starEach (e :: es) X.env=(false,eval e X.env) :: starEach es X.env:=by exact a6 rfl) (hpl:(backTo pos (starEach es X.env)).any (·.1)=false:=by rfl) :
  QE X (.Call (.Name x p) (e :: es) [] pos) (aB f ts):=⟨fun B σ F H env Q rp h=>bY (uV hc hg hm hv i9 hn hdb he hpl) (Ex hf ha rp h)⟩
theorem vK {T:String} {r:List V→Hp→VK→Prop} {f:List D→(D→Prop)→Prop} {x:Str} {p:Pos} (hc:fL X (.type T) r) (hf:Call3 X r f) (hg:Gl X x) (hm:X.mg x=none) (hv:bootBuiltins x=some (.type T)) (ha:QA X (e :: es) ts)
  (hn:x≠"__name__":=by decide) (hdb:(x == ("__debug__" : Str))=false:=by decide) (he:starEach (e :: es) X.env=(false,eval e X.env) :: starEach es X.env:=by exact a6 rfl) (hpl:(backTo pos (starEach es X.env)).any (·.1)=false:=by rfl) :
  QE X (.Call (.Name x p) (e :: es) [] pos) (aB f ts):=⟨fun B σ F H env Q rp h=>bY (nE hc hg hm hv i9 hn hdb he hpl) (Ex hf ha rp h)⟩
end
end L2.L3
namespace L2.L3
open PySem PySem.Spec PyProof.Rows
theorem zU:bootBuiltins "abs" = some (.builtin "abs"):=by decide +kernel
theorem zY:bootBuiltins "isinstance" = some (.builtin "isinstance"):=by decide +kernel
theorem rk:bootBuiltins "len" = some (.builtin "len"):=by decide +kernel
theorem zv:bootBuiltins "int" = some (.type "int"):=by decide +kernel
theorem oR:bootBuiltins "list" = some (.type "list"):=by decide +kernel
theorem vb:bootBuiltins "tuple" = some (.type "tuple"):=by decide +kernel
section
variable {X:Cx} {a b c e:Expr} {es:List Expr} {ta tb tc:TD} {tA tB':TB} {ts:fF} {pos:Pos} {rest:List Expr}
def vt (ds:List D) (Q:D→Prop):Prop:=match ds with
 | [.int i]=>Q (.int (if i < 0 then -i else i))
 | _=>False
theorem GQ:Call3 X (fun xs H Q=>∃i,xs=[.int i]∧Q (.int (if i < 0 then -i else i)) H) vt:=by
 intro B σ F H env Q ds vs Z rp h hz hf
 unfold vt at hf
 split at hf
 ·simp only [aq,Den] at h
  obtain⟨v,r,rfl,rfl,rfl⟩:=h
  exact⟨_,rfl,hz _ _ F _ rp (ar.refl _) bC hf⟩
 ·exact hf.elim
def kL (ds:List D) (Q:D→Prop):Prop:=match ds with
 | [.lst xs]=>Q (.int xs.length)
 | [.tup xs]=>Q (.int xs.length)
 | [.str z]=>z.length≤sizeLine∧Q (.int z.length)
 | _=>False
theorem Fg:Call3 X (fun xs H Q=>(∃p ys,xs=[.ref p]∧(d9 X.K H p ys∨iZ X.K H p ys)∧Q (.int ys.length) H)∨∃z,xs=[.str z]∧z.length≤sizeLine∧Q (.int z.length) H) kL:=by
 intro B σ F H env Q ds vs Z rp h hz hf
 unfold kL at hf
 split at hf
 ·simp only [aq,Den] at h
  obtain⟨v,r,rfl,⟨p,ys,rfl,q,r⟩,rfl⟩:=h
  refine .inl ⟨p,ys,rfl,.inl (rp.fh.seq q),hz _ _ F _ rp (ar.refl _) bC ?_⟩
  rw [← r.length];exact hf
 ·simp only [aq,Den] at h
  obtain⟨v,r,rfl,⟨p,ys,rfl,q,r⟩,rfl⟩:=h
  refine .inl ⟨p,ys,rfl,.inr (ar.cn rp.fh q),hz _ _ F _ rp (ar.refl _) bC ?_⟩
  rw [← r.length];exact hf
 ·simp only [aq,Den] at h
  obtain⟨v,r,rfl,rfl,rfl⟩:=h
  exact .inr ⟨_,rfl,hf.1,hz _ _ F _ rp (ar.refl _) bC hf.2⟩
 ·exact hf.elim
def o6 (ds:List D) (Q:D→Prop):Prop:=match ds with
 | [.int i]=>Q (.int i)
 | [.bl k]=>Q (.int (if k then 1 else 0))
 | _=>False
theorem Gy:Call3 X (fun xs H Q=>(∃i,xs=[.int i]∧Q (.int i) H)∨∃k,xs=[.bl k]∧Q (.int (if k then 1 else 0)) H) o6:=by
 intro B σ F H env Q ds vs Z rp h hz hf
 unfold o6 at hf
 split at hf
 ·simp only [aq,Den] at h
  obtain⟨v,r,rfl,rfl,rfl⟩:=h
  exact .inl ⟨_,rfl,hz _ _ F _ rp (ar.refl _) bC hf⟩
 ·simp only [aq,Den] at h
  obtain⟨v,r,rfl,rfl,rfl⟩:=h
  exact .inr ⟨_,rfl,hz _ _ F _ rp (ar.refl _) bC hf⟩
 ·exact hf.elim
def g8 (ds:List D) (Q:D→Prop):Prop:=match ds with
 | [.lst xs]=>Q (.tup xs)
 | [.tup xs]=>Q (.tup xs)
 | _=>False
theorem Ap:Call3 X (fun xs H Q=>∃p ys,xs=[.ref p]∧((d9 X.K H p ys∧∀l,H l=none→Q (.ref l) (upd H l (.tup ys)))∨(iZ X.K H p ys∧Q (.ref p) H))) g8:=by
 intro B σ F H env Q ds vs Z rp h hz hf
 unfold g8 at hf
 split at hf
 ·simp only [aq,Den] at h
  obtain⟨v,r,rfl,⟨p,ys,rfl,q,r⟩,rfl⟩:=h
  refine⟨p,ys,rfl,.inl ⟨rp.fh.seq q,fun w hw=>?_⟩⟩
  obtain⟨r2,s2⟩:=rp.laid (o:=.tup ys) hw
  exact hz _ _ _ _ r2 s2 (fN (iZ.of aI) (aq.mono s2 _ _ r)) hf
 ·simp only [aq,Den] at h
  obtain⟨v,r,rfl,⟨p,ys,rfl,q,r⟩,rfl⟩:=h
  exact⟨p,ys,rfl,.inr ⟨ar.cn rp.fh q,hz _ _ F _ rp (ar.refl _) (fN q r) hf⟩⟩
 ·exact hf.elim
end
end L2.L3
namespace L2.L3
open PySem PySem.Spec PyProof.Rows
section
variable {K:PySem.W.Frag} {B:Base} {F H:Hp} {σ:St} {env:En}
theorem Rep.bare (r:Rep K B F H σ env):Rep K B F H [] [] :=
 ⟨r.f0,r.fh,r.h0,r.nf,fun i x q=>by simp at q,fun i x q=>by simp at q,fun i j _ _ _ _ q=>by simp at q,fun i x q=>by simp at q,fun i j _ _ _ _ q=>by simp at q⟩
end
section
variable {X:Cx} {a b c e:Expr} {es:List Expr} {ta tb tc:TD} {tA tB':TB} {ts:fF} {pos:Pos} {rest:List Expr} {st:Stmt} {sts:List Stmt} {t u:bH}
def br:bH:=fun D env=>D.nx env
def aG (t u:bH):bH:=fun D env=>t { D with nx:=u D } env
theorem aS:nS X [] br:=⟨fun B σ F H env D rp h=>kZ CK ⟨F,env,rp,h⟩⟩
theorem ao (h1:QS X st t):nS X [st] t:=⟨fun B σ F H env D rp h=>kZ (ua zQ) (h1 B σ F H env D rp h)⟩
theorem ah (h1:QS X st t) (h2:nS X sts u):nS X (st :: sts) (aG t u):=by
 refine⟨?_⟩
 intro B σ F H env D rp h
 refine kZ (pT zQ eI) ?_
 exact sP (h1 B σ F H env _ rp h) (fun σ' H' ⟨F',env',rp',q⟩=>h2 B σ' F' H' env' D rp' q) (fun _ _ q=>q) (fun _ _ q=>q) (fun _ _ q=>q)
def jk:bH:=fun D env=>D.bk env
theorem AM:QS X (.Break pos) jk:=⟨fun B σ F H env D rp h=>eB Ah ⟨F,env,rp,h⟩⟩
def bc (te:TD):bH:=fun D env=>te env D.rt
theorem aN (he:QE X e ta):QS X (.Return (some e) pos) (bc ta):=by
 refine⟨?_⟩
 intro B σ F H env D rp h
 refine eB (Fm bR) ?_
 exact aL (he B σ F H env _ rp h) fun v H' ⟨F',d,r',s',hd,q⟩=>⟨F',d,r'.bare,hd,q⟩
def hV (c:TB) (t u:bH):bH:=fun D env=>c env fun k=>if k=true then t D env else u D env
theorem bA {xs ys:List Stmt} (hc:QT X c tA) (ha:nS X xs t) (hb:nS X ys u):QS X (.If c xs ys pos) (hV tA t u):=by
 refine⟨?_⟩
 intro B σ F H env D rp h
 refine eB (EL qq eI eI) ?_
 refine gJ (hc B σ F H env _ rp h) fun k H1 ⟨F1,r1,s1,q1⟩=>?_
 cases k with
 | true=>exact ha B σ F1 H1 env D r1 q1
 | false=>exact hb B σ F1 H1 env D r1 q1
def jx:bH:=fun _ _=>False
theorem BW:QS X st jx:=⟨fun _ _ _ _ _ _ _ h=>h.elim⟩
abbrev ow:=D→En→(En→Prop)→Prop
abbrev si:=List D→En→(En→Prop)→Prop
def wG (X:Cx) (tg:Expr):TG:=fun v σ H Q=>∀(pins:List (Addr×Obj)) (s:Shared) (u:Value),Inv X pins σ H s→RelV v u →
 wpAny (model X.prog X.w) X.A (assign tg X.env u) (fun _ s'=>∃σ' H',Inv X pins σ' H' s'∧Q σ' H') X.xe s
def Hk (X:Cx) (tg:List Expr):Dn:=fun vs σ H Q=>∀(pins:List (Addr×Obj)) (s:Shared) (us:List Value),Inv X pins σ H s→Vals vs us →
 wpAny (model X.prog X.w) X.A (assignInOrder ((assignEach tg X.env).map (·.2)) us) (fun _ s'=>∃σ' H',Inv X pins σ' H' s'∧Q σ' H') X.xe s
theorem vC {tg:Expr}:PG X tg (wG X tg):=fun pins s σ H v u Q I r h=>h pins s u I r
theorem Ew {tg:List Expr}:Hm X tg (Hk X tg):=fun pins s σ H v u Q I r h=>h pins s u I r
theorem Hx {tg:Expr} {g:TG} {v:V} {σ:St} {H:Hp} {Q:St→Hp→Prop} (h:PG X tg g) (q:g v σ H Q):wG X tg v σ H Q:=fun pins s u I r=>h pins s σ H v u Q I r q
theorem A6 {tg:List Expr} {g:Dn} {v:List V} {σ:St} {H:Hp} {Q:St→Hp→Prop} (h:Hm X tg g) (q:g v σ H Q):Hk X tg v σ H Q:=fun pins s u I r=>h pins s σ H v u Q I r q
theorem gA {tg:Expr} {v:V} {σ:St} {H:Hp} {Q Q':St→Hp→Prop} (h:wG X tg v σ H Q) (i:∀σ H,Q σ H→Q' σ H):wG X tg v σ H Q':=fun pins s u I r=>b9 (h pins s u I r) fun _ _ ⟨σ',H',I',q⟩=>⟨σ',H',I',i _ _ q⟩
theorem Cj {tg:List Expr} {v:List V} {σ:St} {H:Hp} {Q Q':St→Hp→Prop} (h:Hk X tg v σ H Q) (i:∀σ H,Q σ H→Q' σ H):Hk X tg v σ H Q':=fun pins s u I r=>b9 (h pins s u I r) fun _ _ ⟨σ',H',I',q⟩=>⟨σ',H',I',i _ _ q⟩
def RG (X:Cx) (B:Base) (F:Hp) (Q:En→Prop):St→Hp→Prop:=fun σ' H'=>∃F' env',Rep X.K B F' H' σ' env'∧ar F F'∧Q env'
structure QG (X:Cx) (tg:Expr) (g:ow):Prop where
 of ::
 run:∀(B:Base) (σ:St) (F H:Hp) (env:En) (Q:En→Prop) (d:D) (v:V),Rep X.K B F H σ env→Den X.K F d v→g d env Q→wG X tg v σ H (RG X B F Q)
instance {X:Cx} {tg:Expr} {g:ow}:CoeFun (QG X tg g) (fun _=>∀(B:Base) (σ:St) (F H:Hp) (env:En) (Q:En→Prop) (d:D) (v:V),Rep X.K B F H σ env→Den X.K F d v→g d env Q→wG X tg v σ H (RG X B F Q)):=⟨QG.run⟩
structure Hg (X:Cx) (tg:List Expr) (g:si):Prop where
 of ::
 run:∀(B:Base) (σ:St) (F H:Hp) (env:En) (Q:En→Prop) (ds:List D) (vs:List V),Rep X.K B F H σ env→aq X.K F ds vs→g ds env Q→Hk X tg vs σ H (RG X B F Q)
instance {X:Cx} {tg:List Expr} {g:si}:CoeFun (Hg X tg g) (fun _=>∀(B:Base) (σ:St) (F H:Hp) (env:En) (Q:En→Prop) (ds:List D) (vs:List V),Rep X.K B F H σ env→aq X.K F ds vs→g ds env Q→Hk X tg vs σ H (RG X B F Q)):=⟨Hg.run⟩
def aM (i:Nat):ow:=fun x env Q=>Q (env.set i (some (.d x)))
theorem az {x:Str} (i:Nat) (hN:X.N.Nodup) (hi:X.N[i]?=some x:=by rfl) (hx:Loc X.env.scope x:=by first | exact Or.inl rfl | exact Or.inr rfl) (hf:X.fn x=true∨X.env.scope.names.lookup x=some .local:=by first | exact .inl rfl | exact .inr rfl):QG X (.Name x pos) (aM i):=by
 refine⟨?_⟩
 intro B σ F H env Q d v rp hd h pins s u I r
 refine CG (i:=i) hN hi hx hf pins s σ H v u _ I r ?_
 refine⟨F,_,rp.set hd ?_,ar.refl _,h⟩
 rw [I.len];exact (KL.mp hi).1
def fR:si:=fun xs env Q=>xs=[]∧Q env
def aR (g:ow) (gs:si):si:=fun xs env Q=>∃x r,xs=x :: r∧g x env fun env'=>gs r env' Q
theorem cm:Hg X [] fR:=by
 refine⟨?_⟩
 intro B σ F H env Q ds vs rp hd h
 obtain⟨rfl,q⟩:=h
 simp only [aq] at hd
 exact A6 Di ⟨hd,F,env,rp,ar.refl _,q⟩
theorem aA {g:ow} {gs:si} (h1:QG X e g) (h2:Hg X es gs) (hs:(assignEach (e :: es) X.env).map (·.2)=assign e X.env :: (assignEach es X.env).map (·.2):=by rfl):Hg X (e :: es) (aR g gs):=by
 refine⟨?_⟩
 intro B σ F H env Q ds vs rp hd h
 obtain⟨x,r,rfl,q⟩:=h
 simp only [aq] at hd
 obtain⟨v,vr,rfl,a1,b1⟩:=hd
 refine A6 (BM vC Ew hs) ⟨v,vr,rfl,?_⟩
 refine gA (h1 B σ F H env _ x v rp a1 q) fun σ1 H1 hq0=>?_
 obtain⟨F1,env1,r1,s1,q1⟩:=hq0
 exact Cj (h2 B σ1 F1 H1 env1 Q r vr r1 (aq.mono s1 _ _ b1) q1) fun σ2 H2 ⟨F2,env2,r2,s2,q2⟩=>⟨F2,env2,r2,s1.trans s2,q2⟩
def fQ (n:Nat) (gs:si):ow:=fun x env Q=>∃xs,x=.tup xs∧xs.length=n∧gs xs env Q
theorem cS {k n:Nat} {gs:si} (hc:X.calm=true) (h:Hg X es gs) (hn:(assignEach es X.env).length=n:=by rfl) (hst:(assignEach es X.env).findIdx? (·.1)=none:=by rfl):QG X (.Tuple es k pos) (fQ n gs):=by
 refine⟨?_⟩
 intro B σ F H env Q d v rp hd hq
 obtain⟨xs,rfl,hl,q⟩:=hq
 simp only [Den] at hd
 obtain⟨p,vs,rfl,hs,r⟩:=hd
 refine Hx (GD hc Ew hn hst) ⟨p,vs,rfl,ar.cn rp.fh hs,by rw [← r.length];exact hl,?_⟩
 exact h B σ F H env Q xs vs rp r q
def gT (te:TD) (g:ow):bH:=fun D env=>te env fun x=>g x env D.nx
theorem d7 {tg:Expr} {g:ow} (he:QE X e ta) (hg:QG X tg g) (hs:swapsWithSole [tg] e pos.line X.env=pure false:=by rfl) (hw:swappedStores [tg] e X.env=pure none:=by rfl)
  (h1:(assignEach [tg] X.env).map (·.2)=[assign tg X.env]:=by rfl):QS X (.Assign [tg] e pos) (gT ta g):=by
 refine⟨?_⟩
 intro B σ F H env D rp h
 refine eB (wJ bR vC hs hw h1) ?_
 refine aL (he B σ F H env _ rp h) fun v H1 hq0=>?_
 obtain⟨F1,d,r1,s1,d1,q1⟩:=hq0
 exact gA (hg B σ F1 H1 env _ d v r1 d1 q1) fun σ2 H2 ⟨F2,env2,r2,s2,q2⟩=>⟨F2,env2,r2,q2⟩
def a7 (i:Nat) (te:TD):bH:=fun D env=>te env fun x=>D.nx (env.set i (some (.d x)))
theorem aJ {x:Str} {pos':Pos} (i:Nat) (hN:X.N.Nodup) (he:QE X e ta) (hi:X.N[i]?=some x:=by rfl) (hx:Loc X.env.scope x:=by first | exact Or.inl rfl | exact Or.inr rfl) (hs:swapsWith e (some (.Name x pos')) pos.line X.env=pure false:=by rfl)
  (hf:X.fn x=true∨X.env.scope.names.lookup x=some .local:=by first | exact .inl rfl | exact .inr rfl):QS X (.Assign [.Name x pos'] e pos) (a7 i ta):=by
 refine⟨?_⟩
 intro B σ F H env D rp h pins s I
 refine p5 (i:=i) hN hi hx bR hs hf pins s σ H _ I ?_
 refine aL (he B σ F H env _ rp h) fun v H1 ⟨F1,d,r1,s1,d1,q1⟩=>⟨F1,_,r1.set d1 ?_,q1⟩
 rw [I.len];exact (KL.mp hi).1
def DD (i j:Nat) (ts:fF):bH:=fun D env=>ts env fun xs=>∃x y,xs=[x,y]∧D.nx ((env.set i (some (.d x))).set j (some (.d y)))
theorem GV {x y:Str} {px py pt:Pos} {kt k2 pt2} (i j:Nat) (hc:X.calm=true) (hN:X.N.Nodup) (ha:QA X [a,b] ts) (hi:X.N[i]?=some x:=by rfl) (hj:X.N[j]?=some y:=by rfl) (hij:i≠j:=by decide)
  (hx:X.env.scope.names.lookup x=some .local:=by rfl) (hy:X.env.scope.names.lookup y=some .local:=by rfl)
  (hw:swappedStores [.Tuple [.Name x px,.Name y py] kt pt] (.Tuple [a,b] k2 pt2) X.env=pure (some [x,y]):=by rfl)
  (hs:swapsWithSole [.Tuple [.Name x px,.Name y py] kt pt] (.Tuple [a,b] k2 pt2) pos.line X.env=pure false:=by rfl) :
  QS X (.Assign [.Tuple [.Name x px,.Name y py] kt pt] (.Tuple [a,b] k2 pt2) pos) (DD i j ts):=by
 refine⟨?_⟩
 intro B σ F H env D rp h pins s I
 refine FV (i:=i) (j:=j) hc hN hi hj hij hx hy i9 hw hs pins s σ H _ I ?_
 refine ck (ha B σ F H env _ rp h) fun vs H1 hq0=>?_
 obtain⟨F1,ds,r1,s1,d1,x,y,hxy,q1⟩:=hq0
 subst hxy
 simp only [aq] at d1
 obtain⟨v,r,rfl,a1,v',r',rfl,a2,rfl⟩:=d1
 have l1:i < σ.length:=by rw [I.len];exact (KL.mp hi).1
 have l2:j < (σ.set i (some v)).length:=by rw [List.length_set,I.len];exact (KL.mp hj).1
 exact⟨v,v',rfl,F1,_,(r1.set a1 l1).set a2 l2,q1⟩
def eR (c:TB) (tb:bH):bH:=fun D env=>∃(I:En→Prop) (μ:En→Nat),I env∧∀env,I env→c env fun k=>if k=true then tb { D with nx:=fun e'=>I e'∧μ e' < μ env,ct:=fun e'=>I e'∧μ e' < μ env,bk:=D.nx } env else D.nx env
theorem ik {body:List Stmt} (hp:PassesOwn (model X.prog X.w) X.A X.env X.xe) (hc:QT X c tA) (hb:nS X body t):QS X (.While c body [] pos) (eR tA t):=by
 refine⟨?_⟩
 intro B σ F H env D rp h
 obtain⟨I,μ,i0,turn⟩:=h
 refine eB (vH hp qq eI) ?_
 refine⟨fun m σ H=>∃F env,Rep X.K B F H σ env∧I env∧μ env=m,⟨_,F,env,rp,i0,rfl⟩,?_⟩
 rintro m σ1 H1 ⟨F1,env1,r1,i1,rfl⟩
 refine gJ (hc B σ1 F1 H1 env1 _ r1 (turn env1 i1)) fun k H2 ⟨F2,r2,s2,q2⟩=>?_
 cases k with
 | false=>exact⟨F2,env1,r2,q2⟩
 | true =>
  refine⟨fun σ' H'=>∃F' env',Rep X.K B F' H' σ' env'∧I env'∧μ env' < μ env1,fun σ' H' ⟨F',env',r',i',l⟩=>⟨_,l,F',env',r',i',rfl⟩,?_⟩
  exact hb B σ1 F2 H2 env1 _ r2 q2
def turns (g:ow) (tb:bH) (Z:Ends3):List D→En→Prop
 | [],env=>Z.nx env
 | x :: xs,env=>g x env fun env'=>tb { Z with nx:=turns g tb Z xs,ct:=turns g tb Z xs,bk:=Z.nx } env'
def cT (z:Str):List D:=z.cps.toList.map fun c=>.str ⟨#[c]⟩
def cM:D→Option (List D)
 | .lst xs=>some xs
 | .tup xs=>some xs
 | .str z=>some (cT z)
 | _=>none
def IJ (z:Str):It:=⟨fun i _=>i < z.cps.size,fun i H v H'=>H'=H∧∃c,z.cps[i]?=some c∧v=.str ⟨#[c]⟩,fun i _=>z.cps.size≤i⟩
theorem u3 {P:Program} {w:World} {K:PySem.W.Frag} {tg:Expr} (it:Addr) (z:Str) (t:Tok) (nm:String) (hn:["enumerate","zip","dict_itemiterator","dict_reverseitemiterator","odict_iterator","itertools.zip_longest","itertools.pairwise"].contains nm=false)
  (W:∀A:Around,A.handled=none→Walks P w A it [it] [it] z.cps.size (SignAt z) (fun i h=>h.IsStrIter it nm z t i)) (sf:∀(A:Around) (i:Nat) (s:Shared) (Q:Value→Shared→Prop) (E:Value→Shared→Prop),s.heap.IsStrIter it nm z t i→Q (.ref it) s→wpAny (model P w) A (pyIter (.ref it)) Q E s)
  (dn:∀(A:Around) (i:Nat) (s:Shared) (Q:Option Value→Shared→Prop) (E:Value→Shared→Prop),A.handled=none→s.heap.IsStrIter it nm z t i→z.cps[i]?=none→(∀h',Heap.ExtBut it s.heap h'→Q none { s with heap:=h' })→wpAny (model P w) A (pyNext (.ref it)) Q E s) :
  Turn P w K tg (IJ z) [it] it (fun i h=>h.IsStrIter it nm z t i) where
 mem:=by simp
 obj:=fun i h st b hb=>by
  have e:b=it:=by simpa using hb
  subst e
  obtain⟨o,e,c,d⟩:=st
  exact⟨o,e,fun v z=>by rw [d] at z;cases z⟩
 keep:=fun i h h' st k=>by
  obtain⟨o,e,c,d⟩:=st
  exact⟨o,k it (by simp) o e,c,d⟩
 item:=by
  intro X hP hw hK hc i pins s σ H E I hf st hg
  subst hP hw hK
  obtain⟨f0,f1,f2,f3,f4,f5⟩:=hf it (by simp)
  refine (W X.A (I.ok.hd hc)).item i s _ _ hg st fun v h' tk hv st' kk=>?_
  obtain⟨c,u,hc',rfl⟩:=hv
  have I1:Inv X pins σ H { s with heap:=h',toks:=tk }:=I.turned (fun b o hb e=>kk b o (by simpa using hb) e) f0 f1 f3 f4 f5
  obtain⟨o,e,c',d⟩:=id st'
  exact⟨_,rfl,vZ (s:={ s with heap:=h',toks:=tk }) e c' d hn ⟨.str ⟨#[c]⟩,H,I1,⟨u,rfl⟩,⟨rfl,c,hc',rfl⟩,st',fun b hb=>(hf b hb).1⟩⟩
 done:=by
  intro X hP hw hK hc i pins s σ H E I hf st hg
  subst hP hw hK
  obtain⟨f0,f1,f2,f3,f4,f5⟩:=hf it (by simp)
  have hg':z.cps.size≤i:=hg
  exact dn X.A i s _ _ (I.ok.hd hc) st (by simp;exact hg') fun h' eb=>⟨rfl,I.turned (t':=s.toks) (fun b o hb e=>eb b o hb e) f0 f1 f3 f4 f5⟩
 self:=fun A i s Q E st h=>sf A i s Q E st h
def HU (K:PySem.W.Frag) (tl:TE):TI:=fun σ H R=>tl σ H fun x H1=>(∃a,x=.ref a∧(((∃xs,d9 K H1 a xs)∧R (Jo K a) H1)∨((∃xs,iZ K H1 a xs)∧R (Jm K a) H1)))∨∃z,x=.str z∧R (IJ z) H1
theorem Ba {tg l:Expr} {tl:TE} (hl:PE X l tl):PI X tg l (HU X.K tl):=by
 intro pins s σ H R I h
 refine b9 (hl pins s σ H _ I h) fun v s1 hq0=>?_
 obtain⟨x,H1,I1,r1,q1⟩:=hq0
 rcases q1 with ⟨a,e,q⟩ | ⟨z,e,q⟩
 rotate_left
 ·subst e
  obtain⟨t,rfl⟩:=r1
  have fin:∀(o:Obj) (nm:String),(∀v,o.data≠.cell v)→Turn X.prog X.w X.K tg (IJ z) [s1.heap.objs.size] s1.heap.objs.size (fun i h=>h.IsStrIter s1.heap.objs.size nm z t i)→(s1.heap.push o).IsStrIter s1.heap.objs.size nm z t 0 →
    Jh X pins σ tg R (.ref s1.heap.objs.size) { s1 with heap:=s1.heap.push o }:=fun o nm hcell T st=>by
   refine⟨s1.heap.objs.size,[s1.heap.objs.size],_,_,H1,rfl,I1.kept (t':=s1.toks) fun b o e=>KY _ e,T,st,fun b hb=>?_,q⟩
   have e:b=s1.heap.objs.size:=by simpa using hb
   subst e
   exact I1.y2 (K0 _) (I1.hok.fresh (K0 _))
  cases ha:z.cps.all (· < 128)
  ·exact wpAny_pyIter_wide ha (fin _ "str_iterator" (fun v e=>by cases e) (u3 _ z t "str_iterator" (by decide) (fun A hA=>Walks.strWide hA _ z t) (fun A i s Q E st h=>wpAny_pyIter_striter_wide st h) (fun A i s Q E hh st hx h=>wpAny_pyNext_wide_end hh st hx h)) ⟨_,La _ rfl,rfl,rfl⟩)
  ·exact wpAny_pyIter_ascii ha (fin _ "str_ascii_iterator" (fun v e=>by cases e) (u3 _ z t "str_ascii_iterator" (by decide) (fun A hA=>Walks.strAscii hA _ z t) (fun A i s Q E st h=>wpAny_pyIter_striter_ascii st h) (fun A i s Q E hh st hx h=>wpAny_pyNext_ascii_end hh st hx h)) ⟨_,La _ rfl,rfl,rfl⟩)
 subst e
 cases r1
 rcases q with ⟨⟨xs,hq⟩,q⟩ | ⟨⟨xs,hq⟩,q⟩
 ·obtain⟨its,rv,p,hz⟩:=I1.list hq
  refine wpAny_pyIter_list p.isList ?_
  refine⟨s1.heap.objs.size,[s1.heap.objs.size],_,_,H1,rfl,I1.kept (t':=s1.toks) fun b o e=>KY _ e,y3 a _,⟨_,La _ rfl,rfl,rfl⟩,fun b hb=>?_,q⟩
  have e:b=s1.heap.objs.size:=by simpa using hb
  subst e
  exact I1.y2 (K0 _) (I1.hok.fresh (K0 _))
 ·obtain⟨its,rv,p,hz⟩:=I1.tuple hq
  refine wpAny_pyIter_tuple (show s1.heap.IsTuple a its.toArray from p) ?_
  refine⟨s1.heap.objs.size,[s1.heap.objs.size],_,_,H1,rfl,I1.kept (t':=s1.toks) fun b o e=>KY _ e,wN a _,⟨_,La _ rfl,rfl,rfl⟩,fun b hb=>?_,q⟩
  have e:b=s1.heap.objs.size:=by simpa using hb
  subst e
  exact I1.y2 (K0 _) (I1.hok.fresh (K0 _))
theorem xk {K:PySem.W.Frag} {F:Hp} (z:Str):aq K F (cT z) (z.cps.toList.map fun c=>V.str ⟨#[c]⟩):=by
 unfold cT
 induction z.cps.toList with
 | nil=>exact aW
 | cons c r ih=>exact aX gG ih
def kd (te:TD) (g:ow) (tb:bH):bH:=fun D env=>te env fun x=>∃xs,cM x=some xs∧turns g tb D xs env
theorem drop_cons {α:Type} {xs:List α} {i:Nat} {x:α} (h:xs[i]?=some x):xs.drop i=x :: xs.drop (i + 1):=by
 obtain⟨hl,e⟩:=KL.mp h
 rw [LL hl,e]
theorem RS.same {B:Base} {G:Hp} {D:Ends3} (s:ar B.F G):(∀σ H,(RS X ⟨G,B.H,B.N,B.nb⟩ D).nx σ H→(RS X B D).nx σ H)∧(∀v H,(RS X ⟨G,B.H,B.N,B.nb⟩ D).rt v H→(RS X B D).rt v H) ∧
  (∀σ H,(RS X ⟨G,B.H,B.N,B.nb⟩ D).bk σ H→(RS X B D).bk σ H)∧(∀σ H,(RS X ⟨G,B.H,B.N,B.nb⟩ D).ct σ H→(RS X B D).ct σ H) :=
 ⟨fun _ _ ⟨F',env',r,q⟩=>⟨F',env',r.back s,q⟩,fun _ _ ⟨F',d,r,hd,q⟩=>⟨F',d,r.back s,hd,q⟩,fun _ _ ⟨F',env',r,q⟩=>⟨F',env',r.back s,q⟩,fun _ _ ⟨F',env',r,q⟩=>⟨F',env',r.back s,q⟩⟩
theorem iB {tg iter:Expr} {body:List Stmt} {g:ow} (hp:PassesOwn (model X.prog X.w) X.A X.env X.xe) (hc:X.calm=true) (hi:QE X iter ta) (hg:QG X tg g) (hb:nS X body t)
  (hs:∀x,foldedSetIterable iter X.env x=pure x:=by intro _;rfl):QS X (.For tg iter body [] pos) (kd ta g t):=by
 refine⟨?_⟩
 intro B σ F H env D rp h
 refine eB (pA hp hc (Ba bR) vC eI hs) ?_
 refine aL (hi B σ F H env _ rp h) fun v H1 hq0=>?_
 obtain⟨F1,d,r1,s1,d1,xs,hx,q1⟩:=hq0
 have core:∀(a:Addr) (vs:List V) (J:It),aq X.K F1 xs vs→(∀(i:Nat) (x:V) (G H':Hp),ar F1 G→ar G H'→vs[i]?=some x→J.go i H')→(∀(i:Nat) (x:V) (G H':Hp) (y:V) (H'':Hp),ar F1 G→ar G H'→vs[i]?=some x→J.yld i H' y H''→H''=H'∧y=x) →
   (∀(G H':Hp),ar F1 G→ar G H'→J.stop vs.length H') →
   ∃W:Nat→Nat→St→Hp→Prop,(∃m,W 0 m σ H1)∧∀i m σ H,W i m σ H→(J.stop i H∧(RS X B D).nx σ H)∨(J.go i H∧∃N:St→Hp→Prop,(∀σ' H',N σ' H'→∃m',m' < m∧W (i + 1) m' σ' H') ∧
    ∀x H',J.yld i H x H'→wG X tg x σ H' fun σ2 H2=>wSs X body { RS X B D with nx:=N,ct:=N,bk:=(RS X B D).nx } σ2 H2):=by
  intro a vs J dl go yld stop
  have hlen:=dl.length
  refine⟨fun i m σ H=>m=vs.length - i∧i≤vs.length∧∃F env,Rep X.K ⟨F1,B.H,B.N,B.nb⟩ F H σ env∧turns g t D (xs.drop i) env,⟨vs.length,by simp,Lp _,F1,env,r1.now,by simpa using q1⟩,?_⟩
  rintro i m σ2 H2 ⟨rfl,hi2,F2,env2,r2,q2⟩
  by_cases hlt:i < vs.length
  ·have hv:vs[i]?=some vs[i]:=by simp [hlt]
   obtain⟨dx,hdx,ddx⟩:=dl.Iu hv
   rw [drop_cons hdx] at q2
   refine .inr ⟨go i _ F2 H2 r2.f0 r2.fh hv,fun σ' H'=>∃F env,Rep X.K ⟨F1,B.H,B.N,B.nb⟩ F H' σ' env∧turns g t D (xs.drop (i + 1)) env,fun σ' H' ⟨F',env',r',q'⟩=>⟨vs.length - (i + 1),by omega,rfl,by omega,F',env',r',q'⟩,fun y H' hy=>?_⟩
   obtain⟨rfl,rfl⟩:=yld i _ F2 H2 y H' r2.f0 r2.fh hv hy
   have st:=hg ⟨F1,B.H,B.N,B.nb⟩ σ2 F2 _ env2 _ dx _ r2 (Den.mono r2.f0 _ _ ddx) q2
   refine gA st fun σ3 H3 hq0=>?_
   obtain⟨F3,env3,r3,s3,q3⟩:=hq0
   have bd:=hb ⟨F1,B.H,B.N,B.nb⟩ σ3 F3 H3 env3 _ r3 q3
   obtain⟨z1,z2,z3,z4⟩:=RS.same (X:=X) (B:=B) (D:=D) (r1.f0)
   exact gj bd (fun _ _ q=>q) z2 z1 (fun _ _ q=>q)
  ·have e:i=vs.length:=by omega
   subst e
   rw [Ly (by omega)] at q2
   exact .inl ⟨stop F2 H2 r2.f0 r2.fh,F2,env2,r2.back r1.f0,q2⟩
 cases d with
 | lst ys =>
  simp only [cM] at hx;cases hx
  simp only [Den] at d1
  obtain⟨a,vs,rfl,q,r⟩:=d1
  refine .inl ⟨a,rfl,.inl ⟨⟨vs,r1.fh.seq q⟩,core a vs (Jo X.K a) r (fun i x G H' s1 s2 hv=>⟨vs,x,s2.seq (s1.seq q),hv⟩) (fun i x G H' y H'' s1 s2 hv hy=>?_) (fun G H' s1 s2=>⟨vs,s2.seq (s1.seq q),K0 _⟩)⟩⟩
  obtain⟨e1,e2⟩:=hy
  have:=e2 vs (s2.seq (s1.seq q))
  rw [hv] at this
  exact⟨e1,(K3 this).symm⟩
 | tup ys =>
  simp only [cM] at hx;cases hx
  simp only [Den] at d1
  obtain⟨a,vs,rfl,q,r⟩:=d1
  refine .inl ⟨a,rfl,.inr ⟨⟨vs,ar.cn r1.fh q⟩,core a vs (Jm X.K a) r (fun i x G H' s1 s2 hv=>⟨vs,x,ar.cn s2 (ar.cn s1 q),hv⟩) (fun i x G H' y H'' s1 s2 hv hy=>?_) (fun G H' s1 s2=>⟨vs,ar.cn s2 (ar.cn s1 q),K0 _⟩)⟩⟩
  obtain⟨e1,e2⟩:=hy
  have:=e2 vs (ar.cn s2 (ar.cn s1 q))
  rw [hv] at this
  exact⟨e1,(K3 this).symm⟩
 | str z =>
  simp only [cM] at hx;cases hx
  simp only [Den] at d1
  subst d1
  refine .inr ⟨z,rfl,core 0 (z.cps.toList.map fun c=>V.str ⟨#[c]⟩) (IJ z) (xk z) (fun i x G H' s1 s2 hv=>?_) (fun i x G H' y H'' s1 s2 hv hy=>?_) (fun G H' s1 s2=>?_)⟩
  ·have:=(KL.mp hv).1
   show i < z.cps.size
   simpa using this
  ·obtain⟨e1,c,hc,rfl⟩:=hy
   rw [KU,Array.getElem?_toList,hc] at hv
   exact⟨e1,K3 hv⟩
  ·show z.cps.size≤_
   simp
 | _=>simp only [cM] at hx;cases hx
def a8 (lo:Int) (n:Nat):List D:=(List.range n).map fun (i:Nat)=>D.int (lo + (i:Int))
def ib (f:List D→(Int→Nat→Prop)→Prop) (ts:fF) (g:ow) (tb:bH):bH:=fun D env=>ts env fun xs=>f xs fun lo n=>turns g tb D (a8 lo n) env
def m6 (xs:List D) (Q:Int→Nat→Prop):Prop:=match xs with
 | [.int j]=>(-(2 ^ 62)≤j∧j < 2 ^ 62)∧Q 0 j.toNat
 | _=>False
def C4 (xs:List D) (Q:Int→Nat→Prop):Prop:=match xs with
 | [.int i,.int j]=>(-(2 ^ 62)≤i∧i < 2 ^ 62∧-(2 ^ 62)≤j∧j < 2 ^ 62)∧Q i (j - i).toNat
 | _=>False
theorem v9 {tg:Expr} {body:List Stmt} {g:ow} (hg:QG X tg g) (hb:nS X body t) {B:Base} {D:Ends3} {lo:Int} {n:Nat} {σ:St} {F1 H1:Hp} {env:En} (r1:Rep X.K B F1 H1 σ env) (q1:turns g t D (a8 lo n) env) :
  ∃W:Nat→Nat→St→Hp→Prop,(∃m,W 0 m σ H1)∧∀i m σ H,W i m σ H→((EA lo n).stop i H∧(RS X B D).nx σ H)∨((EA lo n).go i H∧∃N:St→Hp→Prop,(∀σ' H',N σ' H'→∃m',m' < m∧W (i + 1) m' σ' H') ∧
    ∀x H',(EA lo n).yld i H x H'→wG X tg x σ H' fun σ2 H2=>wSs X body { RS X B D with nx:=N,ct:=N,bk:=(RS X B D).nx } σ2 H2):=by
 have hl:(a8 lo n).length=n:=by simp [a8]
 refine⟨fun i m σ H=>m=n - i∧i≤n∧∃F env,Rep X.K B F H σ env∧turns g t D ((a8 lo n).drop i) env,⟨n,by simp,Lp _,F1,env,r1,by simpa using q1⟩,?_⟩
 rintro i m σ2 H2 ⟨rfl,hi2,F2,env2,r2,q2⟩
 by_cases hlt:i < n
 ·have hdx:(a8 lo n)[i]?=some (L3.D.int (lo + (i:Int))):=by simp [a8,hlt]
  rw [drop_cons hdx] at q2
  refine .inr ⟨hlt,fun σ' H'=>∃F env,Rep X.K B F H' σ' env∧turns g t D ((a8 lo n).drop (i + 1)) env,fun σ' H' ⟨F',env',r',q'⟩=>⟨n - (i + 1),by omega,rfl,by omega,F',env',r',q'⟩,fun y H' hy=>?_⟩
  obtain⟨rfl,rfl⟩:=hy
  refine gA (hg B σ2 F2 _ env2 _ _ _ r2 bC q2) fun σ3 H3 hq0=>?_
  obtain⟨F3,env3,r3,s3,q3⟩:=hq0
  exact gj (hb B σ3 F3 H3 env3 _ r3 q3) (fun _ _ q=>q) (fun _ _ q=>q) (fun _ _ q=>q) (fun _ _ q=>q)
 ·have e:i=n:=by omega
  subst e
  rw [Ly (by omega)] at q2
  exact .inl ⟨K0 _,F2,env2,r2,q2⟩
theorem lX {tg:Expr} {body:List Stmt} {g:ow} {p:Pos} {pos2:Pos} (hp:PassesOwn (model X.prog X.w) X.A X.env X.xe) (hc:X.calm=true) (hgl:Gl X "range") (hm:X.mg "range" = none) (ha:QA X [a] ts) (hg:QG X tg g) (hb:nS X body t)
  (hst:starEach [a] X.env=[(false,eval a X.env)]:=by rfl) (hs:∀x,foldedSetIterable (.Call (.Name "range" p) [a] [] pos2) X.env x=pure x:=by intro _;rfl):QS X (.For tg (.Call (.Name "range" p) [a] [] pos2) body [] pos) (ib m6 ts g t):=by
 refine⟨?_⟩
 intro B σ F H env D rp h
 refine eB (pA hp hc (nj hgl hm i9 hst) vC eI hs) ?_
 refine ck (ha B σ F H env _ rp h) fun vs H1 hq0=>?_
 obtain⟨F1,ds,r1,s1,d1,q1⟩:=hq0
 (try dsimp only at q1);unfold m6 at q1
 split at q1
 ·simp only [aq,Den] at d1
  obtain⟨v,r,rfl,rfl,rfl⟩:=d1
  exact⟨_,rfl,q1.1.1,q1.1.2,v9 hg hb r1 q1.2⟩
 ·exact q1.elim
theorem AW {tg:Expr} {body:List Stmt} {g:ow} {p:Pos} {pos2:Pos} (hp:PassesOwn (model X.prog X.w) X.A X.env X.xe) (hc:X.calm=true) (hgl:Gl X "range") (hm:X.mg "range" = none) (ha:QA X [a,b] ts) (hg:QG X tg g) (hb:nS X body t)
  (hst:starEach [a,b] X.env=[(false,eval a X.env),(false,eval b X.env)]:=by rfl) (hst2:starEach [b] X.env=[(false,eval b X.env)]:=by rfl) (hs:∀x,foldedSetIterable (.Call (.Name "range" p) [a,b] [] pos2) X.env x=pure x:=by intro _;rfl) :
  QS X (.For tg (.Call (.Name "range" p) [a,b] [] pos2) body [] pos) (ib C4 ts g t):=by
 refine⟨?_⟩
 intro B σ F H env D rp h
 refine eB (pA hp hc (zf hgl hm i9 hst hst2) vC eI hs) ?_
 refine ck (ha B σ F H env _ rp h) fun vs H1 hq0=>?_
 obtain⟨F1,ds,r1,s1,d1,q1⟩:=hq0
 (try dsimp only at q1);unfold C4 at q1
 split at q1
 ·simp only [aq,Den] at d1
  obtain⟨v,r,rfl,rfl,v',r',rfl,rfl,rfl⟩:=d1
  exact⟨_,_,rfl,q1.1,v9 hg hb r1 q1.2⟩
 ·exact q1.elim
def RF (X:Cx) (B:Base) (σ:St) (env:En) (F:Hp) (Q:List D→Prop):VK:=fun v H'=>∃F' H1 p vs ds,v=.ref p∧H1 p=none∧H'=upd H1 p (.lst vs)∧Rep X.K B F' H1 σ env∧ar F F'∧aq X.K F' ds vs∧Q ds
structure QF (X:Cx) (e:Expr) (t:fF):Prop where
 of ::
 run:∀(B:Base) (σ:St) (F H:Hp) (env:En) (Q:List D→Prop),Rep X.K B F H σ env→t env Q→wE X e σ H (RF X B σ env F Q)
instance {X:Cx} {e:Expr} {t:fF}:CoeFun (QF X e t) (fun _=>∀(B:Base) (σ:St) (F H:Hp) (env:En) (Q:List D→Prop),Rep X.K B F H σ env→t env Q→wE X e σ H (RF X B σ env F Q)):=⟨QF.run⟩
def kE (ts:fF):fF:=fun env Q=>ts env fun xs=>xs.length≤sizeLine∧Q xs
theorem jK (h:QA X es ts):QF X (.List es pos) (kE ts):=by
 refine⟨?_⟩
 intro B σ F H env Q rp hq
 refine bY (sv i9) ?_
 exact ck (h B σ F H env _ rp hq) fun vs H1 ⟨F1,ds,r1,s1,d1,z,q1⟩=>⟨by rw [← d1.length];exact z,fun p hp=>⟨F1,H1,p,vs,ds,rfl,hp,rfl,r1,s1,d1,q1⟩⟩
def bF (i:Nat) (ts:fF):bH:=fun D env=>ts env fun xs=>D.nx (env.set i (some (.own xs)))
theorem cz {x:Str} {pos':Pos} (i:Nat) (hN:X.N.Nodup) (he:QF X e ts) (hi:X.N[i]?=some x:=by rfl) (hx:Loc X.env.scope x:=by first | exact Or.inl rfl | exact Or.inr rfl) (hs:swapsWith e (some (.Name x pos')) pos.line X.env=pure false:=by rfl)
  (hf:X.fn x=true∨X.env.scope.names.lookup x=some .local:=by first | exact .inl rfl | exact .inr rfl):QS X (.Assign [.Name x pos'] e pos) (bF i ts):=by
 refine⟨?_⟩
 intro B σ F H env D rp h pins s I
 refine p5 (i:=i) hN hi hx bR hs hf pins s σ H _ I ?_
 refine aL (he B σ F H env _ rp h) fun v H' hq0=>?_
 obtain⟨F1,H1,p,vs,ds,e1,hp,e2,r1,s1,d1,q1⟩:=hq0
 subst e1 e2
 refine⟨F1,_,r1.B8 hp d1 ?_,q1⟩
 rw [I.len];exact (KL.mp hi).1
def cP (i:Nat) (te:TD):bH:=fun D env=>∃xs,env[i]?=some (some (.own xs))∧xs.length < sizeLine∧te env fun x=>D.nx (env.set i (some (.own (xs ++ [x]))))
theorem fb {x:Str} {px apos cpos:Pos} (i:Nat) (he:QE X e ta) (hN:X.N[i]?=some x:=by rfl) (hv:rf X.env.scope x:=by first | exact Or.inl rfl | exact Or.inr (Or.inl rfl) | exact Or.inr (Or.inr rfl)) (hd:(x == ("__debug__" : Str))=false:=by decide) (hcd:(x == ("__classdict__" : Str))=false:=by decide)
  (hbase:attributeBase (.Name x px) "append" X.env (eval (.Name x px) X.env)=eval (.Name x px) X.env:=by rfl)
  (hfew:((backTo cpos (starEach [e] X.env)).all (fun x=>!x.1) && (backToKw cpos (keywordEach [] X.env)).all (fun x=>x.1.isSome)
   && decide (([e]:List Expr).length + ([]:List Keyword).length + (if ([]:List Keyword).isEmpty then 0 else 1) < 30))=true:=by rfl)
  (hline:(apos.endLine == cpos.line)=true:=by rfl) (hst:starEach [e] X.env=(false,eval e X.env) :: starEach [] X.env:=by exact a6 rfl) (hplain:(backTo cpos (starEach ([]:List Expr) X.env)).any (·.1)=false:=by rfl)
  (hs:swapsWith (.Call (.Attribute (.Name x px) "append" apos) [e] [] cpos) none pos.line X.env=pure false:=by rfl) :
  QS X (.Expr (.Call (.Attribute (.Name x px) "append" apos) [e] [] cpos) pos) (cP i ta):=by
 refine⟨?_⟩
 intro B σ F H env D rp h
 refine eB (oo (rg PySem.F.plainAttrs_list PySem.F.slot_list_append PySem.F.type_list_append rL (cL hN hv hd hcd) (fT bR gU hst) hbase hfew hline hst hplain) hs) ?_
 obtain⟨xs,hx,hl,h⟩:=h
 obtain⟨p,vs,h1,h2,h3,h4,h5⟩:=rp.ov i xs hx
 refine⟨.ref p,h1,.inl ⟨rfl,vs,d9.of h2⟩,?_⟩
 refine aL (he B σ F H env _ rp h) fun y H1 hq0=>?_
 obtain⟨F1,d,r1,s1,d1,q1⟩:=hq0
 obtain⟨p',vs',g1,g2,g3,g4,g5⟩:=r1.ov i xs hx
 rw [h1] at g1;cases g1
 exact⟨p,vs',y,rfl,rfl,g2,by rw [← g5.length];exact hl,F1,_,r1.change hx h1 (g5.append (aX d1 aW)),q1⟩
end
end L2.L3
namespace L2.L3
open PySem PySem.Spec PyProof.Rows
abbrev Fw:=List D→(D→Prop)→Prop
def C3 (K:PySem.W.Frag) (f:Fw):Sp:=fun vs H Q _=>∃(F:Hp) (ds:List D) (P:D→Prop),ar F H∧aq K F ds vs∧f ds P ∧
 ∀(d:D) (v:V) (F' H':Hp),ar F F'→ar H H'→ar F' H'→(∀p,H p≠none→F p=none→F' p=none)→Den K F' d v→P d→Q v H'
structure Known (P:Program) (w:World) (K:PySem.W.Frag) (mg:Str→Option Value) (base:Heap) (k:Nat) (x:Str) (f:Fw):Prop where
 ex:∃(fa:Addr) (fd:FuncData) (ps:List Str),mP P w K mg base r9 k fa fd ps (C3 K f)∧mg x=some (.ref fa)∧PySem.W.keepIn K (.ref fa)=true∧Binds K fd ps []
def aE (N:List Str) (ds:List D):En:=ds.map (fun d=>some (Lo.d d)) ++ List.replicate (N.length - ds.length) none
section
variable {X:Cx} {e:Expr} {es:List Expr} {ts:fF} {p pos:Pos} {x:Str} {k:Nat} {f:Fw}
theorem aQ (h:Known X.prog X.w X.K X.mg X.base k x f) (hr:dg k X.A) (ha:QA X (e :: es) ts) (hg:Gl X x:=by rfl) (hdb:(x == ("__debug__" : Str))=false:=by decide)
  (he:starEach (e :: es) X.env=(false,eval e X.env) :: starEach es X.env:=by exact a6 rfl) (hpl:(backTo pos (starEach es X.env)).any (·.1)=false:=by rfl):QE X (.Call (.Name x p) (e :: es) [] pos) (aB f ts):=by
 refine⟨?_⟩
 intro B σ F H env Q rp hq
 obtain⟨fa,fd,ps,G,hm,hk,hb⟩:=h.ex
 refine bY (yW G hr hg hm hk hb .nil As i9 hdb he hpl) ?_
 refine ck (ha B σ F H env _ rp hq) fun vs H1 hq0=>?_
 obtain⟨F1,ds,r1,s1,d1,hf⟩:=hq0
 rw [Lu]
 exact⟨F1,ds,Q,r1.fh,d1,hf,fun d v F' H' a b c n hd q=>⟨F',d,r1.ext a c b n,s1.trans a,hd,q⟩⟩
end
theorem gf {K:PySem.W.Frag} {F H:Hp} {N:List Str} {ds:List D} {vs:List V} (fh:ar F H) (hd:aq K F ds vs) :
  Rep K ⟨F,H,fun p=>H p≠none∧F p=none,fun _ h=>h.1⟩ F H (start N vs) (aE N ds):=by
 have noown:∀(i:Nat) ys,(aE N ds)[i]?=some (some (.own ys))→False:=fun i ys q=>by
  unfold aE at q
  by_cases hi:i < ds.length
  ·rw [Lb (by simpa using hi),KU] at q
   rw [KP hi] at q
   cases q
  ·rw [Lc (by simpa using hi),Lk] at q
   split at q <;> cases q
 have nodic:∀(i:Nat) ys,(aE N ds)[i]?=some (some (.dic ys))→False:=fun i ys q=>by
  unfold aE at q
  by_cases hi:i < ds.length
  ·rw [Lb (by simpa using hi),KU] at q
   rw [KP hi] at q
   cases q
  ·rw [Lc (by simpa using hi),Lk] at q
   split at q <;> cases q
 refine⟨ar.refl _,fh,ar.refl _,fun p h=>h.2,fun i x q=>?_,fun i ys q=>(noown i ys q).elim,fun i j xs ys p _ q=>(noown i xs q).elim,fun i ys q=>(nodic i ys q).elim,fun i j xs ys p _ q=>(nodic i xs q).elim⟩
 unfold aE at q
 by_cases hi:i < ds.length
 ·rw [Lb (by simpa using hi),KU] at q
  rw [KP hi] at q
  cases q
  obtain⟨v,h1,h2⟩:=hd.get (KP hi)
  refine⟨v,?_,h2⟩
  unfold start
  rw [Lb (by rw [KZ,← hd.length];exact hi),KU,h1]
  rfl
 ·rw [Lc (by simpa using hi),Lk] at q
  split at q <;> cases q
section
variable {P:Program} {w:World} {K:PySem.W.Frag} {mg:Str→Option Value} {base:Heap}
theorem og.DR {x qual:Str} {st:Stmt} {fa:Addr} {fd:FuncData} {N ps:List Str} {k:Nat} {f:Fw} (F:og K x qual st fa fd) (S:aD N ps (ak st))
  (hl:∀ds Q,f ds Q→ds.length=ps.length)
  (hbody:∀(cdv:Value) (A:Around) (outer:List Env) (s:Shared) (H:Hp) (E:XK),dg k (A.deeper (envOfC qual (ak st) s.heap.objs.size fa cdv)) →
   ∃t,nS (gw r9 P w K mg base N qual (ak st) fa cdv A outer s H E).oO (a9 st) t∧∀ds (Q:D→Prop),f ds Q→t { nx:=fun _=>Q .non,rt:=Q } (aE N ds)) :
  mP P w K mg base r9 (k + 1) fa fd ps (C3 K f):=by
 refine F.ok S (fun vs H Q E h=>?_) (fun cdv A outer s H vs Q E hr h=>?_)
 ·obtain⟨F0,ds,P,_,hd,hf,_⟩:=h
  rw [← hd.length];exact hl ds _ hf
 ·obtain⟨F0,ds,P,fh,hd,hf,kk⟩:=h
  obtain⟨t,ht,hq⟩:=hbody cdv A outer s H E hr
  refine⟨_,eI,?_⟩
  have core:=ht _ (start N vs) F0 H (aE N ds) _ (gf fh hd) (hq ds P hf)
  refine gj core (fun σ' H' ⟨F',env',r,q⟩=>?_) (fun v H' ⟨F',d',r,dd,q⟩=>?_) (fun _ _ ⟨_,_,_,q⟩=>q) (fun _ _ ⟨_,_,_,q⟩=>q)
  ·exact kk .non .non F' H' r.f0 r.h0 r.fh (fun p h1 h2=>r.nf p ⟨h1,h2⟩) jR q
  ·exact kk d' v F' H' r.f0 r.h0 r.fh (fun p h1 h2=>r.nf p ⟨h1,h2⟩) dd q
theorem og.known {x qual:Str} {st:Stmt} {fa:Addr} {fd:FuncData} {N ps:List Str} {k:Nat} {f:Fw} (F:og K x qual st fa fd) (S:aD N ps (ak st)) (hmg:mg x=some (.ref fa)) (hb:Binds K fd ps [])
  (hl:∀ds Q,f ds Q→ds.length=ps.length)
  (hbody:∀(cdv:Value) (A:Around) (outer:List Env) (s:Shared) (H:Hp) (E:XK),dg k (A.deeper (envOfC qual (ak st) s.heap.objs.size fa cdv)) →
   ∃t,nS (gw r9 P w K mg base N qual (ak st) fa cdv A outer s H E).oO (a9 st) t∧∀ds (Q:D→Prop),f ds Q→t { nx:=fun _=>Q .non,rt:=Q } (aE N ds)) :
  Known P w K mg base (k + 1) x f:=⟨fa,fd,ps,og.DR F S hl hbody,hmg,F.kp,hb⟩
def zI (n:Nat):Fw:=fun ds Q=>∃ns:List Int,ds=[.lst (ns.map D.int)]∧ns.length≤n∧Q (.bl true)
theorem FI {K:PySem.W.Frag} {H:Hp} {a:Addr} {ns:List Int} {n:Nat} (hl:ns.length≤n) (hS:d9 K H a (ns.map V.int)):C3 K (zI n) [.ref a] H (fun v _=>v=.bl true) fun _ _ _=>False:=by
 refine⟨H,[.lst (ns.map D.int)],fun d=>d=.bl true,ar.refl _,aX (fe hS (nC ns)) aW,⟨ns,rfl,hl,rfl⟩,fun d v F' H' _ _ _ _ hd q=>?_⟩
 subst q
 simpa only [Den] using hd
end
section
variable {X:Cx} {a b c e:Expr} {es:List Expr} {ta tb tc:TD} {ts:fF} {pos:Pos} {st:Stmt} {sts:List Stmt} {t u:bH}
def cv (i:Nat) (t:bH):bH:=fun D env=>∃xs,env[i]?=some (some (.own xs))∧t D (env.set i (some (.d (.lst xs))))
theorem cY (i:Nat) (h:QS X st t):QS X st (cv i t):=by
 refine⟨?_⟩
 intro B σ F H env D rp hq
 obtain⟨xs,hx,q⟩:=hq
 obtain⟨F',s',r'⟩:=rp.freeze hx
 exact h B σ F' H _ D r' q
def cF (i:Nat) (tj:TD):TD:=fun env Q=>∃xs,env[i]?=some (some (.own xs))∧tj env fun y=>∃j v,y=.int j∧kn xs j=some v∧Q v
theorem dB {x:Str} {px:Pos} (i:Nat) (hb:QE X b tb) (hs:sO b) (hN:X.N[i]?=some x:=by rfl) (hv:rf X.env.scope x:=by first | exact Or.inl rfl | exact Or.inr (Or.inl rfl) | exact Or.inr (Or.inr rfl)) (hd:(x == ("__debug__" : Str))=false:=by decide)
  (hcd:(x == ("__classdict__" : Str))=false:=by decide):QE X (.Subscript (.Name x px) b pos) (cF i tb):=by
 refine⟨?_⟩
 intro B σ F H env Q rp h
 refine bY (EB xX (cL hN hv hd hcd) bR hs) ?_
 obtain⟨xs,hx,h⟩:=h
 obtain⟨p,vs,h1,h2,h3,h4,h5⟩:=rp.ov i xs hx
 refine⟨.ref p,h1,?_⟩
 refine aL (hb B σ F H env _ rp h) fun y H1 hq0=>?_
 obtain⟨F1,d,r1,s1,d1,j,v,hj,hv,q1⟩:=hq0
 subst hj
 simp only [Den] at d1
 obtain⟨p',vs',g1,g2,g3,g4,g5⟩:=r1.ov i xs hx
 rw [h1] at g1;cases g1
 obtain⟨w,hw,dw⟩:=g5.kn hv
 exact⟨p,vs',j,w,rfl,d1,d9.of g2,hw,F1,v,r1,s1,dw,q1⟩
def qy (i:Nat) (tj te:TD):bH:=fun D env=>te env fun x=>∃xs,env[i]?=some (some (.own xs))∧tj env fun y=>∃(j:Int) (k:Nat),y=.int j∧ux xs.length j=some k∧D.nx (env.set i (some (.own (xs.set k x))))
theorem wu {x:Str} {px p2:Pos} (i:Nat) (hb:QE X b tb) (he:QE X e ta) (hN:X.N[i]?=some x:=by rfl) (hv:rf X.env.scope x:=by first | exact Or.inl rfl | exact Or.inr (Or.inl rfl) | exact Or.inr (Or.inr rfl)) (hd:(x == ("__debug__" : Str))=false:=by decide)
  (hcd:(x == ("__classdict__" : Str))=false:=by decide) (hs:swapsWithSole [.Subscript (.Name x px) b p2] e pos.line X.env=pure false:=by rfl) (hw:swappedStores [.Subscript (.Name x px) b p2] e X.env=pure none:=by rfl)
  (h1:(assignEach [.Subscript (.Name x px) b p2] X.env).map (·.2)=[assign (.Subscript (.Name x px) b p2) X.env]:=by rfl)
  (ha:∀v,assign (.Subscript (.Name x px) b p2) X.env v=(do
   let ov ← holding [v] (eval (.Name x px) X.env)
   let iv ← holding [v,ov] (eval b X.env)
   standAt p2
   holding [v,ov,iv] (setItem ov iv v)
   release [v,ov,iv] []):=by intro _;rfl):QS X (.Assign [.Subscript (.Name x px) b p2] e pos) (qy i tb ta):=by
 refine⟨?_⟩
 intro B σ F H env D rp h
 refine eB (wJ bR (G8 (cL hN hv hd hcd) bR set_list ha) hs hw h1) ?_
 refine aL (he B σ F H env _ rp h) fun y H1 hq0=>?_
 obtain⟨F1,d,r1,s1,d1,xs,hx,q1⟩:=hq0
 obtain⟨p,vs,g1,g2,g3,g4,g5⟩:=r1.ov i xs hx
 refine⟨.ref p,g1,?_⟩
 refine aL (hb B σ F1 H1 env _ r1 q1) fun z H2 hq0=>?_
 obtain⟨F2,d2,r2,s2,dd2,j,k,hj,hk,q2⟩:=hq0
 subst hj
 simp only [Den] at dd2
 obtain⟨p',vs',e1,e2,e3,e4,e5⟩:=r2.ov i xs hx
 rw [g1] at e1;cases e1
 exact⟨p,vs',j,k,rfl,dd2,e2,by rw [← e5.length];exact hk,F2,_,r2.change hx g1 (e5.set (Den.mono s2 _ _ d1) k),q2⟩
end
end L2.L3
namespace L2.L3
open PySem PySem.Spec PyProof.Rows
def hZ (names:List (Str×NameKind)) (cells:List (Str×Addr)) (acc:List (Str×Addr)):List (Str×Addr):=match names with
 | []=>acc
 | (n,k) :: r=>if k=.free then (match cells.lookup n with | some c=>hZ r cells ((n,c) :: acc) | none=>hZ r cells acc) else hZ r cells acc
theorem fJ {env:Env}:∀(names:List (Str×NameKind)) (acc:List (Str×Addr)),(∀y∈names,y.2=.free→∃c,env.cells.lookup y.1=some c) →
  (forIn names acc fun (x:Str×NameKind) r=>if (x.2 == NameKind.free)=true then (do let a ← cellOf env x.1;pure (ForInStep.yield ((x.1,a) :: r))) else pure (ForInStep.yield r):Sem (List (Str×Addr)))=pure (hZ names env.cells acc)
 | [],acc,_=>rfl
 | (n,k) :: r,acc,h=>by
  rw [List.forIn_cons]
  by_cases hk:k=.free
  ·subst hk
   obtain⟨c,hc⟩:=h (n,.free) K9 rfl
   have hc':env.cells.lookup n=some c:=hc
   have ih:=fJ r ((n,c) :: acc) fun y hy=>h y (K4 _ hy)
   simp only [beq_self_eq_true,if_true,cellOf,hc',hZ]
   exact ih
  ·have ih:=fJ r acc fun y hy=>h y (K4 _ hy)
   have hb:(k == NameKind.free)=false:=by simpa using hk
   simp only [hb,KR,if_false,hZ,KQ hk]
   exact ih
theorem qx {scope:Scope} {env:Env} (h:∀y∈scope.names,y.2=.free→∃c,env.cells.lookup y.1=some c):closureFor scope env=pure (hZ scope.names env.cells []):=by
 have e:=fJ (env:=env) scope.names [] h
 have e2:closureFor scope env=((forIn scope.names ([]:List (Str×Addr)) fun (x:Str×NameKind) r=>if (x.2 == NameKind.free)=true then (do let a ← cellOf env x.1;pure (ForInStep.yield ((x.1,a) :: r))) else pure (ForInStep.yield r)) >>= fun cs=>pure cs):=rfl
 rw [e2,e];rfl
theorem jq {cells:List (Str×Addr)}:∀(names:List (Str×NameKind)) (acc:List (Str×Addr)),(∀x c,acc.lookup x=some c→cells.lookup x=some c)→∀x c,(hZ names cells acc).lookup x=some c→cells.lookup x=some c
 | [],acc,h,x,c,q=>h x c q
 | (n,k) :: r,acc,h,x,c,q=>by
  unfold hZ at q
  split at q
  ·split at q
   ·rename_i c' e
    refine jq r _ (fun y d w=>?_) x c q
    rw [List.lookup_cons] at w
    split at w
    ·rename_i z
     have:y=n:=by simpa using z
     subst this
     cases w;exact e
    ·exact h y d w
   ·exact jq r _ h x c q
  ·exact jq r _ h x c q
theorem lS {cells:List (Str×Addr)}:∀(names:List (Str×NameKind)) (acc:List (Str×Addr)) (x:Str),(acc.lookup x).isSome=true→((hZ names cells acc).lookup x).isSome=true
 | [],acc,x,q=>q
 | (n,k) :: r,acc,x,q=>by
  unfold hZ
  split
  ·split
   ·refine lS r _ x ?_
    rw [List.lookup_cons]
    split
    ·rfl
    ·exact q
   ·exact lS r _ x q
  ·exact lS r _ x q
theorem lF {cells:List (Str×Addr)}:∀(names:List (Str×NameKind)) (acc:List (Str×Addr)) (x:Str),(x,NameKind.free)∈names→(cells.lookup x).isSome=true→((hZ names cells acc).lookup x).isSome=true
 | [],acc,x,h,_=>by simp at h
 | (n,k) :: r,acc,x,h,q=>by
  rcases Ld.mp h with e | h
  ·cases e
   unfold hZ
   rw [KS rfl]
   split
   ·exact lS r _ _ (by rw [List.lookup_cons];simp)
   ·rename_i e;rw [e] at q;cases q
  ·unfold hZ
   split
   ·split <;> exact lF r _ x h q
   ·exact lF r _ x h q
def b8 (X:Cx) (N':List Str) (scope:Scope) (C:Addr) (s:Shared) (H:Hp) (fp:List Addr) (pins:List (Addr×Obj)):Cx :=
 { X with N:=N',s₀:=s,H₀:=H,env:=compEnvC scope (hZ scope.names X.env.cells []) C X.env,outer:=X.stack,stack:=X.stack,ex:=fp,fn:=fun _=>false,pn:=X.pn ++ pins,xe:=fun _ _=>False }
structure cN (X:Cx) (N':List Str) (nt:Nat) (ix:List Nat) (scope:Scope):Prop where
 kind:scope.kind=.function
 nocell:∀x∈scope.names,x.2≠.cell
 names:∀x∈scope.names,x.2=.local→scope.names.lookup x.1=some .local
 free:∀x∈scope.names,x.2=.free→X.env.scope.names.lookup x.1=some .cell
 caps:∀(j:Nat) (i:Nat),ix[j]?=some i→∃x,N'[nt + j]?=some x∧X.N[i]?=some x∧(x,NameKind.free)∈scope.names∧(relabel scope X.env).names.lookup x=some .cell
 len:N'.length=nt + ix.length
section
variable {prog:Program} {w:World} {A:Around} {R:Result→Shared→Prop} {s:Shared}
theorem tX {elt target iter:Expr} {ifs:List Expr} {scope:Scope} {pos:Pos} {it acc:Value} {env:Env} (I:Nat→Shared→Prop)
  (turn:∀n s,I n s→wpAny (model prog w) A (pyNext it) (fun r s₁=>match r with
   | none=>R (.ok .next) s₁
   | some v=>wpAny (model prog w) A (letOwnedTupleGo target it v) (fun _ s₁'=>wpAny (model prog w) A (assign target env v) (fun _ s₂ =>
     wpAny (model prog w) A (forIn ifs true fun c r=>if r=true then do let ok ← isTrue c env (eval c env);pure (ForInStep.yield ok) else pure (ForInStep.yield r)) (fun ok s₃ =>
      if ok=true then wpAny (model prog w) A (eval elt env) (fun x s₄ =>
       wpAny (model prog w) A (call (.builtin "list.append") [acc,x]) (fun _ s₅=>∃m,m < n∧I m s₅) (fun _ _=>False) s₄) (fun _ _=>False) s₃
      else ∃m,m < n∧I m s₃) (fun _ _=>False) s₂) (fun _ _=>False) s₁') (fun _ _=>False) s₁) (fun _ _=>False) s)
  (n:Nat) (h:I n s) :
  codeAny (model prog w) A (.compLoop (.ListComp elt [⟨target,iter,ifs,0⟩] scope pos) 0 it acc env) R s:=by
 refine codeAny_loop rfl I (fun n s hI=>?_) n h
 show wpAny _ A ((compTurn (.ListComp elt [⟨target,iter,ifs,0⟩] scope pos) 0 it acc env).onRaise (fun x=>do noteFrame x env;theTreesLotGoes x)) _ _ s
 refine wpAny_noted ?_
 rw [compTurn_list]
 refine KJ (wpAny_standAt (KJ (Li (turn n s hI) (fun r s₁ h₁=>?_) fun _ _ h'=>h'.elim)))
 cases r with
 | none=>exact KO h₁
 | some v =>
  refine KJ (Li h₁ (fun _ s₁' h₁'=>?_) fun _ _ h'=>h'.elim)
  refine KJ (Li h₁' (fun _ s₂ h₂=>KJ (Li h₂ (fun ok s₃ h₃=>?_) fun _ _ h'=>h'.elim)) fun _ _ h'=>h'.elim)
  cases ok with
  | false=>exact KO ⟨rfl,h₃⟩
  | true =>
   exact KJ (KJ (Li h₃ (fun x s₄ h₄=>KJ (Li h₄ (fun _ s₅ h₅=>KO (KO ⟨rfl,h₅⟩)) fun _ _ h'=>h'.elim)) fun _ _ h'=>h'.elim))
end
def uO (nt:Nat) (ix:List Nat) (σ:St):St:=List.replicate nt none ++ ix.map fun i=>(σ[i]?).join
theorem lookup_mem {α β:Type} [BEq α] [LawfulBEq α] {l:List (α×β)} {x:α} {y:β} (h:l.lookup x=some y):(x,y)∈l:=by
 induction l with
 | nil=>simp at h
 | cons p r ih =>
  obtain⟨a,b⟩:=p
  rw [List.lookup_cons] at h
  split at h
  ·rename_i e
   have:x=a:=by simpa using e
   subst this;cases h;exact K9
  ·exact K4 _ (ih h)
section
variable {X:Cx} {pins:List (Addr×Obj)} {σ:St} {H:Hp} {s:Shared} {N':List Str} {nt:Nat} {ix:List Nat} {scope:Scope}
theorem nG {x:Str} {k:NameKind} (h:(x,k)∈(relabel scope X.env).names):(x,k)∈scope.names∨((x,NameKind.free)∈scope.names∧k=.cell):=by
 unfold relabel at h
 obtain⟨⟨n,k'⟩,hm,e⟩:=Ls.mp h
 dsimp only at e
 split at e
 ·rename_i hc
  cases e
  simp only [Bool.and_eq_true,beq_iff_eq] at hc
  exact .inr ⟨by rw [← hc.1.1];exact hm,rfl⟩
 ·cases e;exact .inl hm
theorem wU (I:Inv X pins σ H s) (O:cN X N' nt ix scope) {fp:List Addr} (hf:∀b∈fp,nc X pins H b) (hlt:∀b∈fp,b < s.heap.objs.size) {h1:Heap} {tk:Nat}
  (hns:h1.Ns s.heap.objs.size (fun _=>none)) (hsb:∀b o,s.heap.get? b=some o→h1.get? b=some o) :
  Inv (b8 X N' scope s.heap.objs.size s H fp pins) [] (uO nt ix σ) H { s with heap:=h1,toks:=tk }:=by
 have cellsAt:∀x c,(hZ scope.names X.env.cells []).lookup x=some c→X.env.cells.lookup x=some c:=fun x c q=>jq scope.names [] (fun y d w=>by simp at w) x c q
 have clt:∀x c,X.env.cells.lookup x=some c→c < s.heap.objs.size:=fun x c e=>let ⟨_,q⟩:=I.cell x c e;q.lt
 refine⟨⟨I.ok.mod,O.kind,I.ok.glob,I.ok.blt,K0 _,fun x y c h1 h2=>I.ok.inj x y c (cellsAt _ _ h1) (cellsAt _ _ h2),fun x hx=>?_,fun x c h=>(by cases h),I.ok.hd,I.ok.frames,.inl rfl,fun b hb=>⟨Lj (hlt b hb),fun x c e=>(hf b hb).2.2.2.2.1 x c (cellsAt _ _ e)⟩,I.bs,
   LA I.ok.bsz I.sz,fun b o e hb=>?_,fun b hb z=>?_,I.stack,I.t5⟩,
  rfl,I.bare,Un.kept hsb,⟨_,hns,fun j x v e1 e2 e3=>?_⟩,fun x c e=>?_,I.hok.fresh (K0 _),fun x c e=>I.freeC x c (cellsAt _ _ e),fun p hp=>?_,I.hok.kept hsb,?_⟩
 ·
  have hx':((relabel scope X.env).names.lookup x=some .cell∨(relabel scope X.env).names.lookup x=some .free):=hx
  have key:(x,NameKind.free)∈scope.names:=by
   rcases hx' with h | h
   ·rcases nG (lookup_mem h) with q | q
    ·exact absurd rfl (O.nocell _ q)
    ·exact q.1
   ·rcases nG (lookup_mem h) with q | q
    ·exact q
    ·exact q.1
  obtain⟨c,hc⟩:=I.ok.has x (.inl (O.free _ key rfl))
  exact Option.isSome_iff_exists.mp (lF scope.names [] x key (by rw [hc];rfl))
 ·rcases (hf b hb).2.2.2.1 with z | z
  ·exact I.ok.noex b o e z
  ·exact absurd (K2 (K8 (I.ok.bs b o e).1) z) (Nat.lt_irrefl _)
 ·rcases Ld.mp (I.pJ b z) with e | e
  ·exact (hf b hb).2.1 e
  ·exact (hf b hb).2.2.1 e
 ·
  unfold uO at e2
  by_cases hj:j < nt
  ·rw [Lb (by simpa using hj),Lk] at e2
   split at e2 <;> cases e2
  ·rw [Lc (by simpa using hj),KU,List.length_replicate] at e2
   cases hi:ix[j - nt]? with
   | none=>rw [hi] at e2;cases e2
   | some i =>
    rw [hi] at e2
    have hs:σ[i]?=some (some v):=by
     simp only [Option.map_some,Option.some.injEq] at e2
     cases q:σ[i]? with
     | none=>rw [q] at e2;cases e2
     | some o=>rw [q] at e2;simp only [Option.join] at e2;rw [show o=some v from e2]
    obtain⟨y,n1,n2,n3,n4⟩:=O.caps (j - nt) i hi
    have hjj:nt + (j - nt)=j:=by omega
    rw [hjj] at n1
    have e1':N'[j]?=some x:=e1
    rw [n1] at e1';cases e1'
    obtain⟨m,hn,hl⟩:=I.loc
    have hk:X.env.scope.names.lookup x=some .cell:=O.free _ n3 rfl
    obtain⟨u,r,l⟩:=hl i x v n2 hs (.inr (.inl hk))
    refine⟨u,r,?_⟩
    rcases l with ⟨k,_⟩ | ⟨_,c,ec,z⟩
    ·have k':X.env.scope.names.lookup x=some .local:=k
     rw [hk] at k';cases k'
    ·have hc2:=Option.isSome_iff_exists.mp (lF (cells:=X.env.cells) scope.names [] x n3 (by rw [ec];rfl))
     obtain⟨c2,hc2⟩:=hc2
     have:=cellsAt x c2 hc2
     rw [ec] at this;cases this
     exact .inr ⟨.inl n4,c,hc2,z.keeps hsb⟩
 ·obtain⟨v,z⟩:=I.cell x c (cellsAt _ _ e)
  exact⟨v,z.keeps hsb⟩
 ·rw [Lu] at hp
  obtain⟨e,n,ne,nf,d⟩:=I.pin p hp
  refine⟨hsb _ _ e,n,Lj (K8 e),fun z=>?_,d⟩
  rcases Ld.mp (I.pJ p.1 z) with q | q
  ·exact ne q
  ·exact nf q
 ·unfold uO
  show _=N'.length
  rw [O.len,Lh,List.length_replicate,KZ]
theorem A8 (I:Inv X pins σ H s) {fp:List Addr} (hf:∀b∈fp,nc X pins H b) {σ':St} {H':Hp} {s':Shared} (J:Inv (b8 X N' scope s.heap.objs.size s H fp pins) [] σ' H' s') {h':Heap} (hs:Heap.SameBut s.heap.objs.size s'.heap h') :
  Inv X pins σ H' { s' with heap:=h' }:=by
 have ne:∀b o,s.heap.get? b=some o→b≠s.heap.objs.size:=fun b o e=>Lj (K8 e)
 have jb:=J.base
 refine I.A2 (ch:=fp) J.os ⟨fun b o e n h1 h2=>(hs.2 b (ne b o e)).trans (jb.keep b o e n h1 h2),fun b o e n h1 h2=>?_,jb.free,fun b o e h2=>?_,jb.tups,jb.frzs,jb.tbls⟩ (fun b o e=>?_) J.bare fun b hb=>?_
 ·obtain⟨sl,q⟩:=jb.slot b o e n h1 h2
  exact⟨sl,(hs.2 b (ne b o e)).trans q⟩
 ·obtain⟨o',q⟩:=jb.there b o e h2
  exact⟨o',(hs.2 b (ne b o e)).trans q⟩
 ·have jf:H' s.heap.objs.size=none:=J.free
  refine (J.hok b o e).oS (fun c u hc q=>(hs.2 c ?_).trans q) (fun _ q=>q) fun _ _ q=>q
  intro z
  subst z
  rcases hc with z | z
  ·rw [← z,jf] at e;cases e
  ·rw [jf] at z;cases z
 ·obtain⟨f0,f1,f2,f3,f4,f5⟩:=hf b hb
  exact⟨f3,f1,f4,f5⟩
end
end L2.L3
namespace L2.L3
open PySem PySem.Spec PyProof.Rows
def Ac (X:Cx) (ifs:List Expr):TT:=fun σ H Q=>∀(pins:List (Addr×Obj)) (s:Shared),Inv X pins σ H s →
 wpAny (model X.prog X.w) X.A (forIn ifs true fun c r=>if r=true then do let ok ← isTrue c X.env (eval c X.env);pure (ForInStep.yield ok) else pure (ForInStep.yield r)) (TP X pins σ Q) (fun _ _=>False) s
def Ep (X:Cx) (N':List Str) (nt:Nat) (ix:List Nat) (scope:Scope) (elt target:Expr) (ifs:List Expr) (wi:TI):TE:=fun σ H Q=>wi σ H fun J H1=>∀(a C:Addr) (s:Shared) (fp:List Addr) (pins:List (Addr×Obj)),H1 a=none →
 ∃W:Nat→Nat→St→Hp→Prop,(∃m,W 0 m (uO nt ix σ) (upd H1 a (.lst [])))∧∀i m σ' H',W i m σ' H'→(J.stop i H'∧Q (.ref a) H')∨(J.go i H'∧∀x H2,J.yld i H' x H2 →
  wG (b8 X N' scope C s (upd H1 a (.lst [])) fp pins) target x σ' H2 fun σ2 H3=>Ac (b8 X N' scope C s (upd H1 a (.lst [])) fp pins) ifs σ2 H3 fun ok H4=>if ok=true then
   wE (b8 X N' scope C s (upd H1 a (.lst [])) fp pins) elt σ2 H4 fun y H5=>∃ys,H5 a=some (.lst ys)∧ys.length < sizeLine∧∃m',m' < m∧W (i + 1) m' σ2 (upd H5 a (.lst (ys ++ [y])))
   else ∃m',m' < m∧W (i + 1) m' σ2 H4)
section
variable {X:Cx} {N':List Str} {nt:Nat} {ix:List Nat} {scope:Scope}
theorem cN.HW {pins:List (Addr×Obj)} {σ:St} {H:Hp} {s:Shared} (O:cN X N' nt ix scope) (I:Inv X pins σ H s):closureFor scope X.env=pure (hZ scope.names X.env.cells []) :=
 qx fun y hy hk=>I.ok.has y.1 (.inl (O.free y hy hk))
theorem uA {elt target iter:Expr} {ifs:List Expr} {pos:Pos} {pins:List (Addr×Obj)} {σ:St} {s2:Shared} {Q:VK} {R:It→Hp→Prop} {itv:Value} {RR:Value→Addr→Result→Shared→Prop} (hc:X.calm=true) (O:cN X N' nt ix scope)
  (h2:Jh X pins σ target R itv s2)
  (hR:∀J H1,R J H1→∀(a C:Addr) (s:Shared) (fp:List Addr) (pins:List (Addr×Obj)),H1 a=none →
   ∃W:Nat→Nat→St→Hp→Prop,(∃m,W 0 m (uO nt ix σ) (upd H1 a (.lst [])))∧∀i m σ' H',W i m σ' H'→(J.stop i H'∧Q (.ref a) H')∨(J.go i H'∧∀x H2,J.yld i H' x H2 →
    wG (b8 X N' scope C s (upd H1 a (.lst [])) fp pins) target x σ' H2 fun σ2 H3=>Ac (b8 X N' scope C s (upd H1 a (.lst [])) fp pins) ifs σ2 H3 fun ok H4=>if ok=true then
     wE (b8 X N' scope C s (upd H1 a (.lst [])) fp pins) elt σ2 H4 fun y H5=>∃ys,H5 a=some (.lst ys)∧ys.length < sizeLine∧∃m',m' < m∧W (i + 1) m' σ2 (upd H5 a (.lst (ys ++ [y])))
     else ∃m',m' < m∧W (i + 1) m' σ2 H4))
  (hRR:∀(a C:Addr) (H':Hp) (s6:Shared) (m:Str→Option Value),Q (.ref a) H'→s6.heap.Ns C m→H' C=none→C≠X.env.locals→X.s₀.heap.objs.size≤C→(∀x c,X.env.cells.lookup x=some c→c≠C)→(∀p∈X.pn ++ pins,p.1≠C) →
   (∀h',Heap.SameBut C s6.heap h'→Inv X pins σ H' { s6 with heap:=h' })→RR (.ref a) C (.ok .next) s6) :
  wpAny (model X.prog X.w) X.A (newList []) (fun acc s3=>wpAny (model X.prog X.w) X.A (newFunctionEnv scope X.env.globals (hZ scope.names X.env.cells []) [] X.env.qual none .none (some X.env)) (fun cenv s4 =>
   codeAny (model X.prog X.w) X.A (.compStart (.ListComp elt [⟨target,iter,ifs,0⟩] scope pos) 0 itv acc { cenv with scope:=relabel scope X.env }) (RR acc cenv.locals) s4) X.xe s3) X.xe s2:=by
 obtain⟨it,fp,tn,J,H2,e,I2,T,st2,f2,hq0⟩:=h2
 have hq:=hR J H2 hq0
 subst e
 have hlt2:∀b∈fp,b < s2.heap.objs.size:=fun b hb=>let ⟨o,e,_⟩:=T.obj _ _ st2 b hb;K8 e
 refine wpAny_newObj_type ?_
 generalize hs3:({ s2 with heap:=s2.heap.push { cls:=.type "list",dict:=none,data:=.seq ([]:List Value).toArray } }:Shared)=s3
 have k3:∀b o,s2.heap.get? b=some o→s3.heap.get? b=some o:=fun b o e=>by rw [← hs3];exact KY _ e
 have ha:H2 s2.heap.objs.size=none:=I2.hok.fresh (K0 _)
 have I3:Inv X pins σ (upd H2 s2.heap.objs.size (.lst [])) s3:=by
  rw [← hs3]
  exact I2.laid (t':=s2.toks) (fun b u e=>KY _ e) (K0 _) ⟨Lp _,[],0,.nil,La _ rfl⟩
 have f3:∀b∈fp,nc X pins (upd H2 s2.heap.objs.size (.lst [])) b:=fun b hb=>⟨by rw [aH (Lj (hlt2 b hb))];exact (f2 b hb).1,(f2 b hb).2⟩
 have st3:tn 0 s3.heap:=T.keep _ _ _ st2 fun b hb o e=>k3 b o e
 have hlt3:∀b∈fp,b < s3.heap.objs.size:=fun b hb=>let ⟨o,e,_⟩:=T.obj _ _ st3 b hb;K8 e
 refine wpAny_newFunctionEnv O.nocell (by intro y hy;simp at hy) (fun h1 hns hsb=>?_) O.kind
 have k4:∀b o,s3.heap.get? b=some o→h1.get? b=some o:=fun b o e=>(hsb.2 b (Lj (K8 e))).trans (KY _ e)
 have I4:=wU (tk:=s3.toks + ([]:List (Str×Value)).length) I3 O f3 hlt3 hns k4
 have st4:tn 0 h1:=T.keep _ _ _ st3 fun b hb o e=>k4 b o e
 obtain⟨W,⟨m0,w0⟩,turn⟩:=hq s2.heap.objs.size s3.heap.objs.size s3 fp pins ha
 have fr3:∀b∈fp,(upd H2 s2.heap.objs.size (.lst [])) b=none:=fun b hb=>(f3 b hb).1
 have stat:∀{H':Hp},(∀b∈fp,H' b=none)→∀b∈fp,nc (b8 X N' scope s3.heap.objs.size s3 (upd H2 s2.heap.objs.size (.lst [])) fp pins) [] H' b:=fun {H'} hn b hb=>by
  refine⟨hn b hb,Lj (hlt3 b hb),fun z=>?_,.inl hb,fun x c e=>(f3 b hb).2.2.2.2.1 x c (jq scope.names [] (fun y d w=>by simp at w) x c e),fun p hp=>?_⟩
  ·rcases Ld.mp (I3.pJ b z) with q | q
   ·exact (f3 b hb).2.1 q
   ·exact (f3 b hb).2.2.1 q
  ·rw [Lu] at hp
   exact (f3 b hb).2.2.2.2.2 p hp
 generalize hX:b8 X N' scope s3.heap.objs.size s3 (upd H2 s2.heap.objs.size (.lst [])) fp pins=X' at I4 turn stat
 have eP:X'.prog=X.prog:=by rw [← hX];rfl
 have eW:X'.w=X.w:=by rw [← hX];rfl
 have eK:X'.K=X.K:=by rw [← hX];rfl
 have eA:X'.A=X.A:=by rw [← hX];rfl
 have eC:X'.calm=true:=by rw [← hX];exact hc
 have eE:X'.env=compEnvC scope (hZ scope.names X.env.cells []) s3.heap.objs.size X.env:=by rw [← hX];rfl
 have eX:X'.xe=fun _ _=>False:=by rw [← hX];rfl
 have loop:codeAny (model X.prog X.w) X.A (.compLoop (.ListComp elt [⟨target,iter,ifs,0⟩] scope pos) 0 (.ref it) (.ref s2.heap.objs.size) (compEnvC scope (hZ scope.names X.env.cells []) s3.heap.objs.size X.env))
   (RR (.ref s2.heap.objs.size) s3.heap.objs.size) { s3 with heap:=h1,toks:=s3.toks + ([]:List (Str×Value)).length }:=by
  refine tX (fun n s'=>∃i σ' H',Inv X' [] σ' H' s'∧tn i s'.heap∧(∀b∈fp,H' b=none)∧W i n σ' H') ?_ m0 ⟨0,_,_,I4,st4,fr3,w0⟩
  rintro n s5 ⟨i,σ5,H5,I5,st5,fr5,w5⟩
  rcases turn i n σ5 H5 w5 with ⟨stop,q⟩ | ⟨go,step⟩
  ·have:=T.done X' eP eW eK eC i [] s5 σ5 H5 (fun _ _=>False) I5 (stat fr5) st5 stop
   rw [eA] at this
   refine b9 this fun r s6 ⟨hr,I6⟩=>?_
   subst hr
   obtain⟨m,hm,_⟩:=id I6.loc
   rw [eE] at hm
   have fre:H5 s3.heap.objs.size=none:=by have z:=I6.free;rw [eE] at z;exact z
   refine hRR _ _ H5 s6 m q hm fre (Nat.ne_of_gt I3.lt) I3.sz (fun x c e z=>?_) (fun p hp z=>?_) fun h' hsb'=>?_
   ·obtain⟨v,w⟩:=I3.cell x c e
    exact absurd w.lt (by rw [z];exact Nat.lt_irrefl _)
   ·exact absurd (K8 (I3.pin p hp).1) (by rw [z];exact Nat.lt_irrefl _)
   ·rw [← hX] at I6
    exact A8 I3 f3 I6 hsb'
  ·have:=T.item X' eP eW eK eC i [] s5 σ5 H5 (fun _ _=>False) I5 (stat fr5) st5 go
   rw [eA] at this
   refine b9 this fun r s6 ⟨u,hr,h6⟩=>?_
   subst hr
   refine b9 h6 fun _ s7 hq0=>?_
   obtain⟨x,H7,I7,r7,y7,st7,fr7⟩:=hq0
   have I7':=I7.pinned (stat fr7) (T.obj _ _ st7)
   have g7:=step x H7 y7 _ s7 u I7' r7
   rw [eP,eW,eA,eE,eX] at g7
   refine b9 g7 fun _ s8 ⟨σ8,H8,I8,q8⟩=>?_
   have t8:=q8 _ s8 I8
   rw [eP,eW,eA,eE] at t8
   refine b9 t8 fun ok s9 ⟨H9,I9,q9⟩=>?_
   have back:∀{σz:St} {Hz:Hp} {sz:Shared} {m':Nat},Inv X' ([] ++ o9 fp s7.heap) σz Hz sz→m' < n→W (i + 1) m' σz Hz→∃m,m < n∧∃i σ' H',Inv X' [] σ' H' sz∧tn i sz.heap∧(∀b∈fp,H' b=none)∧W i m σ' H':=fun {σz Hz sz m'} Iz hm wz=>by
    refine⟨m',hm,i + 1,σz,Hz,Iz.lC,T.keep _ _ _ st7 fun b hb o e=>(Iz.pin (b,o) (List.mem_append_right _ (List.mem_append_right _ (iD hb e)))).1,fun b hb=>?_,wz⟩
    obtain⟨o,e,d⟩:=T.obj _ _ st7 b hb
    exact (Iz.pin (b,o) (List.mem_append_right _ (List.mem_append_right _ (iD hb e)))).2.1
   cases ok with
   | false =>
    obtain⟨m',hm,w9⟩:=q9
    exact back I9 hm w9
   | true =>
    have e9:=q9 _ s9 I9
    rw [eP,eW,eA,eE,eX] at e9
    refine b9 e9 fun uy s10 hq0=>?_
    obtain⟨y,H10,I10,r10,ys,hys,hl,m',hm,w10⟩:=hq0
    have ap:=rL (X:=X') _ s10 σ8 H10 (.ref s2.heap.objs.size) [y] (.ref s2.heap.objs.size) [uy] (fun _ H'=>H'=upd H10 s2.heap.objs.size (.lst (ys ++ [y]))) I10 rfl (.cons r10 .nil) ⟨_,ys,y,rfl,rfl,hys,hl,rfl⟩
    rw [eP,eW,eA,eX] at ap
    refine b9 ap fun _ s11 hq0=>?_
    obtain⟨_,H11,I11,_,q11⟩:=hq0
    have q11':H11=upd H10 s2.heap.objs.size (.lst (ys ++ [y])):=q11
    subst q11'
    exact back I11 hm w10
 exact codeAny_compStart_list loop (T.self _ _ _ _ _ st4 loop)
theorem DX {elt target iter:Expr} {ifs:List Expr} {pos:Pos} {wi:TI} (hc:X.calm=true) (hi:PI X target iter wi) (O:cN X N' nt ix scope) (hs:∀x,foldedSetIterable iter X.env x=pure x:=by intro _;rfl) :
  PE X (.ListComp elt [⟨target,iter,ifs,0⟩] scope pos) (Ep X N' nt ix scope elt target ifs wi):=by
 intro pins s σ H Q I h
 rw [eval_ListComp]
 refine wpAny_comprehension_free (use:=none) rfl hs (O.HW I) O.kind O.names ?_
 refine b9 (hi pins s σ H _ I h) fun v s1 h1=>b9 h1 fun itv s2 h2=>?_
 refine uA (Q:=Q) (RR:=fun acc C=>compPost (model X.prog X.w) X.A X.xe none (EP X pins σ Q) acc C) hc O h2 (fun J H1 z=>z) ?_
 intro a C H' s6 m q hm _ _ _ _ _ hI
 exact⟨m,hm,fun h' hsb=>⟨.ref a,H',hI h' hsb,rfl,q⟩⟩
theorem pU {elt target iter:Expr} {ifs:List Expr} {pos spos py:Pos} {y:Str} {i:Nat} {wi:TI} (hc:X.calm=true) (hi:PI X target iter wi) (O:cN X N' nt ix scope) (hN:X.N.Nodup) (hy:X.N[i]?=some y) (hx:Loc X.env.scope y)
  (hsw:swapsWith (.ListComp elt [⟨target,iter,ifs,0⟩] scope pos) (some (.Name y py)) spos.line X.env=pure true)
  (hf:X.fn y=true∨X.env.scope.names.lookup y=some .local) (hs:∀x,foldedSetIterable iter X.env x=pure x:=by intro _;rfl) :
  PS X (.Assign [.Name y py] (.ListComp elt [⟨target,iter,ifs,0⟩] scope pos) spos) (fun D=>fun σ H=>Ep X N' nt ix scope elt target ifs wi σ H fun v H'=>D.nx (σ.set i (some v)) H'):=by
 intro pins s σ H D I h
 rw [exec_Assign_Name_used _ _ _ _ hsw]
 refine KJ (wpAny_standAt (KJ ?_))
 show wpAny _ X.A (do let _ ← comprehension (.ListComp elt [⟨target,iter,ifs,0⟩] scope pos) scope X.env _ (newList []) false (eval iter X.env) (some (assign (.Name y py) X.env))) _ _ s
 refine KJ (Li (wpAny_comprehension_free (use:=some (assign (.Name y py) X.env)) (Q:=fun _ s'=>SP X pins D .next s') rfl hs (O.HW I) O.kind O.names ?_) (fun _ s' hq=>KO (KO hq)) fun _ _ e=>e)
 refine b9 (hi pins s σ H _ I h) fun v s1 h1=>b9 h1 fun itv s2 h2=>?_
 refine uA (Q:=fun v H'=>D.nx (σ.set i (some v)) H') (RR:=fun acc C=>compPost (model X.prog X.w) X.A X.xe (some (assign (.Name y py) X.env)) (fun _ s'=>SP X pins D .next s') acc C) hc O h2 (fun J H1 z=>z) ?_
 intro a C H' s6 m q hm hC n1 n2 n3 n4 hI
 have I6:Inv X pins σ H' s6:=hI s6.heap (.refl ..)
 show wpAny _ X.A (assign (.Name y py) X.env (.ref a)) _ _ _
 refine wpAny_assign_Name (qR I6 hN hy hx (v:=.ref a) rfl (fun s7 I7 hsame=>?_) hf)
 obtain⟨b,hb,hbx⟩:=hsame
 have hne:C≠b:=by
  rcases hbx with e | e
  ·rw [e];exact n1
  ·exact Ne.symm (n3 y b e)
 refine⟨m,hm.sameBut hb hne,fun h' hsb=>⟨_,H',?_,q⟩⟩
 exact I7.turned (t':=s7.toks) (fun c o hc' e=>(hsb.2 c hc').trans e) hC n1 (.inr n2) n3 n4
end
end L2.L3
namespace L2.L3
open PySem PySem.Spec PyProof.Rows
def fA (nt:Nat) (ix:List Nat) (env:En):En:=List.replicate nt none ++ ix.map fun i=>match env[i]? with
 | some (some (.d x))=>some (.d x)
 | _=>none
theorem eS {nt:Nat} {ix:List Nat} {env:En} (i:Nat) (ys:List D):(fA nt ix env)[i]?≠some (some (.own ys)):=fun q=>by
 unfold fA at q
 by_cases hj:i < nt
 ·rw [Lb (by simpa using hj),Lk] at q
  split at q <;> cases q
 ·rw [Lc (by simpa using hj),KU] at q
  cases e:ix[i - (List.replicate nt (none:Option Lo)).length]? with
  | none=>rw [e] at q;cases q
  | some k =>
   rw [e] at q
   simp only [Option.map_some,Option.some.injEq] at q
   split at q <;> cases q
theorem eQ {nt:Nat} {ix:List Nat} {env:En} (i:Nat) (ys:List (D×D)):(fA nt ix env)[i]?≠some (some (.dic ys)):=fun q=>by
 unfold fA at q
 by_cases hj:i < nt
 ·rw [Lb (by simpa using hj),Lk] at q
  split at q <;> cases q
 ·rw [Lc (by simpa using hj),KU] at q
  cases e:ix[i - (List.replicate nt (none:Option Lo)).length]? with
  | none=>rw [e] at q;cases q
  | some k =>
   rw [e] at q
   simp only [Option.map_some,Option.some.injEq] at q
   split at q <;> cases q
def Base.here (F H:Hp):Base:=⟨F,H,fun p=>H p≠none∧F p=none,fun _ h=>h.1⟩
theorem C8 {K:PySem.W.Frag} {B:Base} {F H:Hp} {σ:St} {env:En} {nt:Nat} {ix:List Nat} {a:Addr} {o:HO} (r:Rep K B F H σ env) (ha:H a=none):Rep K (Base.here F H) F (upd H a o) (uO nt ix σ) (fA nt ix env):=by
 refine⟨ar.refl _,r.fh.trans (cA ha),cA ha,fun p h=>h.2,fun j x q=>?_,fun j ys q=>(eS j ys q).elim,fun i j xs ys p _ q=>(eS i xs q).elim,fun j ys q=>(eQ j ys q).elim,fun i j xs ys p _ q=>(eQ i xs q).elim⟩
 unfold fA at q
 by_cases hj:j < nt
 ·rw [Lb (by simpa using hj),Lk] at q
  split at q <;> cases q
 ·rw [Lc (by simpa using hj),KU,List.length_replicate] at q
  cases e:ix[j - nt]? with
  | none=>rw [e] at q;cases q
  | some k =>
   rw [e] at q
   simp only [Option.map_some,Option.some.injEq] at q
   split at q
   ·rename_i x' h'
    cases q
    obtain⟨v,h1,h2⟩:=r.dv k x h'
    refine⟨v,?_,h2⟩
    unfold uO
    rw [Lc (by simpa using hj),KU,List.length_replicate,e]
    simp only [Option.map_some,h1,Option.join]
    rfl
   ·cases q
theorem Rep.here {K:PySem.W.Frag} {B:Base} {F H:Hp} {σ:St} {env:En} (r:Rep K B F H σ env) (no:∀(i:Nat) ys,env[i]?≠some (some (.own ys))) (no':∀(i:Nat) ys,env[i]?≠some (some (.dic ys))):Rep K (Base.here F H) F H σ env :=
 ⟨ar.refl _,r.fh,ar.refl _,fun p h=>h.2,r.dv,fun i ys q=>(no i ys q).elim,fun i j xs ys p _ q=>(no i xs q).elim,fun i ys q=>(no' i ys q).elim,fun i j xs ys p _ q=>(no' i xs q).elim⟩
theorem Rep.there {K:PySem.W.Frag} {B:Base} {F H F' H':Hp} {σ:St} {env iK:En} (r:Rep K (Base.here F H) F' H' σ env) (f0:ar B.F F) (h0:ar B.H H) (nf:∀p,B.N p→F p=none) (he:∀(i:Nat) l,iK[i]?=some (some l)→env[i]?=some (some l)) (no:∀(i:Nat) ys,iK[i]?≠some (some (.own ys))) (no':∀(i:Nat) ys,iK[i]?≠some (some (.dic ys))):Rep K B F' H' σ iK:=by
 refine⟨f0.trans r.f0,r.fh,h0.trans r.h0,fun p hp=>?_,fun i x q=>r.dv i x (he i _ q),fun i ys q=>(no i ys q).elim,fun i j xs ys p _ q=>(no i xs q).elim,fun i ys q=>(no' i ys q).elim,fun i j xs ys p _ q=>(no' i xs q).elim⟩
 refine r.nf p ⟨fun z=>?_,nf p hp⟩
 have q:=B.nb p hp
 cases w:B.H p with
 | none=>exact q w
 | some o=>rw [h0 _ _ w] at z;cases z
structure rb (K:PySem.W.Frag) (J:It) (F1:Hp) (xs:List D):Prop where
 go:∀(i:Nat) (G H':Hp),ar F1 G→ar G H'→i < xs.length→J.go i H'
 yld:∀(i:Nat) (G H':Hp) (y:V) (H'':Hp) (x:D),ar F1 G→ar G H'→xs[i]?=some x→J.yld i H' y H''→H''=H'∧Den K G x y
 stop:∀(G H':Hp),ar F1 G→ar G H'→J.stop xs.length H'
theorem wV {K:PySem.W.Frag} {F1:Hp} {a:Addr} {vs:List V} {xs:List D} (q:d9 K F1 a vs) (r:aq K F1 xs vs):rb K (Jo K a) F1 xs where
 go:=fun i G H' s1 s2 hi=>by
  have:i < vs.length:=by rw [← r.length];exact hi
  exact⟨vs,vs[i],s2.seq (s1.seq q),by simp [this]⟩
 yld:=fun i G H' y H'' x s1 s2 hx hy=>by
  obtain⟨v,h1,h2⟩:=r.get hx
  obtain⟨e1,e2⟩:=hy
  have:=e2 vs (s2.seq (s1.seq q))
  rw [h1] at this;cases this
  exact⟨e1,Den.mono s1 _ _ h2⟩
 stop:=fun G H' s1 s2=>⟨vs,s2.seq (s1.seq q),by rw [r.length];exact K0 _⟩
theorem zr {K:PySem.W.Frag} {F1:Hp} {a:Addr} {vs:List V} {xs:List D} (q:iZ K F1 a vs) (r:aq K F1 xs vs):rb K (Jm K a) F1 xs where
 go:=fun i G H' s1 s2 hi=>by
  have:i < vs.length:=by rw [← r.length];exact hi
  exact⟨vs,vs[i],ar.cn s2 (ar.cn s1 q),by simp [this]⟩
 yld:=fun i G H' y H'' x s1 s2 hx hy=>by
  obtain⟨v,h1,h2⟩:=r.get hx
  obtain⟨e1,e2⟩:=hy
  have:=e2 vs (ar.cn s2 (ar.cn s1 q))
  rw [h1] at this;cases this
  exact⟨e1,Den.mono s1 _ _ h2⟩
 stop:=fun G H' s1 s2=>⟨vs,ar.cn s2 (ar.cn s1 q),by rw [r.length];exact K0 _⟩
theorem zM {K:PySem.W.Frag} {F1:Hp} {z:Str}:rb K (IJ z) F1 (cT z) where
 go:=fun i G H' s1 s2 hi=>by
  show i < z.cps.size
  simpa [cT] using hi
 yld:=fun i G H' y H'' x s1 s2 hx hy=>by
  obtain⟨e1,c,hc,rfl⟩:=hy
  unfold cT at hx
  rw [KU,Array.getElem?_toList,hc] at hx
  cases hx
  exact⟨e1,gG⟩
 stop:=fun G H' s1 s2=>by
  show z.cps.size≤_
  simp [cT]
theorem nP {K:PySem.W.Frag} {F1:Hp} {lo:Int} {n:Nat}:rb K (EA lo n) F1 (a8 lo n) where
 go:=fun i G H' s1 s2 hi=>by
  have:i < n:=by simpa [a8] using hi
  exact this
 yld:=fun i G H' y H'' x s1 s2 hx hy=>by
  obtain⟨e1,e2⟩:=hy
  have hi:i < n:=by
   have:=(KL.mp hx).1
   simpa [a8] using this
  have:(a8 lo n)[i]?=some (D.int (lo + (i:Int))):=by simp [a8,hi]
  rw [this] at hx;cases hx
  exact⟨e1,by rw [e2];exact bC⟩
 stop:=fun G H' s1 s2=>by
  have:(a8 lo n).length=n:=by simp [a8]
  rw [this];exact K0 n
def comps (tt:TB) (te:TD) (iK:En) (Q:List D→Prop):List D→List D→Prop
 | [],acc=>Q acc
 | x :: xs,acc=>tt (iK.set 0 (some (.d x))) fun ok=>if ok=true then te (iK.set 0 (some (.d x))) fun y=>acc.length < sizeLine∧comps tt te iK Q xs (acc ++ [y]) else comps tt te iK Q xs acc
structure xm (X:Cx) (ifs:List Expr) (t:TB):Prop where
 of ::
 run:∀(B:Base) (σ:St) (F H:Hp) (env:En) (Q:Bool→Prop),Rep X.K B F H σ env→t env Q→Ac X ifs σ H (RB X B σ env F Q)
instance {X:Cx} {ifs:List Expr} {t:TB}:CoeFun (xm X ifs t) (fun _=>∀(B:Base) (σ:St) (F H:Hp) (env:En) (Q:Bool→Prop),Rep X.K B F H σ env→t env Q→Ac X ifs σ H (RB X B σ env F Q)):=⟨xm.run⟩
def dU:TB:=fun _ Q=>Q true
section
variable {X:Cx}
theorem gq:xm X [] dU:=⟨fun B σ F H env Q rp h pins s I=>wpAny_tests_nil ⟨H,I,F,rp,ar.refl _,h⟩⟩
variable {N':List Str} {nt:Nat} {ix:List Nat} {scope:Scope} {elt iter a b:Expr} {ifs:List Expr} {x:Str} {px pos:Pos} {tt:TB} {te ti:TD} {ts:fF}
theorem nr (hN:N'.Nodup) (h0:N'[0]?=some x) (hx:(relabel scope X.env).names.lookup x=some .local)
  (ht:∀C s H fp pins,xm (b8 X N' scope C s H fp pins) ifs tt) (he:∀C s H fp pins,QE (b8 X N' scope C s H fp pins) elt te)
  {B:Base} {σ:St} {F F1 H1:Hp} {env:En} {Q:List D→Prop} {J:It} {xs:List D} (sF:ar F F1) (r1:Rep X.K B F1 H1 σ env) (S:rb X.K J F1 xs) (q1:comps tt te (fA 1 ix env) Q xs []) :
  ∀(a C:Addr) (s:Shared) (fp:List Addr) (pins:List (Addr×Obj)),H1 a=none →
   ∃W:Nat→Nat→St→Hp→Prop,(∃m,W 0 m (uO 1 ix σ) (upd H1 a (.lst [])))∧∀i m σ' H',W i m σ' H'→(J.stop i H'∧RF X B σ env F Q (.ref a) H')∨(J.go i H'∧∀y H2,J.yld i H' y H2 →
    wG (b8 X N' scope C s (upd H1 a (.lst [])) fp pins) (.Name x px) y σ' H2 fun σ2 H3=>Ac (b8 X N' scope C s (upd H1 a (.lst [])) fp pins) ifs σ2 H3 fun ok H4=>if ok=true then
     wE (b8 X N' scope C s (upd H1 a (.lst [])) fp pins) elt σ2 H4 fun y H5=>∃ys,H5 a=some (.lst ys)∧ys.length < sizeLine∧∃m',m' < m∧W (i + 1) m' σ2 (upd H5 a (.lst (ys ++ [y])))
     else ∃m',m' < m∧W (i + 1) m' σ2 H4):=by
 intro a C s fp pins ha
 have hF1a:F1 a=none:=r1.rK ha
 refine⟨fun i m σ' H'=>m=xs.length - i∧i≤xs.length∧∃(F':Hp) (acc:List D) (ys:List V),Rep X.K (Base.here F1 H1) F' H' σ' (fA 1 ix env)∧H' a=some (.lst ys)∧F' a=none∧aq X.K F' acc ys∧comps tt te (fA 1 ix env) Q (xs.drop i) acc,
  ⟨xs.length,by simp,Lp _,F1,[],[],C8 r1 ha,aI,hF1a,aW,by simpa using q1⟩,?_⟩
 rintro i m σ2 H2 ⟨rfl,hi2,F2,acc,ys,r2,hys,hFa,hd,q2⟩
 have sH:ar H1 H2:=r2.h0
 by_cases hlt:i < xs.length
 ·have hxi:xs[i]?=some xs[i]:=by simp [hlt]
  rw [drop_cons hxi] at q2
  refine .inr ⟨S.go i F2 H2 r2.f0 r2.fh hlt,fun y H3 hy=>?_⟩
  obtain⟨eH,dy⟩:=S.yld i F2 H2 y H3 xs[i] r2.f0 r2.fh hxi hy
  subst eH
  have r2':=r2.here eS eQ
  have g:=az (X:=b8 X N' scope C s (upd H1 a (.lst [])) fp pins) (pos:=px) 0 hN h0 (.inl hx) (.inr hx)
  refine gA (g (Base.here F2 H3) σ2 F2 H3 (fA 1 ix env) (fun e=>e=(fA 1 ix env).set 0 (some (.d xs[i]))) xs[i] y r2' dy rfl) fun σ3 H4 hq0=>?_
  obtain⟨F4,env4,r4,s4,q4⟩:=hq0
  subst q4
  intro pins' s' I'
  refine Li (ht C s (upd H1 a (.lst [])) fp pins (Base.here F2 H3) σ3 F4 H4 _ _ r4 q2 pins' s' I') (fun ok s5 ⟨H5,I5,F5,r5,s5',q5⟩=>⟨H5,I5,?_⟩) fun _ _ e=>e
  have weak':∀(j:Nat) l,(fA 1 ix env)[j]?=some (some l)→((fA 1 ix env).set 0 (some (.d xs[i])))[j]?=some (some l):=fun j l hj=>by
   have hj0:j≠0:=fun z=>by
    subst z
    simp [fA] at hj
   rw [KN (Ne.symm hj0)];exact hj
  cases ok with
  | false =>
   have q5':comps tt te (fA 1 ix env) Q (xs.drop (i + 1)) acc:=q5
   refine⟨xs.length - (i + 1),by omega,rfl,by omega,F5,acc,ys,r5.there r2.f0 sH (fun p hp=>r2.nf p hp) weak' eS eQ,r5.h0 _ _ hys,r5.nf a ⟨by rw [hys];simp,hFa⟩,aq.mono r5.f0 _ _ hd,q5'⟩
  | true =>
   have q5':te ((fA 1 ix env).set 0 (some (.d xs[i]))) fun y=>acc.length < sizeLine∧comps tt te (fA 1 ix env) Q (xs.drop (i + 1)) (acc ++ [y]):=q5
   refine aL (he C s (upd H1 a (.lst [])) fp pins (Base.here F2 H3) σ3 F5 H5 _ _ r5 q5') fun z H6 hq0=>?_
   obtain⟨F6,d,r6,s6,d6,hl,q6⟩:=hq0
   have ha6:H6 a=some (.lst ys):=r6.h0 _ _ hys
   have hF6:F6 a=none:=r6.nf a ⟨by rw [hys];simp,hFa⟩
   refine⟨ys,ha6,by rw [← hd.length];exact hl,xs.length - (i + 1),by omega,rfl,by omega,F6,acc ++ [d],ys ++ [z],?_,aI,hF6,(aq.mono r6.f0 _ _ hd).append (aX d6 aW),q6⟩
   have r7:Rep X.K (Base.here F1 H1) F6 H6 σ3 (fA 1 ix env):=r6.there r2.f0 sH (fun p hp=>r2.nf p hp) weak' eS eQ
   refine⟨r7.f0,fun b o hb=>?_,fun b o hb=>?_,r7.nf,r7.dv,fun j zs q=>(eS j zs q).elim,r7.ne,fun j zs q=>(eQ j zs q).elim,r7.nm⟩
   ·have:b≠a:=fun w=>by subst w;rw [hF6] at hb;cases hb
    rw [aH this];exact r7.fh _ _ hb
   ·have:b≠a:=fun w=>by subst w;have hb':H1 b=some o:=hb;rw [ha] at hb';cases hb'
    rw [aH this];exact r7.h0 _ _ hb
 ·have e:i=xs.length:=by omega
  subst e
  rw [Ly (K0 _)] at q2
  refine .inl ⟨S.stop F2 H2 r2.f0 r2.fh,F2,fun b=>if b=a then none else H2 b,a,ys,acc,rfl,KS rfl,?_,?_,sF.trans r2.f0,hd,q2⟩
  ·funext b
   unfold upd
   by_cases z:b=a
   ·rw [KS z,z];exact hys
   ·rw [KQ z]
    show H2 b=if b=a then none else H2 b
    rw [KQ z]
  ·refine r1.ext r2.f0 (fun b o hb=>?_) (fun b o hb=>?_) fun p h1 h2=>r2.nf p ⟨h1,h2⟩
   ·have:b≠a:=fun w=>by subst w;rw [hFa] at hb;cases hb
    show (if b=a then none else H2 b)=_
    rw [KQ this];exact r2.fh _ _ hb
   ·have:b≠a:=fun w=>by subst w;rw [ha] at hb;cases hb
    show (if b=a then none else H2 b)=_
    rw [KQ this];exact sH _ _ hb
theorem RF.rv {B:Base} {σ:St} {env:En} {F:Hp} {Q:D→Prop} {v:V} {H:Hp} (h:RF X B σ env F (fun ds=>Q (.lst ds)) v H):RV X B σ env F Q v H:=by
 obtain⟨F',H1,p,vs,ds,rfl,hp,rfl,r,s,hd,q⟩:=h
 exact (RV.Ab r hd q p hp).weaken s
def d5 (ts:fF):TD:=fun env Q=>ts env fun ds=>Q (.lst ds)
theorem QF.e {e:Expr} {ts:fF} (h:QF X e ts):QE X e (d5 ts):=⟨fun B σ F H env Q rp hq=>aL (h B σ F H env _ rp hq) fun v H' z=>z.rv⟩
def iQ (ix:List Nat) (ti:TD) (tt:TB) (te:TD):fF:=fun env Q=>ti env fun d=>∃xs,cM d=some xs∧comps tt te (fA 1 ix env) Q xs []
theorem Bs {B:Base} {σ:St} {F H:Hp} {env:En} {P:List D→Prop} {R:It→Hp→Prop} (hi:QE X iter ti) (rp:Rep X.K B F H σ env) (h:ti env fun d=>∃xs,cM d=some xs∧P xs)
  (hR:∀(J:It) (F1 H1:Hp) (xs:List D),Rep X.K B F1 H1 σ env→ar F F1→rb X.K J F1 xs→P xs→R J H1):HU X.K (wE X iter) σ H R:=by
 refine aL (hi B σ F H env _ rp h) fun v H1 hq0=>?_
 obtain⟨F1,d,r1,s1,d1,xs,hx,q1⟩:=hq0
 cases d with
 | lst ys =>
  simp only [cM] at hx;cases hx
  simp only [Den] at d1
  obtain⟨a,vs,rfl,q,r⟩:=d1
  exact .inl ⟨a,rfl,.inl ⟨⟨vs,r1.fh.seq q⟩,hR _ F1 H1 _ r1 s1 (wV q r) q1⟩⟩
 | tup ys =>
  simp only [cM] at hx;cases hx
  simp only [Den] at d1
  obtain⟨a,vs,rfl,q,r⟩:=d1
  exact .inl ⟨a,rfl,.inr ⟨⟨vs,ar.cn r1.fh q⟩,hR _ F1 H1 _ r1 s1 (zr q r) q1⟩⟩
 | str z =>
  simp only [cM] at hx;cases hx
  simp only [Den] at d1
  subst d1
  exact .inr ⟨z,rfl,hR _ F1 H1 _ r1 s1 zM q1⟩
 | _=>simp only [cM] at hx;cases hx
theorem lY (hc:X.calm=true) (O:cN X N' 1 ix scope) (hN:N'.Nodup) (h0:N'[0]?=some x) (hx:(relabel scope X.env).names.lookup x=some .local) (hi:QE X iter ti)
  (ht:∀C s H fp pins,xm (b8 X N' scope C s H fp pins) ifs tt) (he:∀C s H fp pins,QE (b8 X N' scope C s H fp pins) elt te) (hs:∀x,foldedSetIterable iter X.env x=pure x:=by intro _;rfl) :
  QF X (.ListComp elt [⟨.Name x px,iter,ifs,0⟩] scope pos) (iQ ix ti tt te):=by
 refine⟨?_⟩
 intro B σ F H env Q rp h
 refine bY (DX hc (Ba bR) O hs) ?_
 exact Bs hi rp h fun J F1 H1 xs r1 s1 S q=>nr hN h0 hx ht he s1 r1 S q
def gY (f:List D→(Int→Nat→Prop)→Prop) (ix:List Nat) (ts:fF) (tt:TB) (te:TD):fF:=fun env Q=>ts env fun xs=>f xs fun lo n=>comps tt te (fA 1 ix env) Q (a8 lo n) []
end
end L2.L3
namespace L2.L3
open PySem PySem.Spec PyProof.Rows
section
variable {X:Cx} {a b c e:Expr} {es:List Expr} {ta tb tc:TD} {tA tB':TB} {ts:fF} {p p2 pos:Pos} {rest:List Expr}
theorem x4 (hm:X.mg "abs" = none) (ha:QA X [e] ts) (hg:Gl X "abs":=by rfl) (he:starEach [e] X.env=(false,eval e X.env) :: starEach [] X.env:=by exact a6 rfl):QE X (.Call (.Name "abs" p) [e] [] pos) (aB vt ts) :=
 ub BG GQ hg hm zU ha (he:=he)
theorem nI (hm:X.mg "len" = none) (ha:QA X [e] ts) (hg:Gl X "len":=by rfl) (he:starEach [e] X.env=(false,eval e X.env) :: starEach [] X.env:=by exact a6 rfl):QE X (.Call (.Name "len" p) [e] [] pos) (aB kL ts) :=
 ub (l6.or t6) Fg hg hm rk ha (he:=he)
theorem jX (hm:X.mg "int" = none) (ha:QA X [e] ts) (hg:Gl X "int":=by rfl) (he:starEach [e] X.env=(false,eval e X.env) :: starEach [] X.env:=by exact a6 rfl):QE X (.Call (.Name "int" p) [e] [] pos) (aB o6 ts) :=
 vK zy Gy hg hm zv ha (he:=he)
theorem ie (hm:X.mg "tuple" = none) (ha:QA X [e] ts) (hg:Gl X "tuple":=by rfl) (he:starEach [e] X.env=(false,eval e X.env) :: starEach [] X.env:=by exact a6 rfl):QE X (.Call (.Name "tuple" p) [e] [] pos) (aB g8 ts) :=
 vK qG Ap hg hm vb ha (he:=he)
variable {N':List Str} {nt:Nat} {ix:List Nat} {scope:Scope} {elt iter:Expr} {ifs:List Expr} {x:Str} {px py spos:Pos} {tt:TB} {te ti:TD}
theorem cN.of (sc:Scope) (hsc:X.env.scope=sc) (kind:scope.kind=.function) (nocell:∀x∈scope.names,x.2≠.cell) (names:∀x∈scope.names,x.2=.local→scope.names.lookup x.1=some .local)
  (free:∀x∈scope.names,x.2=.free→sc.names.lookup x.1=some .cell)
  (caps:∀(j:Nat) (i:Nat),ix[j]?=some i→∃x,N'[nt + j]?=some x∧X.N[i]?=some x∧(x,NameKind.free)∈scope.names∧(relabel scope X.env).names.lookup x=some .cell) (len:N'.length=nt + ix.length):cN X N' nt ix scope :=
 ⟨kind,nocell,names,by rw [hsc];exact free,caps,len⟩
end
end L2.L3
namespace L2.L3
open PySem PySem.Spec PyProof.Rows
def Base.guard (B:Base) (p:Addr) (o:HO):Base:=⟨B.F,upd B.H p o,fun a=>a=p∨B.N a,fun a h=>by
 by_cases e:a=p
 ·subst e;rw [aI];simp
 ·rw [aH e];exact B.nb a (h.resolve_left e)⟩
section
variable {K:PySem.W.Frag} {B:Base} {F H:Hp} {σ:St} {env:En} {p:Addr} {o o':HO}
theorem Rep.yh (r:Rep K (B.guard p o) F H σ env) (hb:B.H p=none):Rep K B F H σ env∧H p=some o∧F p=none:=by
 refine⟨⟨r.f0,r.fh,fun b u q=>r.h0 b u ?_,fun a h=>r.nf a (.inr h),r.dv,fun i xs h=>?_,r.ne,fun i xs h=>?_,r.nm⟩,r.h0 p o aI,r.nf p (.inl rfl)⟩
 ·show upd B.H p o b=some u
  have:b≠p:=fun e=>by subst e;rw [hb] at q;cases q
  rw [aH this];exact q
 ·obtain⟨q,vs,h1,h2,h3,h4,h5⟩:=r.ov i xs h
  have h4':upd B.H p o q=none:=h4
  have ne:q≠p:=fun e=>by subst e;rw [aI] at h4';cases h4'
  rw [aH ne] at h4'
  exact⟨q,vs,h1,h2,h3,h4',h5⟩
 ·obtain⟨q,ep,us,vs,h1,h2,h3,h4,h5⟩:=r.mv i xs h
  have h4':upd B.H p o q=none:=h4
  have ne:q≠p:=fun e=>by subst e;rw [aI] at h4';cases h4'
  rw [aH ne] at h4'
  exact⟨q,ep,us,vs,h1,h2,h3,h4',h5⟩
end
section
variable {X:Cx} {a b:Expr} {ta tb:TD} {pos:Pos}
end
end L2.L3
namespace L2.L3
open PySem PySem.Spec PyProof.Rows
section
variable {X:Cx} {e:Expr} {ts:fF} {pos:Pos}
end
end L2.L3
namespace L2.L3
open PySem PySem.Spec PyProof.Rows
theorem cE.at {P:Program} {w:World} {H:Hp} {h:Heap} {a:Addr} {o:HO} (x:cE P w H h a o):∃ob,h.get? a=some ob:=by
 cases o with
 | lst xs=>obtain⟨_,_,_,_,e⟩:=x;exact⟨_,e⟩
 | tup xs=>obtain⟨_,_,_,ob,e,_⟩:=x;exact⟨_,e⟩
 | dK kvs=>obtain⟨_,_,_,_,o,_,_,e,_⟩:=x;exact⟨_,e⟩
 | dT kvs=>obtain⟨_,_,_,_,o,_,_,e,_⟩:=x;exact⟨_,e⟩
 | set S n=>obtain⟨o,_,_,_,e,_⟩:=x;exact⟨_,e⟩
 | ins C dx fs=>obtain⟨_,_,_,e,_⟩:=x;exact⟨_,e⟩
 | own y=>exact x
 | xd fs=>obtain⟨_,⟨_,_,_,e,_⟩,_⟩:=x;exact⟨_,e⟩
 | rng lo hi=>obtain⟨_,_,_,e⟩:=x;exact⟨_,e⟩
 | frz ob u=>obtain⟨e,_⟩:=x;exact⟨_,e⟩
 | tbl ps=>exact⟨_,(show h.get? a=some _ from x)⟩
 | met f y=>exact⟨_,(show h.get? a=some _ from x)⟩
 | ext φ=>obtain⟨_,⟨_,e⟩,_⟩:=x;exact⟨_,e⟩
def jA (H:Hp) (h0 h:Heap) (a:Addr) (cls:Value) (dd:Option Addr):Prop:=h0.get? a=none∧H a=none∧∃oe vs,h.get? a=some oe∧oe.cls=cls∧oe.dict=dd∧oe.data=.fields vs ∧
 (vs[1]?=some .none∨∃T oT ts,vs[1]?=some (.ref T)∧h0.get? T=none∧H T=none∧T≠a∧h.get? T=some oT∧oT.data=.fields ts∧ts[3]?=some .none)
abbrev AY (H:Hp) (h0 h:Heap) (a:Addr) (cls:Value):Prop:=jA H h0 h a cls none
theorem jA.Ey {H:Hp} {g h0 h:Heap} {a:Addr} {cls:Value} {dd:Option Addr} (x:jA H h0 h a cls dd) (k:∀b o,g.get? b=some o→∃o',h0.get? b=some o'):jA H g h a cls dd:=by
 have none_:∀b,h0.get? b=none→g.get? b=none:=fun b e=>by
  cases q:g.get? b with
  | none=>rfl
  | some o=>obtain⟨o',e'⟩:=k b o q;rw [e] at e';cases e'
 obtain⟨n,f,oe,vs,he,hc,hdc,hd,z⟩:=x
 refine⟨none_ a n,f,oe,vs,he,hc,hdc,hd,?_⟩
 rcases z with z | ⟨T,oT,ts,h1,h2,h3⟩
 ·exact .inl z
 ·exact .inr ⟨T,oT,ts,h1,none_ T h2,h3⟩
def Dt (P:Program) (w:World):Af:=fun outer H s E e s'=>∃(a:Addr) (C:Value) (dd:Option Addr) (H':Hp),e=.ref a∧s'.os=s.os∧AllBare s'.gens∧Un (oz outer) [] H H' s.heap s'.heap∧mF P w H' s'.heap∧jA H' s.heap s'.heap a C dd∧E C dd H'
theorem pK {M:Model} {A:Around} {E:Value→Shared→Prop} {s:Shared} {base:Heap} {env:Env} {outer:List Env} {L x:Addr} {ox:Obj} {fs:Array Value} {hd0:Value} {nx0:Bool} {Q:Unit→Shared→Prop}
  (hA:A.frames=some (env :: outer)) (ff:s.heap.FunFrames base (env :: outer)) (hL:env.frame=some L) (hx:s.heap.get? x=some ox) (hdx:ox.data=.fields fs) (h2:1 < fs.size)
  (k:∀h' T oT ts,(∀b o,s.heap.get? b=some o→b≠x→b∉oz (env :: outer)→h'.get? b=some o)→(∀b o,s.heap.get? b=some o→b∈oz (env :: outer)→∃sl,h'.get? b=some { o with slots:=sl }) →
   h'.get? x=some (ox.mapFields (·.setIfInBounds 1 (.ref T)))→s.heap.get? T=none→T≠x→h'.get? T=some oT→oT.data=.fields ts→ts[3]?=some .none→Q () { s with heap:=h' }) :
  wpAny M A (do let a ← frameOf env;let pl ← entryPlaceOf L nx0;let b ← EntryCells.newEntry hd0 a .none (rawInt L) .none pl;setField (.ref x) 1 b) (fun _ s'=>wpAny M A (setFlight (.ref x) none) Q E s') E s:=by
 have xnf:x∉oz (env :: outer):=fun z=>by
  obtain⟨_,o,e,nf⟩:=ff.mem z
  rw [hx] at e;cases e;exact nf fs hdx
 refine KJ (wpAny_frameOf_fun hA ff hL fun g so=>?_)
 refine KJ (wpAny_entryPlaceOf fun pl ipl=>?_)
 unfold EntryCells.newEntry newFields
 refine KJ (wpAny_newObj_type ?_ (ipl.sizeOk5 _ _ _ _ _))
 have gx:g.get? x=some ox:=(so.2.1 x xnf).trans hx
 generalize hno:({ cls:=.type "traceback",dict:=none,data:=.fields ([hd0,.ref L,.none,rawInt L,.none] ++ (if pl.isEmpty then List.replicate 6 Value.none else pl)).toArray }:Obj)=no
 have nod:no.data=.fields ([hd0,.ref L,.none,rawInt L,.none] ++ (if pl.isEmpty then List.replicate 6 Value.none else pl)).toArray:=by rw [← hno]
 have nofree:no.isFreed=false:=Obj.isFreed_of_fields nod
 have gx1:(g.push no).get? x=some ox:=KY no gx
 have gT1:(g.push no).get? g.objs.size=some no:=La g nofree
 have Tx:g.objs.size≠x:=fun z=>absurd (K8 gx) (by rw [z];exact Nat.lt_irrefl _)
 refine wpAny_setField gx1 hdx h2 ?_
 have dx2:=Obj.data_mapFields hdx (·.setIfInBounds 1 (Value.ref g.objs.size))
 have gx2:=Heap.get?_update_self (Obj.mapFields (·.setIfInBounds 1 (Value.ref g.objs.size))) gx1 (Obj.isFreed_of_fields dx2)
 have gT2:((g.push no).update x (Obj.mapFields (·.setIfInBounds 1 (Value.ref g.objs.size)))).get? g.objs.size=some no:=(Heap.get?_update_other _ _ (Ne.symm Tx)).trans gT1
 unfold setFlight
 refine KJ (wpAny_field gx2 dx2 (x:=.ref g.objs.size) (by simp [h2]) ?_)
 rw [KS (show (Value.ref g.objs.size != Value.none)=true from by simp)]
 have sz3:3 < ([hd0,.ref L,.none,rawInt L,.none] ++ (if pl.isEmpty then List.replicate 6 Value.none else pl)).toArray.size:=by
  simp only [K5,Lh,List.length_cons,List.length_nil];omega
 refine wpAny_setField gT2 nod sz3 ?_
 have oth:∀b,b≠x→b≠g.objs.size→(((g.push no).update x (Obj.mapFields (·.setIfInBounds 1 (Value.ref g.objs.size)))).update g.objs.size (Obj.mapFields (·.setIfInBounds 3 ((none:Option Addr).elim Value.none fun f=>rawInt f)))).get? b=(g.push no).get? b:=fun b b1 b2=>by
  rw [Heap.get?_update_other _ _ (Ne.symm b2),Heap.get?_update_other _ _ (Ne.symm b1)]
 have ne_g:∀b o,g.get? b=some o→b≠g.objs.size:=fun b o e z=>absurd (K8 e) (by rw [z];exact Nat.lt_irrefl _)
 have Tn:s.heap.get? g.objs.size=none:=Heap.get?_none_of_le (by rw [so.1];exact K0 _)
 refine k _ g.objs.size _ _ (fun b o e b1 b2=>?_) (fun b o e b2=>?_) ?_ Tn Tx (Heap.get?_update_self _ gT2 (Obj.isFreed_of_fields (Obj.data_mapFields nod _))) (Obj.data_mapFields nod _) ?_
 ·have e1:g.get? b=some o:=(so.2.1 b b2).trans e
  rw [oth b b1 (ne_g b o e1)];exact KY no e1
 ·obtain⟨sl,e1⟩:=so.2.2 b o e
  have b1:b≠x:=fun z=>xnf (z▸b2)
  exact⟨sl,by rw [oth b b1 (ne_g b _ e1)];exact KY no e1⟩
 ·rw [Heap.get?_update_other _ _ Tx];exact gx2
 ·simp [Array.getElem?_setIfInBounds]
theorem pS (o:Obj) (f:Array Value→Array Value):(o.mapFields f).dict=o.dict:=by
 obtain⟨c,d,dt,sl⟩:=o
 cases dt <;> rfl
theorem Ax {M:Model} {P:Program} {w:World} {A:Around} {env:Env} {outer:List Env} {base:Heap} {H0 H1:Hp} {h0:Heap} {s1:Shared} {a:Addr} {C:Value} {dd:Option Addr} {L:Addr} {Q:Unit→Shared→Prop} {E:Value→Shared→Prop}
  (hfr:A.frames=some (env :: outer)) (hf:env.frame=some L) (FF:s1.heap.FunFrames base (env :: outer)) (ff:∀b∈oz (env :: outer),H1 b=none) (hok:mF P w H1 s1.heap)
  (un:Un (oz (env :: outer)) [] H0 H1 h0 s1.heap) (Fl:jA H1 h0 s1.heap a C dd)
  (h:∀h',Un (oz (env :: outer)) [] H0 H1 h0 h'→mF P w H1 h'→jA H1 h0 h' a C dd→Q () { s1 with heap:=h' }) :
  wpAny M A (noteFrame (.ref a) env) (fun _ s'=>wpAny M A (setFlight (.ref a) none) Q E s') E s1:=by
 obtain⟨n0,na,oe,vs,he,hc,hdc,hd,z⟩:=Fl
 have hsz:1 < vs.size:=by
  rcases z with z | ⟨T,oT,ts,h1,_⟩
  ·exact (Lx.mp z).1
  ·exact (Lx.mp h1).1
 have core:∀(hid:List Addr) (h1:Heap),a∈hid→(∀b∈hid,h0.get? b=none∧H1 b=none)→(∀b o,s1.heap.get? b=some o→b∉hid→h1.get? b=some o)→(∀b,h1.get? b=none→s1.heap.get? b=none) →
   ∀h' T oT ts,(∀b o,h1.get? b=some o→b≠a→b∉oz (env :: outer)→h'.get? b=some o)→(∀b o,h1.get? b=some o→b∈oz (env :: outer)→∃sl,h'.get? b=some { o with slots:=sl }) →
   h'.get? a=some (oe.mapFields (·.setIfInBounds 1 (.ref T)))→h1.get? T=none→T≠a→h'.get? T=some oT→oT.data=.fields ts→ts[3]?=some .none→Q () { s1 with heap:=h' }:=by
  intro hid h1 ha hids hkeep hnone h' T oT ts k1 k2 k3 hTn hTa hT hdT h3
  have keepN:∀b o,s1.heap.get? b=some o→b∉hid→b∉oz (env :: outer)→h'.get? b=some o:=fun b o e nb nf=>k1 b o (hkeep b o e nb) (fun z=>nb (z▸ha)) nf
  have frn:∀b∈oz (env :: outer),∀o,h0.get? b=some o→b∉hid:=fun b _ o e z=>by rw [(hids b z).1] at e;cases e
  have hs:=hnone T hTn
  refine h h' ⟨fun b o e n hb hx=>?_,fun b o e n hb hx=>?_,un.free,fun b o e hx=>?_,un.tups,un.frzs,un.tbls⟩ (fun b u e=>?_) ?_
  ·exact keepN b o (un.keep b o e n hb hx) (fun z=>by rw [(hids b z).1] at e;cases e) hb
  ·obtain⟨s2,e2⟩:=un.slot b o e n hb hx
   obtain⟨s3,e3⟩:=k2 b _ (hkeep b _ e2 (frn b hb o e)) hb
   exact⟨s3,e3⟩
  ·obtain⟨o',e'⟩:=un.there b o e hx
   have nb:b∉hid:=fun z=>by rw [(hids b z).1] at e;cases e
   by_cases hb:b∈oz (env :: outer)
   ·obtain⟨s3,e3⟩:=k2 b o' (hkeep b o' e' nb) hb
    exact⟨_,e3⟩
   ·exact⟨o',keepN b o' e' nb hb⟩
  ·refine (hok b u e).oS (fun c v hc q=>?_) (fun _ q=>q) fun _ _ q=>q
   have hcn:H1 c≠none:=by
    rcases hc with z | z
    ·rw [z,e];simp
    ·rw [z];simp
   exact keepN c v q (fun z=>hcn (hids c z).2) (fun z=>hcn (ff c z))
  ·refine⟨n0,na,_,_,k3,(Obj.cls_mapFields _ _).trans hc,(pS _ _).trans hdc,Obj.data_mapFields hd _,.inr ⟨T,oT,ts,by simp [hsz],?_,?_,hTa,hT,hdT,h3⟩⟩
   ·cases q:h0.get? T with
    | none=>rfl
    | some o=>obtain⟨o',e'⟩:=un.there T o q (by simp);rw [hs] at e';cases e'
   ·cases q:H1 T with
    | none=>rfl
    | some u=>obtain⟨ob,e'⟩:=cE.at (hok T u q);rw [hs] at e';cases e'
 rcases z with z | ⟨T,oT,ts,h1,hT0,hTn,hTa,hT,hdT,h3⟩
 ·
  unfold noteFrame
  simp only [hf]
  refine KJ (wpAny_field he hd z ?_)
  rw [KQ (by decide)]
  exact pK hfr FF hf he hd hsz (core [a] s1.heap (by simp) (fun b hb=>by rw [Le.mp hb];exact⟨n0,na⟩) (fun b o e _=>e) (fun b e=>e))
 ·
  unfold noteFrame
  simp only [hf]
  refine KJ (wpAny_field he hd h1 ?_)
  rw [KS (show (Value.ref T != Value.none)=true from by simp)]
  refine KJ (wpAny_field hT hdT h3 ?_)
  rw [KQ (show ¬ ((Value.none == rawInt L)=true) from by simp [rawInt])]
  refine KJ (wpAny_setField hT hdT (Lx.mp h3).1 ?_)
  have other:∀b,b≠T→(s1.heap.update T (Obj.mapFields (·.setIfInBounds 3 Value.none))).get? b=s1.heap.get? b:=fun b hb=>Heap.get?_update_other _ _ (Ne.symm hb)
  have noRec:∀b o,s1.heap.get? b=some o→(∀vs,o.data≠.fields vs)→b≠T:=fun b o hb hnf q=>by
   subst q;rw [hT] at hb;cases hb;exact hnf ts hdT
  refine pK (s:={ s1 with heap:=s1.heap.update T (Obj.mapFields (·.setIfInBounds 3 Value.none)) }) hfr (FF.of_keeps fun b o hb hnf=>⟨o,(other b (noRec b o hb hnf)).trans hb,rfl⟩) hf ((other a (Ne.symm hTa)).trans he) hd hsz ?_
  refine core [a,T] _ (by simp) (fun b hb=>?_) (fun b o e nb=>?_) (fun b e=>?_)
  ·rcases Ld.mp hb with z | hb
   ·subst z;exact⟨n0,na⟩
   ·rw [Le.mp hb];exact⟨hT0,hTn⟩
  ·rwa [other b (fun z=>nb (by simp [z]))]
  ·by_cases z:b=T
   ·subst z
    have:=Heap.get?_update_self (Obj.mapFields (·.setIfInBounds 3 Value.none)) hT (Obj.isFreed_of_fields (Obj.data_mapFields hdT _))
    rw [this] at e;cases e
   ·rwa [other b z] at e
end L2.L3
namespace L2.L3
open PySem PySem.Spec PyProof.Rows
def dF (X:Cx) (pins:List (Addr×Obj)) (σ:St) (H':Hp) (a:Addr) (C:Value) (dd:Option Addr) (s':Shared):Prop:=∃(Hc:Hp) (sc:Shared),Inv X pins σ Hc sc∧s'.os=sc.os∧AllBare s'.gens∧Un (oz X.stack) [] Hc H' sc.heap s'.heap∧mF X.prog X.w H' s'.heap∧jA H' sc.heap s'.heap a C dd
abbrev jo (X:Cx) (pins:List (Addr×Obj)) (σ:St) (H':Hp) (a:Addr) (C:Value) (s':Shared):Prop:=dF X pins σ H' a C none s'
section
variable {X:Cx} {pins:List (Addr×Obj)} {σ:St} {H H':Hp} {a:Addr} {C:Value} {dd:Option Addr} {s s':Shared}
theorem dF.inv (t:dF X pins σ H' a C dd s'):Inv X pins σ H' s':=by
 obtain⟨Hc,sc,I,os,bare,un,hok,fl⟩:=t
 exact I.A2 os un hok bare fun b z=>absurd z (by simp)
theorem jo.made {vs:List Value} {h':Heap} {e:Addr} (I:Inv X pins σ H s) (m:Heap.MadeExcOf s.heap h' e C vs):jo X pins σ H e C { s with heap:=h' }:=by
 obtain⟨t,ht,_⟩:=m.there
 have hn:H e=none:=by
  cases q:H e with
  | none=>rfl
  | some u=>obtain⟨ob,z⟩:=cE.at (I.hok e u q);rw [m.new] at z;cases z
 exact⟨H,s,I,rfl,I.bare,Un.kept m.keeps,I.hok.kept m.keeps,m.new,hn,_,_,ht,rfl,rfl,rfl,.inl rfl⟩
theorem dF.note {Q:Unit→Shared→Prop} {E:Value→Shared→Prop} (t:dF X pins σ H' a C dd s') (hst:X.stack=X.env :: X.outer) (hf:X.env.frame=some X.env.locals)
  (h:∀s'',dF X pins σ H' a C dd s''→Q () s''):wpAny (model X.prog X.w) X.A (noteFrame (.ref a) X.env) (fun _ s=>wpAny (model X.prog X.w) X.A (setFlight (.ref a) none) Q E s) E s':=by
 have I':=t.inv
 obtain⟨Hc,sc,I,os,bare,un,hok,fl⟩:=t
 have hfr:=I'.ok.frames
 have FF:=I'.stack
 have ff:=I'.t5
 rw [hst] at hfr FF ff un
 refine Ax hfr hf FF ff hok un fl fun h' un' hok' fl'=>h _ ⟨Hc,sc,I,os,bare,by rw [hst];exact un',hok',fl'⟩
theorem dF.leave {P:Program} {w:World} {K:PySem.W.Frag} {mg:Str→Option Value} {base:Heap} {N:List Str} {qual:Str} {scope:Scope} {f:Addr} {cd:Value} {A:Around} {outer:List Env} {s0:Shared} {H0:Hp} {E:XK}
  (t:dF (gw (Dt P w) P w K mg base N qual scope f cd A outer s0 H0 E) pins σ H' a C dd s') (q:E C dd H'):(gw (Dt P w) P w K mg base N qual scope f cd A outer s0 H0 E).xe (.ref a) s':=by
 show wpAny (model P w) _ (leaving _ (.ref a)) _ _ s'
 unfold leaving
 refine KJ (t.note rfl rfl fun s'' t''=>?_)
 have I:=t''.inv
 obtain⟨Hc,sc,Ic,os,bare,un,hok,fl⟩:=t''
 refine⟨a,C,dd,H',rfl,I.os,I.bare,I.base,I.hok,fl.Ey fun b o e=>?_,q⟩
 exact Ic.base.there b o e (by show b∉([]:List Addr);simp)
end
structure vc extends Ends3 where
 xc:Str→Prop
abbrev wc:=vc→En→Prop
def XZ (X:Cx) (B:Base) (xc:Str→Prop):Value→Shared→Prop:=fun ex s'=>∃(pins:List (Addr×Obj)) (a:Addr) (c:Str) (C:Value) (σ':St) (H' F':Hp) (env':En),ex=.ref a∧jo X pins σ' H' a C s'∧Rep X.K B F' H' σ' env'∧X.mg c=some C∧xc c
structure QZ (X:Cx) (st:Stmt) (t:wc):Prop where
 of ::
 run:∀(B:Base) (σ:St) (F H:Hp) (env:En) (D:vc),Rep X.K B F H σ env→t D env→wS (X.cu (XZ X B D.xc)) st (RS X B D.toEnds3) σ H
structure Ej (X:Cx) (st:List Stmt) (t:wc):Prop where
 of ::
 run:∀(B:Base) (σ:St) (F H:Hp) (env:En) (D:vc),Rep X.K B F H σ env→t D env→wSs (X.cu (XZ X B D.xc)) st (RS X B D.toEnds3) σ H
section
variable {X:Cx} {c e:Expr} {es:List Expr} {st:Stmt} {sts xs ys:List Stmt} {t u:bH} {p q:wc} {tc:TB} {te:TD} {ts:fF} {pos:Pos}
theorem SP.xv {E E':Value→Shared→Prop} {pins:List (Addr×Obj)} {D:Ends} {f:Flow} {s':Shared} (h:SP (X.cu E) pins D f s'):SP (X.cu E') pins D f s':=by
 cases f with
 | next=>obtain⟨σ',H',I,q⟩:=h;exact⟨σ',H',I.bo.cu _,q⟩
 | brk=>obtain⟨σ',H',I,q⟩:=h;exact⟨σ',H',I.bo.cu _,q⟩
 | cont=>obtain⟨σ',H',I,q⟩:=h;exact⟨σ',H',I.bo.cu _,q⟩
 | ret u=>obtain⟨v,σ',H',I,r,q⟩:=h;exact⟨v,σ',H',I.bo.cu _,r,q⟩
theorem FZ {E:Value→Shared→Prop} {D:Ends} {σ:St} {H:Hp} (h:wS X.oO st D σ H):wS (X.cu E) st D σ H:=fun pins s I =>
 Li (h pins s (I.bo.cu _)) (fun _ _ q=>SP.xv q) fun _ _ z=>False.elim z
theorem Dg {E:Value→Shared→Prop} {D:Ends} {σ:St} {H:Hp} (h:wSs X.oO sts D σ H):wSs (X.cu E) sts D σ H:=fun pins s I =>
 Li (h pins s (I.bo.cu _)) (fun _ _ q=>SP.xv q) fun _ _ z=>False.elim z
theorem Ce {E:Value→Shared→Prop} {Q:Bool→Hp→Prop} {σ:St} {H:Hp} (h:wT X.oO c σ H Q):wT (X.cu E) c σ H Q:=fun pins s I =>
 Li (h pins s (I.bo.cu _)) (fun _ _ ⟨H',I',q⟩=>⟨H',I'.bo.cu _,q⟩) fun _ _ z=>False.elim z
theorem E6 {E:Value→Shared→Prop} {Q:VK} {σ:St} {H:Hp} (h:wE X.oO e σ H Q):wE (X.cu E) e σ H Q:=fun pins s I =>
 Li (h pins s (I.bo.cu _)) (fun _ _ ⟨v,H',I',r,q⟩=>⟨v,H',I'.bo.cu _,r,q⟩) fun _ _ z=>False.elim z
theorem AR {E:Value→Shared→Prop} {Q:List V→Hp→Prop} {σ:St} {H:Hp} (h:wA X.oO es σ H Q):wA (X.cu E) es σ H Q:=fun pos pins s I =>
 Li (h pos pins s (I.bo.cu _)) (fun _ _ ⟨v,H',I',r,q⟩=>⟨v,H',I'.bo.cu _,r,q⟩) fun _ _ z=>False.elim z
def wR (t:bH):wc:=fun D env=>t D.toEnds3 env
theorem nT (h:QS X.oO st t):QZ X st (wR t):=⟨fun B σ F H env D r hq=>FZ (h B σ F H env D.toEnds3 r hq)⟩
theorem FK (h:nS X.oO sts t):Ej X sts (wR t):=⟨fun B σ F H env D r hq=>Dg (h B σ F H env D.toEnds3 r hq)⟩
def lG (t u:wc):wc:=fun D env=>t { D with nx:=u D } env
theorem yS (h:QZ X st p):Ej X [st] p:=⟨fun B σ F H env D rp hq=>kZ (ua zQ) (h.run B σ F H env D rp hq)⟩
theorem pC (h1:QZ X st p) (h2:Ej X sts q):Ej X (st :: sts) (lG p q):=by
 refine⟨fun B σ F H env D rp h=>kZ (pT zQ eI) ?_⟩
 exact sP (h1.run B σ F H env { D with nx:=q D } rp h) (fun σ' H' ⟨F',env',rp',q⟩=>h2.run B σ' F' H' env' D rp' q) (fun _ _ q=>q) (fun _ _ q=>q) (fun _ _ q=>q)
def Ho (c:TB) (t u:wc):wc:=fun D env=>c env fun k=>if k=true then t D env else u D env
theorem HM (hc:QT X.oO c tc) (ha:Ej X xs p) (hb:Ej X ys q):QZ X (.If c xs ys pos) (Ho tc p q):=by
 refine⟨fun B σ F H env D rp h=>eB (EL qq eI eI) ?_⟩
 refine gJ (Ce (hc B σ F H env _ rp h)) fun k H1 ⟨F1,r1,s1,q1⟩=>?_
 cases k with
 | true=>exact ha.run B σ F1 H1 env D r1 q1
 | false=>exact hb.run B σ F1 H1 env D r1 q1
theorem Dx {K:PySem.W.Frag} {h:Heap} {C:Addr} {bmB:List Value} {newId:String} (X:K.In h) (q:PySem.W.excIn K C bmB newId=true) :
  ∃bm N nm qn bs hdct sn sub ab col dd k0 k1 k2 k3 k5 mN,h.get? C=some (excClassObj nm qn C N bs bm hdct sn sub ab col dd k0 k1 k2 k3 k5 newId)∧h.Ns N mN∧mN "__init__" = none∧OwnTail h bmB bm:=by
 unfold PySem.W.excIn at q
 split at q
 ·rename_i dd cd sl ho
  split at q
  ·rename_i C' bm k0 k1 k2 k3 n k5 hm hs
   simp only [Bool.and_eq_true,beq_iff_eq,Bool.not_eq_true'] at q
   obtain⟨⟨⟨⟨⟨rfl,rfl⟩,hdel⟩,ht⟩,hok⟩,hni⟩:=q
   obtain⟨nm,bs,mro,ns,qn,hd,sn,sub,ab,col,del⟩:=cd
   dsimp only at hm hdel hok hni
   subst hm hdel
   have hsl:sl=#[k0,k1,k2,k3,some (.builtin n),k5]:=by
    obtain⟨l⟩:=sl
    simp only at hs
    rw [hs]
   subst hsl
   exact⟨bm,ns,nm,qn,bs,hd,sn,sub,ab,col,dd,k0,k1,k2,k3,k5,_,X _ _ ho,.of_isNs (PySem.W.isNs_of_in X hok),PySem.W.nsMap_none_of_in X hok hni,PySem.W.tail_of_in X ht⟩
  ·cases q
 ·cases q
abbrev EJ (K:PySem.W.Frag) (C:Addr):Bool:=PySem.W.excIn K C [.type "ValueError",.type "Exception",.type "BaseException",.type "object"] "ValueError.__new__"
def kY (cx:Str) (ts:fF):wc:=fun D env=>ts env fun xs=>xs.length≤sizeLine∧D.xc cx
theorem AV {cx:Str} {C:Addr} {np cpos:Pos} (hC:X.mg cx=some (.ref C)) (hq:EJ X.K C=true) (hc:X.calm=true) (ha:QA X.oO [e] ts) (hg:Gl X cx:=by rfl) (hdb:(cx == ("__debug__" : Str))=false:=by decide)
  (he:starEach [e] X.env=(false,eval e X.env) :: starEach [] X.env:=by exact a6 rfl) (hplain:(backTo cpos (starEach ([]:List Expr) X.env)).any (·.1)=false:=by rfl) :
  QZ X (.Raise (some (.Call (.Name cx np) [e] [] cpos)) none pos) (kY cx ts):=by
 refine⟨fun B σ F H env D rp h pins s I=>?_⟩
 have I0:=I.bo
 obtain⟨bm,N,nm,qn,bs,hdct,sn,sub,ab,col,dd,k0,k1,k2,k3,k5,mN,hCo,hN,hni,T⟩:=Dx I0.ok.mod.kin hq
 refine wpAny_Raise_call_subT (C:=C) (nm:=nm) (q:=qn) (N:=N) (bs:=bs) (bm:=bm) (hdct:=hdct) (sn:=sn) (sub:=sub) (ab:=ab) (col:=col) (dd:=dd) (k0:=k0) (k1:=k1) (k2:=k2) (k3:=k3) (k5:=k5)
  PySem.F.excBase_ValueError (mN:=mN) (T.hasType (by decide +kernel)) (I0.ok.hd hc) (by rw [he];show (false || (backTo cpos (starEach [] X.env)).any (·.1))=false;rw [hplain];rfl) hni (gN I hg hC ⟨rfl,?_⟩ hdb)
 have hw:=AR (E:=XZ X B D.xc) (ha B σ F H env _ rp h) cpos pins s I
 rw [he] at hw ⊢
 refine Calls.evalArgs_plain (Li hw (fun us s2 ⟨vs,H2,I2,rv,F2,ds,r2,s2',d2,hl,q2⟩=>⟨rfl,?_,?_,?_,?_,fun h' e' m=>?_⟩) fun _ _ y=>y)
 ·show us.length≤sizeLine
  rw [← rv.length,← d2.length];exact hl
 ·exact I2.bk _ _ hCo
 ·exact hN.keeps I2.bk
 ·exact T.keeps I2.bk
 ·exact⟨pins,e',cx,.ref C,σ,H2,F2,env,rfl,jo.made I2.bo m,r2,hC,q2⟩
end
end L2.L3
namespace L2.L3
open PySem PySem.Spec PyProof.Rows
abbrev BS:=List D→(D→Prop)→(Str→Prop)→Prop
def Ko (K:PySem.W.Frag) (mg:Str→Option Value) (f:BS):Sp:=fun vs H Q E=>∃(F:Hp) (ds:List D) (P:D→Prop) (R:Str→Prop),ar F H∧aq K F ds vs∧f ds P R ∧
 (∀(d:D) (v:V) (F' H':Hp),ar F F'→ar H H'→ar F' H'→(∀p,H p≠none→F p=none→F' p=none)→Den K F' d v→P d→Q v H') ∧
 ∀(c:Str) (C:Value) (F' H':Hp),ar F F'→ar H H'→ar F' H'→(∀p,H p≠none→F p=none→F' p=none)→mg c=some C→R c→E C none H'
structure iC (P:Program) (w:World) (K:PySem.W.Frag) (mg:Str→Option Value) (base:Heap) (k:Nat) (x:Str) (f:BS):Prop where
 ex:∃(fa:Addr) (fd:FuncData) (ps:List Str),mP P w K mg base (Dt P w) k fa fd ps (Ko K mg f)∧mg x=some (.ref fa)∧PySem.W.keepIn K (.ref fa)=true∧Binds K fd ps []
section
variable {P:Program} {w:World} {K:PySem.W.Frag} {mg:Str→Option Value} {base:Heap}
theorem og.xO {x qual:Str} {st:Stmt} {fa:Addr} {fd:FuncData} {N ps:List Str} {k:Nat} {f:BS} (F:og K x qual st fa fd) (S:aD N ps (ak st)) (hmg:mg x=some (.ref fa)) (hb:Binds K fd ps [])
  (hl:∀ds Q R,f ds Q R→ds.length=ps.length)
  (hbody:∀(cdv:Value) (A:Around) (outer:List Env) (s:Shared) (H:Hp) (E:XK),dg k (A.deeper (envOfC qual (ak st) s.heap.objs.size fa cdv)) →
   ∃t,Ej (gw (Dt P w) P w K mg base N qual (ak st) fa cdv A outer s H E) (a9 st) t∧∀ds (Q:D→Prop) (R:Str→Prop),f ds Q R→t { nx:=fun _=>Q .non,rt:=Q,xc:=R } (aE N ds)) :
  iC P w K mg base (k + 1) x f:=by
 refine⟨fa,fd,ps,?_,hmg,F.kp,hb⟩
 obtain⟨oc,od,kV,doc,pm,an,cdv,ct,osl,rfl,lk,hcd⟩:=F.ex
 refine yg lk hcd S (fun vs H Q E h=>?_) fun A outer s H vs Q E hr h=>?_
 ·obtain⟨F0,ds,P,R,_,hd,hf,_⟩:=h
  rw [← hd.length];exact hl ds _ _ hf
 ·obtain⟨F0,ds,P',R,fh,hd,hf,kk,kx⟩:=h
  obtain⟨t,ht,hq⟩:=hbody cdv A outer s H E hr
  refine⟨_,eI,?_⟩
  have core:=ht.run _ (start N vs) F0 H (aE N ds) _ (gf fh hd) (hq ds P' R hf)
  intro pins s1 I
  refine Li (core pins s1 (I.cu _)) (fun fl s2 z=>?_) fun ex s2 z=>?_
  ·refine oH (SP.bo z) (fun σ' H' ⟨F',env',r,q⟩=>?_) (fun v H' ⟨F',d',r,dd,q⟩=>?_) (fun _ _ ⟨_,_,_,q⟩=>q) (fun _ _ ⟨_,_,_,q⟩=>q)
   ·exact kk .non .non F' H' r.f0 r.h0 r.fh (fun p h1 h2=>r.nf p ⟨h1,h2⟩) jR q
   ·exact kk d' v F' H' r.f0 r.h0 r.fh (fun p h1 h2=>r.nf p ⟨h1,h2⟩) dd q
  ·obtain⟨pins',a,c,C,σ',H',F',env',rfl,th,r,hm,hx⟩:=z
   exact th.leave (kx c C F' H' r.f0 r.h0 r.fh (fun p h1 h2=>r.nf p ⟨h1,h2⟩) hm hx)
end
abbrev TX:=En→(D→Prop)→(Str→Prop)→Prop
def XX (X:Cx) (pins:List (Addr×Obj)) (σ:St) (B:Base) (env:En) (R:Str→Prop):Value→Shared→Prop:=fun ex s'=>∃(a:Addr) (c:Str) (C:Value) (H' F':Hp),ex=.ref a∧jo X pins σ H' a C s'∧Rep X.K B F' H' σ env∧X.mg c=some C∧R c
structure QX (X:Cx) (e:Expr) (t:TX):Prop where
 of ::
 run:∀(B:Base) (σ:St) (F H:Hp) (env:En) (Q:D→Prop) (R:Str→Prop),Rep X.K B F H σ env→t env Q R→∀(pins:List (Addr×Obj)) (s:Shared),Inv X pins σ H s →
  wpAny (model X.prog X.w) X.A (eval e X.env) (EP X pins σ (RV X B σ env F Q)) (XX X pins σ B env R) s
def kP (f:BS) (ts:fF):TX:=fun env Q R=>ts env fun xs=>f xs Q R
section
variable {X:Cx} {e:Expr} {es:List Expr} {ts:fF} {tx:TX} {p pos:Pos} {x:Str} {k:Nat} {f:BS}
theorem yJ (h:iC X.prog X.w X.K X.mg X.base k x f) (hr:dg k X.A) (ha:QA X.oO (e :: es) ts) (hg:Gl X x:=by rfl) (hdb:(x == ("__debug__" : Str))=false:=by decide)
  (he:starEach (e :: es) X.env=(false,eval e X.env) :: starEach es X.env:=by exact a6 rfl) (hpl:(backTo pos (starEach es X.env)).any (·.1)=false:=by rfl):QX X (.Call (.Name x p) (e :: es) [] pos) (kP f ts):=by
 refine⟨fun B σ F H env Q R rp hq pins s I=>?_⟩
 obtain⟨fa,fd,ps,G,hm,hk,hb⟩:=h.ex
 refine wpAny_Call_Name_kw (gN I hg hm ?_ hdb)
 have hw:=AR (E:=XX X pins σ B env R) (ha B σ F H env _ rp hq) pos pins s (I.cu _)
 refine PySem.W.callWith_K (h₀:=X.base) I.ok.mod.kin hk (b9 hw fun us s1 ⟨vs,H1,I1,r,F1,ds,r1,s1',d1,hf⟩=>⟨I1.yH,?_⟩) he hpl
 have I1':=I1.bo
 have hsp:Ko X.K X.mg f (vs ++ []) H1 (RV X B σ env F Q) (fun C dd H'=>dd=none∧∃(c:Str) (F':Hp),Rep X.K B F' H' σ env∧X.mg c=some C∧R c):=by
  rw [Lu]
  exact⟨F1,ds,Q,R,r1.fh,d1,hf,fun d v F' H' a b c n hd q=>⟨F',d,r1.ext a c b n,s1'.trans a,hd,q⟩,fun c C F' H' a b c' n hm hx=>⟨rfl,c,F',r1.ext a c' b n,hm,hx⟩⟩
 have hl:(us ++ []).length=ps.length:=by
  have:=G.len _ _ _ _ hsp
  rw [Lu] at this ⊢
  rw [← r.length];exact this
 refine wpAny_call (codeAny_mono (G.run X.A X.stack s1 H1 ⟨us,[]⟩ (us ++ []) (vs ++ []) _ _ hr I1'.iK (hb s1 us I1'.yH hl) (by simpa using r) hsp) fun rs s' hq'=>?_)
 cases rs with
 | error ex =>
  obtain⟨a,C,dd,H',rfl,os,bare,un,hok,fl,rfl,c,F',r',hm',hx⟩:=hq'
  exact⟨a,c,C,H',F',rfl,⟨H1,s1,I1',os,bare,un,hok,fl⟩,r',hm',hx⟩
 | ok fl =>
  cases fl with
  | ret u=>exact I1'.after hq'
  | next=>exact False.elim hq'
  | brk=>exact False.elim hq'
  | cont=>exact False.elim hq'
theorem QX.w (h:QX X e tx) {B:Base} {σ:St} {F H:Hp} {env:En} {Q:D→Prop} {R:Str→Prop} (rp:Rep X.K B F H σ env) (hq:tx env Q R):wE (X.cu (XZ X B R)) e σ H (RV X B σ env F Q):=fun pins s I =>
 Li (h.run B σ F H env Q R rp hq pins s I.bo) (fun _ _ ⟨v,H',I',r,q⟩=>⟨v,H',I'.cu _,r,q⟩) fun ex s' ⟨a,c,C,H',F',e,t,r,m,x⟩=>⟨pins,a,c,C,σ,H',F',env,e,t,r,m,x⟩
def zg (i:Nat) (tx:TX):wc:=fun D env=>tx env (fun x=>D.nx (env.set i (some (.d x)))) D.xc
theorem GC {y:Str} {pos':Pos} (i:Nat) (hN:X.N.Nodup) (h:QX X e tx) (hi:X.N[i]?=some y:=by rfl) (hx:Loc X.env.scope y:=by first | exact Or.inl rfl | exact Or.inr rfl) (hs:swapsWith e (some (.Name y pos')) pos.line X.env=pure false:=by rfl)
  (hf:X.fn y=true∨X.env.scope.names.lookup y=some .local:=by first | exact .inl rfl | exact .inr rfl):QZ X (.Assign [.Name y pos'] e pos) (zg i tx):=by
 refine⟨fun B σ F H env D rp hq pins s I=>?_⟩
 refine p5 (X:=X.cu (XZ X B D.xc)) (i:=i) hN hi hx bR hs hf pins s σ H _ I ?_
 refine aL (h.w rp hq) fun v H1 ⟨F1,d,r1,s1,d1,q1⟩=>⟨F1,_,r1.set d1 ?_,q1⟩
 rw [I.len];exact (KL.mp hi).1
end
section
variable {X:Cx} {pins:List (Addr×Obj)} {σ:St} {H H':Hp} {a:Addr} {s s':Shared}
theorem AY.ext {a C:Addr} {h:Heap} {H:Hp} {h0:Heap} (f:AY H h0 h a (.ref C)):excAt a C h:=by
 obtain⟨_,_,oe,vs,he,hc,hdc,hdt,_⟩:=f
 exact⟨oe,vs,he,hc,hdc,hdt⟩
end
end L2.L3
namespace L2.L3
open PySem PySem.Spec PyProof.Rows
section
variable {X:Cx} {pins:List (Addr×Obj)} {σ:St} {H H':Hp} {a C:Addr} {s s':Shared}
theorem jo.GO (t:jo X pins σ H' a (.ref C) s'):H' a=none∧Inv X pins σ (upd H' a (.ext (excAt a C))) s':=by
 obtain⟨Hc,sc,I,os,bare,un,hok,fl⟩:=t
 have x:=AY.ext fl
 obtain⟨n0,na,_⟩:=fl
 refine⟨na,I.A2 os ⟨un.keep,un.slot,fun b o e n hx=>?_,un.there,fun b xs e=>?_,fun b o u e=>?_,fun b ps e=>?_⟩ (fun b u e=>?_) bare fun b z=>absurd z (by simp)⟩
 ·have:b≠a:=fun z=>by subst z;rw [n0] at e;cases e
  rw [aH this];exact un.free b o e n hx
 ·have q:=un.tups b xs e
  rw [aH (bZ q na)];exact q
 ·have q:=un.frzs b o u e
  rw [aH (bZ q na)];exact q
 ·obtain⟨more,q⟩:=un.tbls b ps e
  exact⟨more,by rw [aH (bZ q na)];exact q⟩
 ·by_cases z:b=a
  ·subst z
   rw [aI] at e;cases e
   obtain⟨o,vs,h1,h2⟩:=x
   exact⟨⟨o,vs,h1,h2⟩,⟨o,h1⟩,fun h h' ⟨o,vs,h1,h2⟩ k=>⟨o,vs,k o h1,h2⟩⟩
  ·rw [aH z] at e
   exact (hok b u e).oS (fun _ _ _ q=>q) (fun c q=>by rw [aH (bZ q na)];exact q) fun c xs q=>by rw [aH (bZ q na)];exact q
theorem dF.land {M:Model} {A:Around} {C:Value} {dd:Option Addr} {Q:Unit→Shared→Prop} {E:Value→Shared→Prop} (t:dF X pins σ H' a C dd s') (h:∀s'',dF X pins σ H' a C dd s''→Q () s''):wpAny M A (setFlight (.ref a) none) Q E s':=by
 obtain⟨Hc,sc,I,os,bare,un,hok,n0,na,oe,vs,he,hc,hdc,hd,z⟩:=t
 rcases z with z | ⟨T,oT,ts,h1,hT0,hTn,hTa,hT,hdT,h3⟩
 ·unfold setFlight
  refine KJ (wpAny_field he hd z ?_)
  rw [KQ (by decide)]
  exact KO (h _ ⟨Hc,sc,I,os,bare,un,hok,n0,na,oe,vs,he,hc,hdc,hd,.inl z⟩)
 ·refine wpAny_setFlight_none he hd h1 hT hdT (Lx.mp h3).1 (h _ ?_)
  have other:∀b,b≠T→(s'.heap.update T (Obj.mapFields (·.setIfInBounds 3 Value.none))).get? b=s'.heap.get? b:=fun b hb=>Heap.get?_update_other _ _ (Ne.symm hb)
  have old:∀b o,sc.heap.get? b=some o→b≠T:=fun b o e z=>by subst z;rw [hT0] at e;cases e
  have GX:∀b u,H' b=some u→b≠T:=fun b u e z=>by subst z;rw [hTn] at e;cases e
  refine⟨Hc,sc,I,os,bare,⟨fun b o e n hb hx=>(other b (old b o e)).trans (un.keep b o e n hb hx),fun b o e n hb hx=>?_,un.free,fun b o e hx=>?_,un.tups,un.frzs,un.tbls⟩,fun b u e=>?_,n0,na,oe,vs,(other a (Ne.symm hTa)).trans he,hc,hdc,hd,.inr ⟨T,_,_,h1,hT0,hTn,hTa,Heap.get?_update_self _ hT (Obj.isFreed_of_fields (Obj.data_mapFields hdT _)),Obj.data_mapFields hdT _,?_⟩⟩
  ·obtain⟨sl,q⟩:=un.slot b o e n hb hx
   exact⟨sl,(other b (old b o e)).trans q⟩
  ·obtain⟨o',q⟩:=un.there b o e hx
   exact⟨o',(other b (old b o e)).trans q⟩
  ·refine (hok b u e).oS (fun c v hc q=>?_) (fun _ q=>q) fun _ _ q=>q
   refine (other c ?_).trans q
   rcases hc with z | z
   ·subst z;exact GX c u e
   ·exact GX c _ z
  ·have:=(Lx.mp h3).1
   simp [Array.getElem?_setIfInBounds,this]
theorem Inv.JG {h':Heap} {m':Str→Option Value} {t':Nat} (I:Inv X pins σ H s) (hn:h'.Ns X.env.locals m') (hs:Heap.SameBut X.env.locals s.heap h'):Inv X pins (σ.map fun _=>none) H { s with heap:=h',toks:=t' }:=by
 have lo:∀b o,X.s₀.heap.get? b=some o→b≠X.env.locals:=fun b o e=>Lj (K2 (K8 e) I.ok.above)
 refine⟨I.ok,I.os,I.bare,⟨fun b o e n hb hx=>(hs.2 b (lo b o e)).trans (I.base.keep b o e n hb hx),fun b o e n hb hx=>?_,I.base.free,fun b o e hx=>?_,I.base.tups,I.base.frzs,I.base.tbls⟩,⟨m',hn,fun i x v e1 e2=>?_⟩,fun y c e=>?_,I.free,I.freeC,fun p hp=>?_,fun b ob e=>?_,by simpa using I.len⟩
 ·obtain⟨sl,e1⟩:=I.base.slot b o e n hb hx
  exact⟨sl,(hs.2 b (lo b o e)).trans e1⟩
 ·obtain⟨o',e1⟩:=I.base.there b o e hx
  exact⟨o',(hs.2 b (lo b o e)).trans e1⟩
 ·rw [KU] at e2
  cases q:σ[i]? with
  | none=>rw [q] at e2;cases e2
  | some u=>rw [q] at e2;cases e2
 ·obtain⟨w',z⟩:=I.cell y c e
  exact⟨w',z.sameBut hs (I.Ez y c e)⟩
 ·obtain⟨e,n,ne,nf,d⟩:=I.pin p hp
  exact⟨(hs.2 p.1 ne).trans e,n,ne,nf,d⟩
 ·refine (I.hok b ob e).oS (fun c w' hc q=>(hs.2 c ?_).trans q) (fun _ q=>q) fun _ _ q=>q
  have hfree:=I.free
  rintro rfl
  rcases hc with z | hc
  ·rw [← z,hfree] at e;cases e
  ·rw [hfree] at hc;cases hc
end
abbrev Cx.hand (X:Cx) (a:Addr):Cx:={ X with A:=X.A.mark (some (.ref a)),calm:=false,xe:=fun _ _=>False }
theorem Inv.hand {X:Cx} {pins:List (Addr×Obj)} {σ:St} {H:Hp} {s:Shared} (I:Inv X pins σ H s) (a:Addr):Inv (Cx.hand X a) pins σ H s :=
 ⟨⟨I.ok.mod,I.ok.kind,I.ok.glob,I.ok.blt,I.ok.above,I.ok.inj,I.ok.has,I.ok.cab,(fun z=>by cases z),I.ok.frames,I.ok.stk,I.ok.exf,I.ok.bs,I.ok.bsz,I.ok.noex,I.ok.exfs,I.ok.lM,I.ok.frf⟩,I.os,I.bare,I.base,I.loc,I.cell,I.free,I.freeC,I.pin,I.hok,I.len⟩
theorem Inv.Fe {X:Cx} {a:Addr} {pins:List (Addr×Obj)} {σ:St} {H:Hp} {s:Shared} (ok:X.Ok) (I:Inv (Cx.hand X a) pins σ H s):Inv X pins σ H s :=
 ⟨ok,I.os,I.bare,I.base,I.loc,I.cell,I.free,I.freeC,I.pin,I.hok,I.len⟩
structure uG (K:PySem.W.Frag) (C:Addr):Prop where
 ga:PySem.W.findIn K (.ref C) "__getattribute__" = some (some (.builtin "BaseException.__getattribute__"))
 hk:PySem.W.findIn K (.ref C) "__getattr__" = some none
 dct:PySem.W.hasDictIn K C=true
 fnd:PySem.W.findIn K (.ref C) "__class__" = some (some (.builtin "object.__class__"))
 gt:PySem.W.specialIn K (.builtin "object.__class__") "__get__" = some (some (.builtin "getset_descriptor.__get__"))
 tk:PySem.W.takesIn K (.builtin "object.__class__")=some true
 mro:PySem.W.mroIn K C (.type "object")=some true
 sub:PySem.W.subIn K (.ref C) (.type "BaseException")=some true
theorem find_none {K:PySem.W.Frag} {C:Addr} {name:Str} {a g:Value} (hc:(PySem.W.clsIn K C).isSome=true) (ha:PySem.W.findIn K (.ref C) name=some (some a)) (hg:PySem.W.specialIn K a "__get__" = some (some g)) (ht:PySem.W.takesIn K a=some true) :
  PySem.W.findObj K C none name=some (.bind g a):=by
 obtain⟨cd,hc⟩:=Option.isSome_iff_exists.mp hc
 unfold PySem.W.findObj
 rw [hc,Option.bind_some,ha,Option.bind_some]
 simp [hg,ht]
section
variable {prog:Program} {w:World} {A:Around} {E:Value→Shared→Prop} {K:PySem.W.Frag} {x C:Addr} {ox:Obj} {h:Heap} {g:Array GenState} {d:Drawn} {t:Nat} {os:OsState}
theorem AG (O:uG K C):PySem.W.findObj K C none "__class__" = some (.bind (.builtin "getset_descriptor.__get__") (.builtin "object.__class__")) :=
 find_none (by obtain⟨cd,hc,_⟩:=PySem.W.any_some O.dct;rw [hc];rfl) O.fnd O.gt O.tk
theorem Bx {tk:Tok} {Q:Fin→Shared→Prop} (O:uG K C) (X:K.In h) (I:PySem.W.InstAt h x ox C none) (hq:Q (.done (.ret (.ref C))) ⟨h,g,d,t,os⟩) :
  wpAny (model prog w) A (Builtin.«object.__getattribute__» ⟨[.ref x,.str "__class__" tk],[]⟩) Q E ⟨h,g,d,t,os⟩:=by
 have L0:=I.type (M:=model prog w)
 have L1:=PySem.W.looks_find (M:=model prog w) X I (AG O)
 unfold Builtin.«object.__getattribute__»
 refine KJ (KO (KJ (KO (KJ (L0.at (KJ (L1.at ?_)))))))
 show wpAny _ _ (Builtin.ObjectAttr.bindTo _ _ _ _) _ _ _
 unfold Builtin.ObjectAttr.bindTo
 refine KJ (wpAny_holding (wpAny_call (PySem.W.class_get (s:=⟨h,g,d,t,os⟩) (ox:=ox) (od:=none) X I O.mro ?_)))
 exact KO hq
theorem zx {nameV:Value} {Q:Unit→Shared→Prop} (O:uG K C) (X:K.In h) (I:PySem.W.InstAt h x ox C none) (hq:Q () ⟨h,g,d,t,os⟩) :
  wpAny (model prog w) A (checkBuiltinCall "BaseException.__getattribute__" ⟨[.ref x,nameV],[]⟩) Q E ⟨h,g,d,t,os⟩:=by
 have hk:builtinKind "BaseException.__getattribute__" = some .slot:=by decide +kernel
 have hsplit:splitId "BaseException.__getattribute__" = some ("BaseException","__getattribute__"):=by decide +kernel
 have ha:=F.args_bexc_ga (.ref x) nameV
 have L0:=I.type (M:=model prog w)
 have L2:PySem.W.Looks (model prog w) h (isInstance (.ref x) (.type "BaseException")) true:=L0.andThen (PySem.W.looks_subIn X O.sub)
 simp only [checkBuiltinCall,hk,hsplit]
 refine KJ (L2.at ?_)
 repeat (first | assumption | wp_step)
theorem zO {Q:Option Value→Shared→Prop} (O:uG K C) (X:K.In h) (I:PySem.W.InstAt h x ox C none) (hq:Q (some (.ref C)) ⟨h,g,d,t + 1,os⟩):wpAny (model prog w) A (getAttr? (.ref x) "__class__") Q E ⟨h,g,d,t,os⟩:=by
 have L0:=I.type (M:=model prog w)
 have L1:=PySem.W.looks_findIn (M:=model prog w) X O.ga
 have L2:=PySem.W.looks_findIn (M:=model prog w) X O.hk
 have FB:=PySem.F.attrBase_ValueError
 unfold getAttr? getAttrBy? getAttrBy
 refine KJ (wpAny_mkText (KJ (wpAny_attempt (wpAny_holding (KJ (L0.at (KJ (L1.at ?_))))))))
 have hx1:(onTheHeap (Value.ref C) && Value.builtin "BaseException.__getattribute__" == Value.builtin "object.__getattribute__")=false:=by
  rw [show (Value.builtin "BaseException.__getattribute__" == Value.builtin "object.__getattribute__")=false by decide +kernel];rfl
 show wpAny _ _ (if (onTheHeap (Value.ref C) && Value.builtin "BaseException.__getattribute__" == Value.builtin "object.__getattribute__")=true then _ else _) _ _ _
 rw [hx1,KQ (by decide)]
 unfold getAttrByItsOwn
 refine KJ (L2.at (KJ (wpAny_attempt (wpAny_holding ?_))))
 unfold callGetattribute boundAndCalled
 rw [KQ (by decide),FB.ga.bind]
 refine KJ (KO ?_)
 refine wpAny_call (codeAny_call_builtin FB.ga.plain F.entry_bexc_ga (zx O X I (Bx O X I ?_)))
 exact PySem.W.handed_on rfl (KO hq)
end
theorem sq {K:PySem.W.Frag} {C:Addr} (h:PySem.W.hasDictIn K C=true):∃c d cd sl,K.lookup C=some ⟨c,d,.cls cd,sl⟩:=by
 obtain⟨_,q,_⟩:=PySem.W.any_some h
 unfold PySem.W.clsIn at q
 split at q
 ·exact⟨_,_,_,_,‹_›⟩
 ·cases q
theorem qm {K:PySem.W.Frag} {x C:Addr} (O:uG K C):PySem.W.KitX K (.ref x) (.ref C) (fun h=>∃ox,PySem.W.InstAt h x ox C none) where
 ty:=fun _ _ _ ⟨_,I⟩=>I.type
 it:=fun _ _ kin _ A Q E s keep q=>let ⟨_,_,_,_,e⟩:=sq O.dct;KJ (wpAny_loadPart (keep _ _ (kin _ _ e)) (KO q))
 ne:=fun h tp dd its n sl kin e=>by
  obtain⟨_,_,_,_,e1⟩:=sq O.dct
  cases z:(Value.ref C == Value.ref tp) with
  | false=>rfl
  | true =>
   cases eq_of_beq z
   cases (kin _ _ e1).symm.trans e
 ca:=fun {prog w A E Q s} X p h=>by
  obtain⟨ox,I⟩:=p
  obtain⟨hh,g,d,t,os⟩:=s
  exact zO O X I h
theorem l8 {X:Cx} {c:Str} {p:Pos} {C:Addr} (ac:PySem.W.nsIn X.K mainGlobals c=some (some (.ref C))) (hg:Gl X c:=by rfl) (hdb:(c == ("__debug__" : Str))=false:=by decide):QE X (.Name c p) (cC (.cls c)):=by
 refine⟨fun B σ F H env Q rp hq pins s I=>?_⟩
 refine gN I hg (LH I.ok.mod.kin I.ok.mod.glob ac) ?_ hdb
 exact⟨.ref C,H,I,rfl,F,.cls c,rp,ar.refl _,by simp only [Den];exact⟨C,rfl,ac⟩,hq⟩
inductive uY (K:PySem.W.Frag):List D→List Value→Prop where
 | nil:uY K [] []
 | cons {c:Str} {C:Addr} {ds:List D} {vs:List Value} (h:PySem.W.nsIn K mainGlobals c=some (some (.ref C))) (r:uY K ds vs):uY K (.cls c :: ds) (.ref C :: vs)
inductive Ak (K:PySem.W.Frag) (C:Addr):D→Bool→Prop where
 | ty {n:String} {b:Bool} (e:PySem.W.kitOne K (.ref C) (.type n)=some b):Ak K C (.ty n) b
 | cls {d:Str} {C':Addr} {b:Bool} (h:PySem.W.nsIn K mainGlobals d=some (some (.ref C'))) (e:PySem.W.kitOne K (.ref C) (.ref C')=some b):Ak K C (.cls d) b
 | tup {ds:List D} {vs:List Value} {b:Bool} (h:uY K ds vs) (e:PySem.W.kitAny K (.ref C) vs=some b):Ak K C (.tup ds) b
theorem uY.vals {K:PySem.W.Frag} {F:Hp}:∀{ds:List D} {vs:List Value} {xs:List V} {us:List Value},uY K ds vs→aq K F ds xs→Vals xs us→us=vs
 | _,_,xs,us,.nil,h,r=>by
  simp only [aq] at h;subst h
  cases r;rfl
 | _,_,xs,us,.cons hc rr,h,r=>by
  simp only [aq] at h
  obtain⟨v,rs,rfl,hd,hr⟩:=h
  simp only [Den] at hd
  obtain⟨C',rfl,e⟩:=hd
  rw [hc] at e
  cases e
  cases r with
  | cons q1 q2 =>
   have e1:=(show _=Value.ref _ from q1)
   rw [e1,uY.vals rr hr q2]
def ir (c:Str) (y:D) (b:Bool) (ds:List D) (Q:D→Prop):Prop:=ds=[.exc c,y]∧Q (.bl b)
def HD (K:PySem.W.Frag) (C:Addr) (b:Bool):List V→Hp→VK→Prop:=fun xs H Q=>∃a y,xs=[.ref a,y]∧H a=some (.ext (excAt a C)) ∧
 ((∃n,y=.ty n∧PySem.W.kitOne K (.ref C) (.type n)=some b)∨(∃C',y=.ref C'∧PySem.W.kitOne K (.ref C) (.ref C')=some b)∨∃t zs,y=.ref t∧iZ K H t zs∧∀us,Vals zs us→PySem.W.kitAny K (.ref C) us=some b)∧Q (.bl b) H
section
variable {X:Cx} {C:Addr} {b:Bool} {c:Str} {y:D} {a e2:Expr} {ts:fF} {p pos:Pos}
theorem BX (O:uG X.K C):fL X (.builtin "isinstance") (HD X.K C b):=by
 intro pins s σ H xs us Q I r h
 obtain⟨x,y,rfl,hx,hy,q⟩:=h
 obtain⟨u,w,rfl,rx,ry⟩:=vals2 r
 cases (show u=Value.ref x from rx)
 have fin:∀tk,EP X pins σ Q (.bool b) { s with toks:=tk }:=fun tk=>⟨.bl b,H,I.tok tk,rfl,q⟩
 have at_:∃ox,PySem.W.InstAt s.heap x ox C none:=by
  obtain⟨⟨o,vs,h1,h2,h3,h4⟩,_⟩:=(show cE X.prog X.w H s.heap x (.ext (excAt x C)) from I.hok x _ hx)
  refine⟨o,h1,h2,?_,?_⟩
  ·unfold PySem.W.notCls;rw [h4]
  ·rw [h3];exact True.intro
 rcases hy with ⟨n,rfl,e⟩ | ⟨C',rfl,e⟩ | ⟨t,zs,rfl,hq,e⟩
 ·cases (show w=Value.type n from ry)
  exact PySem.W.kia_one (qm O) I.yH at_ e (fun z=>nomatch z) fin
 ·cases (show w=Value.ref C' from ry)
  exact PySem.W.kia_one (qm O) I.yH at_ e (fun z=>nomatch z) fin
 ·cases (show w=Value.ref t from ry)
  obtain⟨its,vz,⟨o,h1,h2,n,h3⟩,_⟩:=I.tuple hq
  obtain⟨oc,od,odt,osl⟩:=o
  cases h2
  cases h3
  exact PySem.W.kia_tup (qm O) I.yH at_ h1 (e _ vz) (fun z=>nomatch z) fin
theorem FQ (ac:PySem.W.nsIn X.K mainGlobals c=some (some (.ref C))) (hk:Ak X.K C y b):Call3 X (HD X.K C b) (ir c y b):=by
 intro B σ F H env Q ds vs Z rp h hz hf
 obtain⟨rfl,q⟩:=hf
 simp only [aq] at h
 obtain⟨v,r,rfl,hd,v',r',rfl,hd',rfl⟩:=h
 simp only [Den] at hd
 obtain⟨a,C',rfl,e,hF⟩:=hd
 rw [ac] at e
 cases e
 refine⟨a,v',rfl,rp.fh _ _ hF,?_,hz (.bl b) H F (.bl b) rp (ar.refl _) hG q⟩
 cases hk with
 | ty e=>simp only [Den] at hd';subst hd';exact .inl ⟨_,rfl,e⟩
 | cls h e =>
  simp only [Den] at hd'
  obtain⟨C'',rfl,e'⟩:=hd'
  rw [h] at e'
  cases e'
  exact .inr (.inl ⟨_,rfl,e⟩)
 | tup h e =>
  simp only [Den] at hd'
  obtain⟨t,zs,rfl,hq,hl⟩:=hd'
  exact .inr (.inr ⟨t,zs,rfl,ar.cn rp.fh hq,fun us hu=>by rw [uY.vals h hl hu];exact e⟩)
theorem f9 (c:Str) (y:D) (b:Bool) (hm:X.mg "isinstance" = none) (ac:PySem.W.nsIn X.K mainGlobals c=some (some (.ref C))) (O:uG X.K C) (hk:Ak X.K C y b) (ha:QA X [a,e2] ts) (hg:Gl X "isinstance":=by rfl)
  (he:starEach [a,e2] X.env=(false,eval a X.env) :: starEach [e2] X.env:=by exact a6 rfl) (hpl:(backTo pos (starEach [e2] X.env)).any (·.1)=false:=by rfl):QE X (.Call (.Name "isinstance" p) [a,e2] [] pos) (aB (ir c y b) ts) :=
 ub (BX O) (FQ ac hk) hg hm zY ha (he:=he) (hpl:=hpl)
end
end L2.L3
namespace L2.L3
open PySem PySem.Spec PyProof.Rows
section
variable {X:Cx} {a b e:Expr} {ta tb:TD} {ts:fF} {pos:Pos}
theorem zR {cx:Str} {C:Addr} {np cpos:Pos} (ac:PySem.W.nsIn X.K mainGlobals cx=some (some (.ref C))) (hq:EJ X.K C=true) (ha:QA X.oO [e] ts) (hc:X.calm=true:=by rfl) (hg:Gl X cx:=by rfl) (hdb:(cx == ("__debug__" : Str))=false:=by decide)
  (he:starEach [e] X.env=(false,eval e X.env) :: starEach [] X.env:=by exact a6 rfl) (hplain:(backTo cpos (starEach ([]:List Expr) X.env)).any (·.1)=false:=by rfl) :
  QZ X (.Raise (some (.Call (.Name cx np) [e] [] cpos)) none pos) (kY cx ts) :=
 ⟨fun B σ F H env D rp h pins s I=>(AV (X:=X) (pos:=pos) (np:=np) (cpos:=cpos) (LH I.ok.mod.kin I.ok.mod.glob ac) hq hc ha hg hdb he hplain).run B σ F H env D rp h pins s I⟩
end
theorem DJ:bootBuiltins "ValueError" = some (.type "ValueError"):=by decide +kernel
end L2.L3
namespace L2.L3
open PySem PySem.Spec PyProof.Rows
section
variable {X:Cx} {e:Expr} {ts:fF} {p pos:Pos}
def lJ (ds:List D) (Q:List D→Prop):Prop:=match ds with
 | [.lst xs]=>Q xs
 | [.tup xs]=>Q xs
 | _=>False
theorem rX {xs:List D} {Q:List D→Prop}:lJ [.lst xs] Q=Q xs:=rfl
theorem rF {xs:List D} {Q:List D→Prop}:lJ [.tup xs] Q=Q xs:=rfl
def jT (ts:fF):fF:=fun env Q=>ts env fun ds=>lJ ds Q
theorem zC (hm:X.mg "list" = none) (ha:QA X [e] ts) (hg:Gl X "list":=by rfl) (he:starEach [e] X.env=(false,eval e X.env) :: starEach [] X.env:=by exact a6 rfl) (hpl:(backTo pos (starEach ([]:List Expr) X.env)).any (·.1)=false:=by rfl) :
  QF X (.Call (.Name "list" p) [e] [] pos) (jT ts):=by
 refine⟨fun B σ F H env Q rp h=>bY (nE sx hg hm oR i9 (by decide) (by decide) he hpl) ?_⟩
 refine ck (ha B σ F H env _ rp h) fun vs H1 hq0=>?_
 obtain⟨F1,ds,r1,s1,d1,q1⟩:=hq0
 replace q1:lJ ds Q:=q1
 unfold lJ at q1
 split at q1
 ·simp only [aq,Den] at d1
  obtain⟨v,r,rfl,⟨p,ys,rfl,q,r⟩,rfl⟩:=d1
  exact⟨p,ys,rfl,.inl (r1.fh.seq q),fun w hw=>⟨F1,H1,w,ys,_,rfl,hw,rfl,r1,s1,r,q1⟩⟩
 ·simp only [aq,Den] at d1
  obtain⟨v,r,rfl,⟨p,ys,rfl,q,r⟩,rfl⟩:=d1
  exact⟨p,ys,rfl,.inr (ar.cn r1.fh q),fun w hw=>⟨F1,H1,w,ys,_,rfl,hw,rfl,r1,s1,r,q1⟩⟩
 ·exact q1.elim
end
section
variable {X:Cx} {es:List Expr} {pos:Pos}
end
end L2.L3
namespace L2.L3
open PySem PySem.Spec PyProof.Rows
section
variable {X:Cx} {a b c e:Expr} {ta tb tc:TD} {ts:fF} {pos:Pos}
def pq (n:Int) (x:Str):Str:=if n < 1 then Str.empty else if (n == 1 || x.length == 0)=true then x else ⟨(List.replicate n.toNat x.cps).foldl (· ++ ·) #[]⟩
def Iw:R2:=fun x y H Q=>∃z n,x=.str z∧y=.int n∧(-(2 ^ 62)≤n∧n < 2 ^ 62)∧z.length * n.toNat≤1000000∧(pq n z).length≤sizeLine∧Q (.str (pq n z)) H
theorem E8:iX X (binaryOp .Mult) Iw:=by
 intro pins s σ H x y v u Q I rx ry h
 obtain⟨z,n,rfl,rfl,⟨hn1,hn2⟩,hz,hl,q⟩:=h
 obtain⟨t,rfl⟩:=rx
 obtain⟨t',rfl⟩:=ry
 refine P.mul_str ?_ (fun h1 _=>?_) (fun _ _=>?_) ?_
 ·have h1:¬ n < -(2 ^ 63:Int):=by omega
  have h2:¬ n≥(2 ^ 63:Int):=by omega
  rw [decide_eq_false h1,decide_eq_false h2];rfl
 ·have hp:0 < n:=by omega
  have:(z.length:Int) * n≤2 ^ 63 - 1:=by
   have e:((z.length * n.toNat:Nat):Int)=(z.length:Int) * n:=by push_cast;rw [LP (by omega)]
   omega
  exact Int.not_lt.mpr (Int.le_ediv_of_mul_le hp this)
 ·simp only [Builtin.Str.tooLong,sizeLine_eq,decide_eq_false_iff_not];omega
 ·unfold pq at hl q
  by_cases c1:n < 1
  ·rw [KS c1] at hl q ⊢
   exact⟨by decide,⟨.str _,H,I.tok _,⟨_,rfl⟩,q⟩⟩
  ·rw [KQ c1] at hl q ⊢
   by_cases c2:(n == 1 || z.length == 0)=true
   ·rw [KS c2] at hl q ⊢
    exact⟨.str _,H,I,⟨_,rfl⟩,q⟩
   ·rw [KQ c2] at hl q ⊢
    exact⟨hl,⟨.str _,H,I.tok _,⟨_,rfl⟩,q⟩⟩
def By (x y:D) (Q:D→Prop):Prop:=match x,y with
 | .str z,.int n=>(-(2 ^ 62)≤n∧n < 2 ^ 62)∧z.length * n.toNat≤1000000∧(pq n z).length≤sizeLine∧Q (.str (pq n z))
 | _,_=>False
theorem Gq:u7 X Iw By:=by
 intro B σ F H env Q d d' x y Z rp h1 h2 hz hf
 unfold By at hf
 split at hf
 ·rename_i z n
  simp only [Den] at h1 h2
  subst h1 h2
  obtain⟨g1,g2,g3,q⟩:=hf
  exact⟨z,n,rfl,rfl,g1,g2,g3,hz _ H F _ rp (ar.refl _) gG q⟩
 ·exact hf.elim
theorem HL (ha:QE X a ta) (hb:QE X b tb):QE X (.BinOp a .Mult b pos) (aC By ta tb):=xo E8 Gq ha hb
theorem KI {x:Str} {n:Int} {t:Tok} {p:Pos} (ac:PySem.W.nsIn X.K mainGlobals x=some (some (.int n t))) (hg:Gl X x:=by rfl) (hdb:(x == ("__debug__" : Str))=false:=by decide):QE X (.Name x p) (cC (.int n)):=by
 refine⟨fun B σ F H env Q rp hq pins s I=>?_⟩
 refine gN I hg (LH I.ok.mod.kin I.ok.mod.glob ac) ?_ hdb
 exact⟨.int n,H,I,⟨t,rfl⟩,F,.int n,rp,ar.refl _,bC,hq⟩
def Jt:V→Option Int→Option Int→Hp→VK→Prop:=fun x lo hi H Q=>∃z,x=.str z∧z.length≤sizeLine∧Q (.str (Txt.slice z lo hi)) H
theorem Fz:Ds X Jt:=by
 intro pins s σ H x v vl vu lo hi sl Q I rx hs pl pu h
 obtain⟨z,rfl,hz,q⟩:=h
 obtain⟨t,rfl⟩:=rx
 refine⟨"str",_,F.slot_str_getitem.lookup,typeIs_str _ _ _,?_⟩
 have fin:∀t' k,EP X pins σ Q (.str (Txt.slice z lo hi) t') { s with toks:=k }:=fun t' k=>⟨.str _,H,I.tok k,⟨t',rfl⟩,q⟩
 have le:(Txt.slice z lo hi).length≤sizeLine:=LA (Txt.slice_le z _ _) hz
 obtain⟨o,h1,h2,h3⟩:=hs
 cases pl with
 | none =>
  cases pu with
  | none=>exact wpAny_getItem_str_slice (l:=none) (u:=none) (st:=none) ⟨o,h1,h2,h3⟩ rfl (post_val_or_str ⟨le,fin⟩)
  | int j uj=>exact wpAny_getItem_str_slice (l:=none) (u:=some (j,uj)) (st:=none) ⟨o,h1,h2,h3⟩ rfl (post_val_or_str ⟨le,fin⟩)
 | int i ui =>
  cases pu with
  | none=>exact wpAny_getItem_str_slice (l:=some (i,ui)) (u:=none) (st:=none) ⟨o,h1,h2,h3⟩ rfl (post_val_or_str ⟨le,fin⟩)
  | int j uj=>exact wpAny_getItem_str_slice (l:=some (i,ui)) (u:=some (j,uj)) (st:=none) ⟨o,h1,h2,h3⟩ rfl (post_val_or_str ⟨le,fin⟩)
def Jk (x:D) (lo hi:Option Int) (Q:D→Prop):Prop:=match x with
 | .str z=>z.length≤sizeLine∧Q (.str (Txt.slice z lo hi))
 | _=>False
def xR (ta:TD) (tl th:G9):TD:=fun env Q=>ta env fun x=>tl env fun lo=>th env fun hi=>Jk x lo hi Q
theorem yL {lo hi:Option Expr} {tl th:G9} {p2:Pos} (ha:QE X a ta) (hl:QO X lo tl) (hh:QO X hi th):QE X (.Subscript a (.Slice lo hi none p2) pos) (xR ta tl th):=by
 refine⟨fun B σ F H env Q rp h=>?_⟩
 obtain⟨tl',pl,ql⟩:=hl
 obtain⟨th',ph,qh⟩:=hh
 refine bY (vR Fz bR pl ph) ?_
 refine aL (ha B σ F H env _ rp h) fun x H1 hq0=>?_
 obtain⟨F1,d,r1,s1,d1,q1⟩:=hq0
 refine ql B σ F1 H1 env _ _ r1 (fun lo' H2 F2 r2 s2 q2=>?_) q1
 refine qh B σ F2 H2 env _ _ r2 (fun hi' H3 F3 r3 s3 q3=>?_) q2
 have d3:=Den.mono (s2.trans s3) _ _ d1
 unfold Jk at q3
 split at q3
 ·simp only [Den] at d3
  subst d3
  exact⟨_,rfl,q3.1,F3,_,r3,(s1.trans s2).trans s3,gG,q3.2⟩
 ·exact q3.elim
def rJoin (K:PySem.W.Frag):V→List V→Hp→VK→Prop:=fun x xs H Q=>∃z p ys,x=.str z∧xs=[.ref p]∧d9 K H p (ys.map V.str)∧z.length≤16∧(ys.map (·.length)).sum + ys.length≤1048576∧Q (.str (Txt.join z ys)) H
theorem we:∀{ys:List Str} {us:List Value},Vals (ys.map V.str) us→StrsAre us ys
 | [],us,h=>by cases h;exact .nil
 | y :: ys,us,h=>by
  cases h with
  | cons h1 h2 =>
   obtain⟨t,rfl⟩:=h1
   exact .cons y t (we h2)
theorem CV:Jn X "str.join" (rJoin X.K):=by
 intro pins s σ H x xs v us Q I rx rs h
 obtain⟨z,p,ys,rfl,rfl,hq,hz,hw,q⟩:=h
 obtain⟨t,rfl⟩:=rx
 obtain⟨u,rfl,ru⟩:=vals1 rs
 cases ru
 obtain⟨its,vz,pl,_⟩:=I.list hq
 exact join_listW pl.isList (we vz) hz hw fun t' k=>⟨.str _,H,I.tok k,⟨t',rfl⟩,q⟩
def joinR (z:Str) (ds:List D) (Q:D→Prop):Prop:=∃ys:List Str,ds=[.lst (ys.map D.str)]∧z.length≤16∧(ys.map (·.length)).sum + ys.length≤1048576∧Q (.str (Txt.join z ys))
def o5 (ta:TD) (ts:fF):TD:=fun env Q=>ta env fun x=>∃z,x=.str z∧ts env fun ds=>joinR z ds Q
theorem qY {K:PySem.W.Frag} {F:Hp}:∀{ys:List Str} {vs:List V},aq K F (ys.map D.str) vs→vs=ys.map V.str
 | [],vs,h=>by simpa only [List.map_nil,aq] using h
 | y :: ys,vs,h=>by
  simp only [Ll,aq,Den] at h
  obtain⟨v,r,rfl,rfl,h⟩:=h
  rw [qY h];rfl
theorem w4 {apos cpos:Pos} (ha:QE X a ta) (hb:QA X [b] ts) (hbase:attributeBase a "join" X.env (eval a X.env)=eval a X.env:=by rfl)
  (hfew:((backTo cpos (starEach [b] X.env)).all (fun x=>!x.1) && (backToKw cpos (keywordEach [] X.env)).all (fun x=>x.1.isSome)
   && decide ([b].length + ([]:List Keyword).length + (if ([]:List Keyword).isEmpty then 0 else 1) < 30))=true:=by rfl)
  (hline:(apos.endLine == cpos.line)=true:=by rfl) (hs:starEach [b] X.env=(false,eval b X.env) :: starEach [] X.env:=by exact a6 rfl) (hplain:(backTo cpos (starEach ([]:List Expr) X.env)).any (·.1)=false:=by rfl) :
  QE X (.Call (.Attribute a "join" apos) [b] [] cpos) (o5 ta ts):=by
 refine⟨fun B σ F H env Q rp h=>bY (rg PySem.F.plainAttrs_str PySem.F.slot_str_join PySem.F.type_str_join CV bR i9 hbase hfew hline hs hplain) ?_⟩
 refine aL (ha B σ F H env _ rp h) fun x H1 hq0=>?_
 obtain⟨F1,d,r1,s1,d1,z,e,q1⟩:=hq0
 subst e
 simp only [Den] at d1
 subst d1
 refine⟨rfl,?_⟩
 refine ck (hb B σ F1 H1 env _ r1 q1) fun vs H2 hq0=>?_
 obtain⟨F2,ds,r2,s2,d2,ys,e2,h1,h2,q2⟩:=hq0
 ·subst e2
  simp only [aq,Den] at d2
  obtain⟨v,r,rfl,⟨p,ws,rfl,hq,hl⟩,rfl⟩:=d2
  have:=qY hl
  subst this
  exact⟨z,p,ys,rfl,rfl,r2.fh.seq hq,h1,h2,F2,_,r2,s1.trans s2,gG,q2⟩
end
end L2.L3
namespace L2.L3
open PySem PySem.Spec PyProof.Rows
section
variable {X:Cx} {p pos:Pos}
def dE (i:Nat):TD:=fun env Q=>∃xs,env[i]?=some (some (.own xs))∧Q (.int xs.length)
theorem gk {x:Str} {px:Pos} (i:Nat) (hm:X.mg "len" = none) (hg:Gl X "len":=by rfl) (hN:X.N[i]?=some x:=by rfl) (hv:rf X.env.scope x:=by first | exact Or.inl rfl | exact Or.inr (Or.inl rfl) | exact Or.inr (Or.inr rfl)) (hd:(x == ("__debug__" : Str))=false:=by decide)
  (hcd:(x == ("__classdict__" : Str))=false:=by decide) (he:starEach [.Name x px] X.env=(false,eval (.Name x px) X.env) :: starEach [] X.env:=by exact a6 rfl) (hpl:(backTo pos (starEach ([]:List Expr) X.env)).any (·.1)=false:=by rfl) :
  QE X (.Call (.Name "len" p) [.Name x px] [] pos) (dE i):=by
 refine⟨fun B σ F H env Q rp h=>bY (uV l6 hg hm rk (fT (cL hN hv hd hcd) gU he) (by decide) (by decide) he hpl) ?_⟩
 obtain⟨xs,hx,q⟩:=h
 obtain⟨p,vs,h1,h2,h3,h4,h5⟩:=rp.ov i xs hx
 refine⟨.ref p,h1,p,vs,rfl,.inl (d9.of h2),F,.int xs.length,rp,ar.refl _,?_,q⟩
 rw [h5.length];exact bC
theorem IU {x:Str} {a:Addr} {sl:Array (Option Value)} {its:Array Value} {n:Nat} {ns:List Int} {pp:Pos} (ac:PySem.W.nsIn X.K mainGlobals x=some (some (.ref a))) (hl:X.K.lookup a=some ⟨.type "tuple",none,.seq its n,sl⟩) (hs:its.size≤sizeLine) (hv:Vals (ns.map V.int) its.toList)
  (hg:Gl X x:=by rfl) (hdb:(x == ("__debug__" : Str))=false:=by decide):QE X (.Name x pp) (cC (.tup (ns.map D.int))):=by
 refine⟨fun B σ F H env Q rp hq pins s I=>?_⟩
 refine gN I hg (LH I.ok.mod.kin I.ok.mod.glob ac) ?_ hdb
 exact⟨.ref a,H,I,rfl,F,_,rp,ar.refl _,fN (.inr ⟨_,its,n,hl,rfl,rfl,hs,hv,rfl⟩) (nC ns),hq⟩
end
end L2.L3
namespace L2.L3
open PySem PySem.Spec PyProof.Rows
section
variable {X:Cx} {N':List Str} {ix:List Nat} {scope:Scope} {elt a:Expr} {ifs:List Expr} {x:Str} {px py pos spos p pos2:Pos} {tt:TB} {te ta:TD} {ts:fF}
theorem tD {y:Str} (i:Nat) (hNd:X.N.Nodup) (hc:X.calm=true) (O:cN X N' 1 ix scope) (hN:N'.Nodup) (h0:N'[0]?=some x) (hx:(relabel scope X.env).names.lookup x=some .local) (hgl:Gl X "range") (hm:X.mg "range" = none) (ha:QA X [a] ts)
  (ht:∀C s H fp pins,xm (b8 X N' scope C s H fp pins) ifs tt) (he:∀C s H fp pins,QE (b8 X N' scope C s H fp pins) elt te) (hy:X.N[i]?=some y:=by rfl) (hl:Loc X.env.scope y:=by first | exact Or.inl rfl | exact Or.inr rfl)
  (hsw:swapsWith (.ListComp elt [⟨.Name x px,.Call (.Name "range" p) [a] [] pos2,ifs,0⟩] scope pos) (some (.Name y py)) spos.line X.env=pure true:=by rfl) (hf:X.fn y=true∨X.env.scope.names.lookup y=some .local:=by first | exact .inl rfl | exact .inr rfl)
  (hst:starEach [a] X.env=[(false,eval a X.env)]:=by rfl) (hs:∀x,foldedSetIterable (.Call (.Name "range" p) [a] [] pos2) X.env x=pure x:=by intro _;rfl) :
  QS X (.Assign [.Name y py] (.ListComp elt [⟨.Name x px,.Call (.Name "range" p) [a] [] pos2,ifs,0⟩] scope pos) spos) (a7 i (d5 (gY m6 ix ts tt te))):=by
 refine⟨fun B σ F H env D rp h pins s I=>?_⟩
 refine pU hc (nj hgl hm i9 hst) O hNd hy hl hsw hf hs pins s σ H _ I ?_
 refine ck (ha B σ F H env _ rp h) fun vs H1 hq0=>?_
 obtain⟨F1,ds,r1,s1,d1,q1⟩:=hq0
 (try dsimp only at q1);unfold m6 at q1
 split at q1
 ·simp only [aq,Den] at d1
  obtain⟨v,r,rfl,rfl,rfl⟩:=d1
  refine⟨_,rfl,q1.1.1,q1.1.2,?_⟩
  intro a' C s fp pins ha'
  obtain⟨W,w0,step⟩:=nr (X:=X) (px:=px) hN h0 hx ht he s1 r1 nP q1.2 a' C s fp pins ha'
  refine⟨W,w0,fun i' m σ' H' w=>?_⟩
  rcases step i' m σ' H' w with ⟨st,z⟩ | z
  ·refine .inl ⟨st,?_⟩
   obtain⟨F',d,r',s',hd,q'⟩:=RF.rv (Q:=fun x=>D.nx (env.set i (some (.d x)))) z
   refine⟨F',_,r'.set hd ?_,q'⟩
   rw [I.len];exact (KL.mp hy).1
  ·exact .inr z
 ·exact q1.elim
end
end L2.L3
namespace L2.L3
open PySem PySem.Spec PyProof.Rows
section
variable {X:Cx} {b:Expr} {tb:TD} {x:Str} {tab:List (Str×Str)} {a:Addr} {es:Array DictEntry} {n:Nat} {p pos:Pos}
end
end L2.L3
namespace L2.L3
open PySem PySem.Spec PyProof.Rows
section
variable {X:Cx} {e:Expr} {ts:fF} {p pos:Pos}
def zz (i:Nat):bH:=fun D env=>∃xs,env[i]?=some (some (.own xs))∧xs≠[]∧D.nx (env.set i (some (.own xs.dropLast)))
theorem G4 {x:Str} {px apos cpos:Pos} (i:Nat) (hN:X.N[i]?=some x:=by rfl) (hv:rf X.env.scope x:=by first | exact Or.inl rfl | exact Or.inr (Or.inl rfl) | exact Or.inr (Or.inr rfl)) (hd:(x == ("__debug__" : Str))=false:=by decide)
  (hcd:(x == ("__classdict__" : Str))=false:=by decide) (hbase:attributeBase (.Name x px) "pop" X.env (eval (.Name x px) X.env)=eval (.Name x px) X.env:=by rfl) (hline:(apos.endLine == cpos.line)=true:=by rfl)
  (hs:swapsWith (.Call (.Attribute (.Name x px) "pop" apos) [] [] cpos) none pos.line X.env=pure false:=by rfl):QS X (.Expr (.Call (.Attribute (.Name x px) "pop" apos) [] [] cpos) pos) (zz i):=by
 refine⟨fun B σ F H env D rp h=>eB (oo (AX PySem.F.plainAttrs_list PySem.F.slot_list_pop PySem.F.type_list_pop BY (cL hN hv hd hcd) hbase hline) hs) ?_⟩
 obtain⟨xs,hx,hne,q⟩:=h
 obtain⟨p,vs,h1,h2,h3,h4,h5⟩:=rp.ov i xs hx
 have hl:=h5.length
 have hv':vs≠[]:=fun z=>hne (List.eq_nil_of_length_eq_zero (by rw [hl,z];rfl))
 have hlt:vs.length - 1 < vs.length:=by
  have:=List.length_pos_iff.mpr hv'
  omega
 refine⟨.ref p,h1,.inl ⟨rfl,vs,d9.of h2⟩,p,vs,vs[vs.length - 1],rfl,rfl,h2,KP hlt,F,_,rp.change hx h1 ?_,q⟩
 rw [List.dropLast_eq_take,List.dropLast_eq_take,hl]
 exact h5.take _
end
end L2.L3
namespace L2.L3
open PySem
section
variable {Q:D→Prop} {i j:Int} {xs ys:List D} {z z':Str} {C:Int→Int→Prop} {g:Int→Int→D} {k:Bool}
theorem rS:wo C g (.int i) (.int j) Q=(C i j∧Q (g i j)):=rfl
theorem iM:bO (.int i) (.int j) Q=Q (.int (i + j)):=rfl
theorem j7:bO (.lst xs) (.lst ys) Q=(xs.length + ys.length≤sizeLine∧Q (.lst (xs ++ ys))):=rfl
theorem jS:bO (.tup xs) (.tup ys) Q=(xs.length + ys.length≤sizeLine∧Q (.tup (xs ++ ys))):=rfl
theorem jU:bO (.str z) (.str z') Q=(z.length + z'.length≤sizeLine∧Q (.str (z ++ z'))):=rfl
theorem mK:fK (.int i) Q=Q (.int (-i)):=rfl
theorem xq:ja (.int i) (.int j) Q=Q (.bl (decide (i=j))):=by
 unfold ja kz;simp only [dep,a5,Lp,and_self,true_and];rw [Bool.beq_eq_decide_eq]
theorem xA:sT (.int i) (.int j) Q=Q (.bl (!decide (i=j))):=by
 unfold sT kz;simp only [dep,a5,Lp,and_self,true_and];rw [Bool.beq_eq_decide_eq]
theorem xJ:ja (.str z) (.str z') Q=Q (.bl (z == z')):=by
 unfold ja kz;simp only [dep,a5,Lp,and_self,true_and]
theorem xh {k':Bool}:ja (.bl k) (.bl k') Q=Q (.bl (k == k')):=by
 unfold ja kz;simp only [dep,a5,Lp,and_self,true_and]
theorem xp:vt [.int i] Q=Q (.int i.natAbs):=by
 show Q _=Q _
 congr 2
 split <;> omega
theorem kN:kL [.lst xs] Q=Q (.int xs.length):=rfl
theorem mE:kL [.tup xs] Q=Q (.int xs.length):=rfl
theorem nq:kL [.str z] Q=(z.length≤sizeLine∧Q (.int z.length)):=rfl
theorem mJ:o6 [.int i] Q=Q (.int i):=rfl
theorem mQ:o6 [.bl k] Q=Q (.int (if k then 1 else 0)):=rfl
theorem ic:g8 [.lst xs] Q=Q (.tup xs):=rfl
theorem h9:g8 [.tup xs] Q=Q (.tup xs):=rfl
theorem p8:cM (.lst xs)=some xs:=rfl
theorem p7:cM (.tup xs)=some xs:=rfl
theorem Ai {lo hi:Option Int}:Jq (.lst xs) lo hi Q=Q (.lst (cutD xs lo hi)):=rfl
theorem xy {R:Int→Nat→Prop}:m6 [.int j] R=((-(2 ^ 62)≤j∧j < 2 ^ 62)∧R 0 j.toNat):=rfl
theorem wX {R:Int→Nat→Prop}:C4 [.int i,.int j] R=((-(2 ^ 62)≤i∧i < 2 ^ 62∧-(2 ^ 62)≤j∧j < 2 ^ 62)∧R i (j - i).toNat):=rfl
end
def G3 (xs:List D) (R:D→D→Prop):Prop:=match xs with | [x,y]=>R x y | _=>False
theorem su {x y:D} {R:D→D→Prop}:G3 [x,y] R=R x y:=rfl
theorem um (i j:Nat) (ts:fF) (Z:Ends3) (env:En):DD i j ts Z env=ts env fun xs=>G3 xs fun x y=>Z.nx ((env.set i (some (.d x))).set j (some (.d y))):=by
 unfold DD G3
 congr 1;funext xs;apply propext
 constructor
 ·rintro⟨x,y,rfl,h⟩;exact h
 ·intro h;split at h
  ·exact⟨_,_,rfl,h⟩
  ·exact h.elim
def Bg (xs:List D) (R:D→List D→Prop):Prop:=match xs with | x :: r=>R x r | _=>False
theorem pv {x:D} {r:List D} {R:D→List D→Prop}:Bg (x :: r) R=R x r:=rfl
theorem qf (g:ow) (gs:si) (xs:List D) (env:En) (Q:En→Prop):aR g gs xs env Q=Bg xs fun x r=>g x env fun env'=>gs r env' Q:=by
 unfold aR Bg
 apply propext
 constructor
 ·rintro⟨x,y,rfl,h⟩;exact h
 ·intro h;split at h
  ·exact⟨_,_,rfl,h⟩
  ·exact h.elim
theorem bX {g:ow} {tb:bH} {Z:Ends3} {xs:List D} (I:Nat→En→Prop)
  (step:∀(i:Nat) (x:D) (env:En) (N:En→Prop),xs[i]?=some x→I i env→(∀e,I (i + 1) e→N e)→g x env fun e=>tb { Z with nx:=N,ct:=N,bk:=Z.nx } e)
  (done:∀env,I xs.length env→Z.nx env) {env:En} (h0:I 0 env):turns g tb Z xs env:=by
 have go:∀(n k:Nat) (env:En),k + n=xs.length→I k env→turns g tb Z (xs.drop k) env:=by
  intro n
  induction n with
  | zero =>
   intro k env hk h
   rw [Ly (by omega)]
   exact done env (by rw [← hk];exact h)
  | succ n ih =>
   intro k env hk h
   have hx:xs[k]?=some (xs[k]'(by omega)):=by simp
   rw [drop_cons hx]
   exact step k _ env _ hx h fun e he=>ih (k + 1) e (by omega) he
 simpa using go xs.length 0 env (by omega) h0
theorem ia {te:TD} {iK:En} {Q:List D→Prop} (f:D→D):∀(xs acc:List D),(∀x∈xs,∀N:D→Prop,N (f x)→te (iK.set 0 (some (.d x))) N)→acc.length + xs.length≤sizeLine→Q (acc ++ xs.map f)→comps dU te iK Q xs acc
 | [],acc,_,_,q=>by simpa [comps] using q
 | x :: xs,acc,h,hl,q=>by
  simp only [comps,dU,if_true]
  refine h x K9 _ ⟨by simp at hl;omega,ia f xs _ (fun y hy=>h y (K4 _ hy)) (by simp at hl ⊢;omega) (by simpa using q)⟩
theorem rj {te:TD} {iK:En} {Q:List D→Prop} (R:D→D→Prop):∀(xs acc:List D),(∀x∈xs,∀N:D→Prop,(∀y,R x y→N y)→te (iK.set 0 (some (.d x))) N)→acc.length + xs.length≤sizeLine→(∀ys,ys.length=xs.length→(∀(i:Nat) (x y:D),xs[i]?=some x→ys[i]?=some y→R x y)→Q (acc ++ ys))→comps dU te iK Q xs acc
 | [],acc,_,_,q=>by simpa [comps] using q [] rfl (by simp)
 | x :: xs,acc,h,hl,q=>by
  simp only [comps,dU,if_true]
  refine h x K9 _ fun y hy=>⟨by simp at hl;omega,rj R xs _ (fun y hy=>h y (K4 _ hy)) (by simp at hl ⊢;omega) fun ys hl2 hr=>?_⟩
  rw [List.append_assoc]
  refine q (y :: ys) (by simpa using hl2) fun i a b ha hb=>?_
  cases i with
  | zero=>simp at ha hb;subst ha hb;exact hy
  | succ i=>exact hr i a b (by simpa using ha) (by simpa using hb)
theorem oJ {α:Type} {xs:List α} {i:Int} (h0:0≤i) (h1:i < xs.length):kn xs i=xs[i.toNat]?:=by
 unfold L2.kn ux
 rw [KS h0,KS h1];rfl
theorem FJ {Q:D→Prop} {xs:List D} {i:Int} (h0:0≤i) (h1:i < xs.length) (q:∀v,v∈xs→Q v):cR (.lst xs) (.int i) Q:=by
 have hl:i.toNat < xs.length:=by omega
 exact⟨xs[i.toNat],by rw [oJ h0 h1];simp,q _ (LI hl)⟩
theorem bL {a b:Int} (h:0 < b):0≤a.fmod b∧a.fmod b < b:=⟨Int.fmod_nonneg_of_pos a h,Int.fmod_lt_of_pos a h⟩
def aU (n:Nat) (a:Int):Prop:=a.natAbs < 2 ^ n
theorem bits_le {n m:Nat} {a:Int} (h:aU n a) (hm:n≤m):aU m a:=K2 h (Nat.pow_le_pow_right (by decide) hm)
theorem o8 {n:Nat} {a:Int} (h:aU n a):Builtin.Int.intBits a≤n:=by
 unfold Builtin.Int.intBits
 by_cases e:a=0
 ·subst e;simp
 ·rw [KQ (by simpa using e)]
  have:a.natAbs≠0:=by omega
  exact (Nat.log2_lt this).mpr h
theorem bK {n m:Nat} {a b:Int} (ha:aU n a) (hb:aU m b) (h:n + m≤1000000):IntMulOk a b:=by
 have h1:=o8 ha
 have h2:=o8 hb
 unfold IntMulOk Builtin.Int.intTooBig
 have:¬ ((Builtin.Int.intBits a:Int) + (Builtin.Int.intBits b:Int) > (bitsLine:Int)):=by
  have:(1000000:Int)≤(bitsLine:Int):=by decide
  omega
 simp only [Bool.and_eq_true,decide_eq_true_eq]
 rintro⟨_,h3⟩
 exact this h3
theorem bits_mul {n m:Nat} {a b:Int} (ha:aU n a) (hb:aU m b):aU (n + m) (a * b):=by
 unfold aU at *
 rw [Int.natAbs_mul,Nat.pow_add]
 exact Nat.mul_lt_mul'' ha hb
theorem bits_add {n m:Nat} {a b:Int} (ha:aU n a) (hb:aU m b):aU (max n m + 1) (a + b):=by
 unfold aU at *
 have h1:(2:Nat) ^ n≤2 ^ max n m:=Nat.pow_le_pow_right (by decide) (Nat.le_max_left _ _)
 have h2:(2:Nat) ^ m≤2 ^ max n m:=Nat.pow_le_pow_right (by decide) (Nat.le_max_right _ _)
 rw [Nat.pow_succ]
 omega
theorem bits_neg {n:Nat} {a:Int} (ha:aU n a):aU n (-a):=by unfold aU at *;rwa [Int.natAbs_neg]
theorem Ci {n:Nat} {a b:Int} (hb:aU n b) (h0:b≠0) (hn:n≤9000):wa a b:=by
 refine⟨h0,?_⟩
 have:b.natAbs≠0:=by omega
 exact K2 ((Nat.log2_lt this).mpr hb) hn
theorem eJ {a b:Int} (h1:-(2 ^ 64) < a) (h2:a < 2 ^ 64):IntMulOk a b:=.of_left (intBits_le_64 h1 h2)
theorem eF {a b:Int} (h1:-(2 ^ 64) < b) (h2:b < 2 ^ 64):IntMulOk a b:=.of_right (intBits_le_64 h1 h2)
theorem tT {c:Int} (j:Int) (h:j≠0∧j.natAbs < 2 ^ 256):wa c j:=Ci (n:=256) h.2 h.1 (by decide)
theorem vm (i j:Int) (h:0≤j∧j≤1000000∧i.natAbs < 2 ^ 64):FC i j:=h
theorem kU {c:Int} (j:Int) (h:j≠0):oV c j:=h
theorem dR (n:Nat) (a:Int) (h:a.natAbs < 2 ^ n):aU n a:=h
def CU (m:Nat) (b:Int) (d:D):Prop:=∃xs:List Int,d=.lst (xs.map D.int)∧xs.length=m∧∀x∈xs,0≤x∧x < b
theorem wI {m:Nat} {b:Int} {d:D} (h:CU m b d) {i:Int} {Q:D→Prop} (h0:0≤i) (h1:i < m) (q:∀x:Int,0≤x→x < b→Q (.int x)):cR d (.int i) Q:=by
 obtain⟨xs,rfl,hl,hb⟩:=h
 refine FJ h0 (by simpa [hl] using h1) fun v hv=>?_
 obtain⟨x,hx,rfl⟩:=Ls.mp hv
 exact q x (hb x hx).1 (hb x hx).2
theorem vd (ns:List Int) (lo hi:Option Int):cutD (ns.map D.int) lo hi=((ns.drop (HT.d4 ns.length 0 lo)).take (HT.d4 ns.length ns.length hi - HT.d4 ns.length 0 lo)).map D.int:=by
 unfold cutD;rw [KZ,List.map_take,List.map_drop]
def Gd (i:Nat) (e:En):Nat:=match e[i]? with | some (some (.own xs))=>xs.length | _=>0
def HR (i:Nat) (e:En):Nat:=match e[i]? with | some (some (.d (.int j)))=>j.toNat | _=>0
end L2.L3
local macro_rules | `(tactic| simp_all_arith only [$ls,*]) => `(tactic| ((try dsimp only [$(⟨ls.elemsAndSeps⟩),*, L2.L3.aG, L2.L3.hV, L2.L3.bc, L2.L3.br, L2.L3.jk, L2.L3.jx, L2.L3.a7, L2.L3.gT, L2.L3.kd, L2.L3.ib, L2.L3.bF, L2.L3.cP, L2.L3.cv, L2.L3.qy, L2.L3.ag, L2.L3.cC, L2.L3.aC, L2.L3.lq, L2.L3.aK, L2.L3.vf, L2.L3.kc, L2.L3.zw, L2.L3.ED, L2.L3.aB, L2.L3.af, L2.L3.av, L2.L3.bD, L2.L3.eY, L2.L3.d5, L2.L3.kE, L2.L3.BP, L2.L3.fv, L2.L3.c8, L2.L3.cF, L2.L3.aM, L2.L3.fQ, L2.L3.fR, L2.L3.dU, L2.L3.aE, Ll, List.map_nil, List.length_cons, List.length_nil, List.cons_append, List.nil_append, List.getElem?_cons_zero, List.getElem?_cons_succ, List.set_cons_zero, List.set_cons_succ, L2.L3.iQ, L2.L3.gY, L2.L3.rS, L2.L3.iM, L2.L3.j7, L2.L3.jS, L2.L3.jU, L2.L3.mK, L2.L3.kN, L2.L3.mE, L2.L3.nq, L2.L3.mJ, L2.L3.mQ, L2.L3.ic, L2.L3.h9]); (try simp only [$ls,*, L2.L3.aG, L2.L3.hV, L2.L3.bc, L2.L3.br, L2.L3.jk, L2.L3.jx, L2.L3.a7, L2.L3.gT, L2.L3.um, L2.L3.su, L2.L3.kd, L2.L3.ib, L2.L3.bF, L2.L3.cP, L2.L3.cv, L2.L3.qy, L2.L3.ag, L2.L3.cC, L2.L3.aC, L2.L3.lq, L2.L3.aK, L2.L3.vf, L2.L3.kc, L2.L3.zw, L2.L3.ED, L2.L3.aB, L2.L3.af, L2.L3.av, L2.L3.bD, L2.L3.eY, L2.L3.d5, L2.L3.kE, L2.L3.BP, L2.L3.fv, L2.L3.c8, L2.L3.cF, L2.L3.aM, L2.L3.fQ, L2.L3.qf, L2.L3.pv, L2.L3.fR, L2.L3.dU, L2.L3.aE, Ll, List.map_nil, List.length_cons, List.length_nil, List.cons_append, List.nil_append, Lu, List.getElem?_cons_zero, List.getElem?_cons_succ, List.getElem?_nil, List.set_cons_zero, List.set_cons_succ, Option.some.injEq, L2.L3.Lo.d.injEq, L2.L3.Lo.own.injEq, L2.L3.D.bl.injEq, L2.L3.D.int.injEq, exists_eq_left', exists_eq_left, Nat.reduceAdd, Nat.reduceSub, Nat.sub_self, Nat.add_one_sub_one, List.replicate_succ, List.replicate_zero, L2.L3.D.tup.injEq, List.cons.injEq, and_assoc, L2.L3.iQ, L2.L3.gY, L2.L3.rS, L2.L3.iM, L2.L3.j7, L2.L3.jS, L2.L3.jU, L2.L3.mK, L2.L3.xq, L2.L3.xA, L2.L3.xJ, L2.L3.xh, L2.L3.xp, L2.L3.kN, L2.L3.mE, L2.L3.nq, L2.L3.mJ, L2.L3.mQ, L2.L3.ic, L2.L3.h9, L2.L3.p8, L2.L3.p7, L2.L3.Ai, L2.L3.xy, L2.L3.wX, decide_eq_true_eq, true_and, and_true, if_true, if_false, KR, Bool.not_eq_true', decide_eq_false_iff_not, PySem.sizeLine_eq, Int.reduceToNat, Int.reducePow, Int.reduceMul, Int.reduceAdd, Int.reduceNeg, Int.reduceSub, Int.reduceLT, Int.reduceLE, Int.reduceEq, Nat.reduceEqDiff, decide_true, decide_false, Nat.reduceLeDiff, Nat.reduceLT, Bool.true_eq_false, Bool.not_true, Bool.not_false, Bool.not_not])))
local macro_rules | `(tactic| simp_arith! only [$ls,*] $[$loc]?) => `(tactic| ((try dsimp only [$(⟨ls.elemsAndSeps⟩),*, L2.L3.aG, L2.L3.hV, L2.L3.bc, L2.L3.br, L2.L3.jk, L2.L3.jx, L2.L3.a7, L2.L3.gT, L2.L3.kd, L2.L3.ib, L2.L3.bF, L2.L3.cP, L2.L3.cv, L2.L3.qy, L2.L3.ag, L2.L3.cC, L2.L3.aC, L2.L3.lq, L2.L3.aK, L2.L3.vf, L2.L3.kc, L2.L3.zw, L2.L3.ED, L2.L3.aB, L2.L3.af, L2.L3.av, L2.L3.bD, L2.L3.eY, L2.L3.d5, L2.L3.kE, L2.L3.BP, L2.L3.fv, L2.L3.c8, L2.L3.cF, L2.L3.aM, L2.L3.fQ, L2.L3.fR, L2.L3.dU, L2.L3.aE, Ll, List.map_nil, List.length_cons, List.length_nil, List.cons_append, List.nil_append, List.getElem?_cons_zero, List.getElem?_cons_succ, List.set_cons_zero, List.set_cons_succ, L2.L3.iQ, L2.L3.gY, L2.L3.rS, L2.L3.iM, L2.L3.j7, L2.L3.jS, L2.L3.jU, L2.L3.mK, L2.L3.kN, L2.L3.mE, L2.L3.nq, L2.L3.mJ, L2.L3.mQ, L2.L3.ic, L2.L3.h9, L2.L3.kP, L2.L3.kY, L2.L3.Ho, L2.L3.wR, L2.L3.lG, L2.L3.zg, L2.L3.jT, L2.L3.dE, L2.L3.zz] $[$loc]?); (try simp only [$ls,*, L2.L3.aG, L2.L3.hV, L2.L3.bc, L2.L3.br, L2.L3.jk, L2.L3.jx, L2.L3.a7, L2.L3.gT, L2.L3.um, L2.L3.su, L2.L3.kd, L2.L3.ib, L2.L3.bF, L2.L3.cP, L2.L3.cv, L2.L3.qy, L2.L3.ag, L2.L3.cC, L2.L3.aC, L2.L3.lq, L2.L3.aK, L2.L3.vf, L2.L3.kc, L2.L3.zw, L2.L3.ED, L2.L3.aB, L2.L3.af, L2.L3.av, L2.L3.bD, L2.L3.eY, L2.L3.d5, L2.L3.kE, L2.L3.BP, L2.L3.fv, L2.L3.c8, L2.L3.cF, L2.L3.aM, L2.L3.fQ, L2.L3.qf, L2.L3.pv, L2.L3.fR, L2.L3.dU, L2.L3.aE, Ll, List.map_nil, List.length_cons, List.length_nil, List.cons_append, List.nil_append, Lu, List.getElem?_cons_zero, List.getElem?_cons_succ, List.getElem?_nil, List.set_cons_zero, List.set_cons_succ, Option.some.injEq, L2.L3.Lo.d.injEq, L2.L3.Lo.own.injEq, L2.L3.D.bl.injEq, L2.L3.D.int.injEq, exists_eq_left', exists_eq_left, Nat.reduceAdd, Nat.reduceSub, Nat.sub_self, Nat.add_one_sub_one, List.replicate_succ, List.replicate_zero, L2.L3.D.tup.injEq, List.cons.injEq, and_assoc, L2.L3.iQ, L2.L3.gY, L2.L3.rS, L2.L3.iM, L2.L3.j7, L2.L3.jS, L2.L3.jU, L2.L3.mK, L2.L3.xq, L2.L3.xA, L2.L3.xJ, L2.L3.xh, L2.L3.xp, L2.L3.kN, L2.L3.mE, L2.L3.nq, L2.L3.mJ, L2.L3.mQ, L2.L3.ic, L2.L3.h9, L2.L3.p8, L2.L3.p7, L2.L3.Ai, L2.L3.xy, L2.L3.wX, decide_eq_true_eq, true_and, and_true, if_true, if_false, KR, Bool.not_eq_true', decide_eq_false_iff_not, PySem.sizeLine_eq, Int.reduceToNat, Int.reducePow, Int.reduceMul, Int.reduceAdd, Int.reduceNeg, Int.reduceSub, Int.reduceLT, Int.reduceLE, Int.reduceEq, Nat.reduceEqDiff, decide_true, decide_false, Nat.reduceLeDiff, Nat.reduceLT, Bool.true_eq_false, Bool.not_true, Bool.not_false, Bool.not_not, L2.L3.kP, L2.L3.kY, L2.L3.Ho, L2.L3.wR, L2.L3.lG, L2.L3.zg, L2.L3.ir, L2.L3.jT, L2.L3.rX, L2.L3.rF, L2.L3.D.lst.injEq, L2.L3.dE, L2.L3.zz] $[$loc]?)))
namespace L2.L3
open PySem
def F1 (P:D→(D→Prop)→Prop):Fw:=fun ds Q=>∃x,ds=[x]∧P x Q
def F2 (P:D→D→(D→Prop)→Prop):Fw:=fun ds Q=>∃x y,ds=[x,y]∧P x y Q
def F3 (P:D→D→D→(D→Prop)→Prop):Fw:=fun ds Q=>∃x y z,ds=[x,y,z]∧P x y z Q
def F4 (P:D→D→D→D→(D→Prop)→Prop):Fw:=fun ds Q=>∃x y z u,ds=[x,y,z,u]∧P x y z u Q
theorem gH {P}:∀ds Q,F1 P ds Q→ds.length=1:=by rintro ds Q ⟨x,rfl,_⟩;rfl
theorem jg {P}:∀ds Q,F2 P ds Q→ds.length=2:=by rintro ds Q ⟨x,y,rfl,_⟩;rfl
theorem qV {P}:∀ds Q,F3 P ds Q→ds.length=3:=by rintro ds Q ⟨x,y,z,rfl,_⟩;rfl
theorem Il {P}:∀ds Q,F4 P ds Q→ds.length=4:=by rintro ds Q ⟨x,y,z,u,rfl,_⟩;rfl
theorem iS {P} {x:D} {Q}:F1 P [x] Q=P x Q:=by
 unfold F1;apply propext;constructor
 ·rintro⟨x',e,h⟩;cases e;exact h
 ·intro h;exact⟨_,rfl,h⟩
theorem jt {P} {x y:D} {Q}:F2 P [x,y] Q=P x y Q:=by
 unfold F2;apply propext;constructor
 ·rintro⟨x',y',e,h⟩;cases e;exact h
 ·intro h;exact⟨_,_,rfl,h⟩
theorem rJ {P} {x y z:D} {Q}:F3 P [x,y,z] Q=P x y z Q:=by
 unfold F3;apply propext;constructor
 ·rintro⟨x',y',z',e,h⟩;cases e;exact h
 ·intro h;exact⟨_,_,_,rfl,h⟩
theorem El {P} {x y z u:D} {Q}:F4 P [x,y,z,u] Q=P x y z u Q:=by
 unfold F4;apply propext;constructor
 ·rintro⟨x',y',z',u',e,h⟩;cases e;exact h
 ·intro h;exact⟨_,_,_,_,rfl,h⟩
def Jc (p q:Int):D:=if q < 0∨(q=0∧p < 0) then .tup [.int (-p),.int (-q)] else .tup [.int p,.int q]
def Kq (x y:D) (Q:D→Prop):Prop:=∃p q:Int,x=.int p∧y=.int q∧Q (Jc p q)
def fY:Fw:=F2 Kq
def ny:bH:=(aG (hV (zw (aK (aC wm (ag 1) (cC (.int 0)))) (kc (aK (aC ja (ag 1) (cC (.int 0)))) (aK (aC wm (ag 0) (cC (.int 0)))))) (bc (bD (af (lq fK (ag 0)) (af (lq fK (ag 1)) av)))) br) (bc (bD (af (ag 0) (af (ag 1) av)))))
theorem uW:∀ds Q,fY ds Q→ds.length=2:=jg
theorem xE:∀ds (Q:D→Prop),fY ds Q→ny { nx:=fun _=>Q .non,rt:=Q } (aE ["p","q"] ds):=by
 rintro ds Q ⟨x,y,rfl,p,q,rfl,rfl,h⟩
 simp_all_arith only [ny]
 unfold Jc at h
 by_cases h1:q < 0
 ·rw [KS (.inl h1)] at h;simp only [h1,if_true];exact h
 ·by_cases h2:q=0
  ·by_cases h3:p < 0
   ·rw [KS (.inr ⟨h2,h3⟩)] at h;simp only [h1,h2,h3,if_true,if_false];subst h2;exact h
   ·rw [KQ (by omega)] at h;simp only [h1,h2,h3,if_true,if_false];subst h2;exact h
  ·rw [KQ (by omega)] at h;simp only [h1,h2,if_true,if_false];exact h
end L2.L3
namespace L2.L3
open PySem
def EG (ns:List Int) (k:Int):Int:=if k < ns.length then ns.getD k.toNat 0 else 0
def Bj (x y:D) (Q:D→Prop):Prop:=∃(ns:List Int) (k:Int),x=.lst (ns.map D.int)∧y=.int k∧0≤k∧Q (.int (EG ns k))
def cU:Fw:=F2 Bj
def kI:bH:=(aG (hV (aK (aC wm (ag 1) (aB kL (af (ag 0) av)))) (bc (aC cR (ag 0) (ag 1))) br) (bc (cC (.int 0))))
theorem sU:∀ds Q,cU ds Q→ds.length=2:=jg
theorem uI:∀ds (Q:D→Prop),cU ds Q→kI { nx:=fun _=>Q .non,rt:=Q } (aE ["_law_script","_law_k"] ds):=by
 rintro ds Q ⟨x,y,rfl,ns,k,rfl,rfl,hk,h⟩
 simp_all_arith only [kI,KZ]
 unfold EG at h
 by_cases hl:k < ns.length
 ·rw [KS hl] at h ⊢
  have hn:k.toNat < ns.length:=by omega
  refine⟨.int (ns.getD k.toNat 0),?_,h⟩
  rw [oJ hk (by simpa using hl)]
  simp [hn]
 ·rw [KQ hl] at h ⊢;exact h
def yO (x y z:D) (Q:D→Prop):Prop:=∃(c b:Int) (m:Nat),x=.int c∧y=.int b∧z=.int m∧0 < b∧aU 9000 b∧m≤100000∧∀d,CU m b d→Q d
def cZ:Fw:=F3 yO
def iE:bH:=(aG (bF 3 (kE av)) (aG (ib m6 (af (ag 2) av) (aM 4) (aG (cP 3 (aC gz (ag 0) (ag 1))) (a7 0 (aC jN (ag 0) (ag 1))))) (cv 3 (bc (ag 3)))))
theorem pG:∀ds Q,cZ ds Q→ds.length=3:=qV
theorem qF:∀ds (Q:D→Prop),cZ ds Q→iE { nx:=fun _=>Q .non,rt:=Q } (aE ["_law_cell_here","_law_base","_law_many","_law_row_here","_law_k"] ds):=by
 rintro ds Q ⟨x,y,z,rfl,c,b,m,rfl,rfl,rfl,hb,hbb,hm,h⟩
 simp_all_arith only [iE]
 refine⟨by omega,by omega,?_⟩
 refine bX (fun i e=>∃(c':Int) (xs:List Int) (k:Option Lo),e=[some (.d (.int c')),some (.d (.int b)),some (.d (.int m)),some (.own (xs.map D.int)),k]∧xs.length=i∧∀x∈xs,0≤x∧x < b) ?_ ?_ ⟨c,[],none,rfl,rfl,by simp⟩
 ·rintro i x env N hx ⟨c',xs,k,rfl,hl,hxs⟩ hN
  have hi:i < m:=by have:=(KL.mp hx).1;simpa [a8] using this
  simp_all_arith only [KZ]
  refine⟨by omega,?_,Ci hbb (by omega) (by omega),?_⟩
  ·show b≠0;omega
  ·refine hN _ ⟨c'.fdiv b,xs ++ [c'.fmod b],some (.d x),by simp,by simp [hl],?_⟩
   intro y hy
   rcases Lf.mp hy with hy | hy
   ·exact hxs y hy
   ·rw [Le.mp hy];exact bL hb
 ·rintro env ⟨c',xs,k,rfl,hl,hxs⟩
  simp_all_arith only [and_true]
  exact h _ ⟨xs,rfl,by simpa [a8] using hl,hxs⟩
def dQ:Fw:=F3 yO
def jC:bH:=(aG (bF 3 (kE av)) (aG (ib m6 (af (ag 2) av) (aM 4) (aG (a7 5 (aC gz (aC cQ (aC bO (aC bO (aC bO (aC gz (ag 0) (cC (.int 998244353))) (aC cQ (aC cQ (cC (.int 31)) (ag 4)) (ag 4))) (aC cQ (cC (.int 1013)) (ag 4))) (cC (.int 1))) (cC (.int 48271))) (cC (.int 2147483647)))) (aG (a7 6 (aC gz (aC cQ (aC bO (aC bO (aC jN (ag 5) (cC (.int 7))) (aC cQ (aC gz (aC jN (ag 0) (cC (.int 1009))) (cC (.int 10007))) (cC (.int 17)))) (ag 4)) (cC (.int 69621))) (cC (.int 2147483629)))) (cP 3 (aC gz (aC jN (ag 6) (cC (.int 11))) (ag 1)))))) (cv 3 (bc (ag 3)))))
theorem qK:∀ds Q,dQ ds Q→ds.length=3:=qV
theorem sk:∀ds (Q:D→Prop),dQ ds Q→jC { nx:=fun _=>Q .non,rt:=Q } (aE ["_law_cell_here","_law_base","_law_many","_law_row_here","_law_k","_law_one","_law_two"] ds):=by
 rintro ds Q ⟨x,y,z,rfl,c,b,m,rfl,rfl,rfl,hb,hbb,hm,h⟩
 simp_all_arith only [jC]
 refine⟨by omega,by omega,?_⟩
 refine bX (fun i e=>∃(xs:List Int) (k1 k2 k3:Option Lo),e=[some (.d (.int c)),some (.d (.int b)),some (.d (.int m)),some (.own (xs.map D.int)),k1,k2,k3]∧xs.length=i∧∀x∈xs,0≤x∧x < b) ?_ ?_ ⟨[],none,none,none,rfl,rfl,by simp⟩
 ·rintro i x env N hx ⟨xs,k1,k2,k3,rfl,hl,hxs⟩ hN
  have hi:i < m:=by have:=(KL.mp hx).1;simpa [a8] using this
  have hxe:x=.int (i:Int):=by
   have:(a8 0 m)[i]?=some (.int (0 + (i:Int))):=by simp [a8,hi]
   rw [show ((m:Int).toNat)=m by omega] at hx
   rw [this] at hx;cases hx;simp
  subst hxe
  have r1:=bL (a:=c) (b:=998244353) (by decide)
  have r2:=bL (a:=c.fdiv 1009) (b:=10007) (by decide)
  simp_all_arith only [KZ,oV]
  and_intros
  all_goals first
   | decide
   | omega
   | exact eJ (by decide) (by decide)
   | exact eF (by decide) (by decide)
   | exact eF (by omega) (by omega)
   | skip
  refine hN _ ⟨xs ++ [_],_,_,_,by rw [List.map_append];rfl,by simp [hl],?_⟩
  intro y hy
  rcases Lf.mp hy with hy | hy
  ·exact hxs y hy
  ·rw [Le.mp hy];exact bL hb
 ·rintro env ⟨xs,k1,k2,k3,rfl,hl,hxs⟩
  simp_all_arith only [and_true]
  exact h _ ⟨xs,rfl,by simpa [a8] using hl,hxs⟩
def c5:Fw:=F3 yO
def nB:bH:=(aG (hV (aK (aC Ki (aB vt (af (ag 0) av)) (aC CT (cC (.int 10)) (cC (.int 18))))) (bc (aB cZ (af (ag 0) (af (ag 1) (af (ag 2) av))))) br) (bc (aB dQ (af (ag 0) (af (ag 1) (af (ag 2) av))))))
theorem u9:∀ds Q,c5 ds Q→ds.length=3:=qV
theorem wy:∀ds (Q:D→Prop),c5 ds Q→nB { nx:=fun _=>Q .non,rt:=Q } (aE ["_law_cell_here","_law_base","_law_many"] ds):=by
 rintro ds Q ⟨x,y,z,rfl,c,b,m,rfl,rfl,rfl,hb,hbb,hm,h⟩
 simp_all_arith only [nB,cZ,dQ,rJ]
 refine⟨by (first | exact tT _ (by decide) | exact vm _ _ (by decide) | exact kU _ (by first | decide | omega) | exact eJ (by decide) (by decide) | exact eF (by decide) (by decide) | omega | decide),?_⟩
 split <;> exact⟨c,b,m,rfl,rfl,rfl,hb,hbb,hm,h⟩
end L2.L3
namespace L2
open PySem PySem.Spec PyProof.Rows
theorem Inv.CC {X:Cx} {pins:List (Addr×Obj)} {σ:St} {H:Hp} {s:Shared} {h':Heap} {t':Nat} {ch:List Addr} (I:Inv X pins σ H s) (k:∀b o,b∉ch→s.heap.get? b=some o→h'.get? b=some o) (hf:∀b∈ch,nc X pins H b) :
  Inv X pins σ H { s with heap:=h',toks:=t' }:=by
 have far:∀b u,H b=some u→b∉ch:=fun b u e z=>by rw [(hf b z).1] at e;cases e
 refine I.step (g':=s.gens) (d':=s.drawn) (ch:=ch) (fun b hb=>⟨(hf b hb).2.2.2.1,(hf b hb).2.1,(hf b hb).2.2.2.2.1,(hf b hb).2.2.2.2.2⟩) (fun b o _ _ hc e _=>k b o hc e) (fun b o _ _ hc e _=>⟨o.slots,k b o hc e⟩)
  (fun _ _ _ _ n=>n) (fun b o hc e=>⟨o,k b o hc e⟩) (fun _ _ e=>e) (fun _ _ _ e=>e) (fun b ps e=>⟨#[],by rw [e];simp⟩) (fun m hm=>?_) (fun b u e=>?_) I.bare
 ·obtain⟨o,es,ep,ho,r⟩:=hm
  exact⟨o,es,ep,k _ o (fun z=>(hf _ z).2.1 rfl) ho,r⟩
 ·refine (I.hok b u e).oS (fun c v hc q=>k c v ?_ q) (fun _ q=>q) fun _ _ q=>q
  rcases hc with z | z
  ·rw [z];exact far b u e
  ·exact far c _ z
section
variable {prog:Program} {w:World} {A:Around} {E:Value→Shared→Prop} {s:Shared}
theorem GY {j l:Addr} {k:Nat} {its:Array Value} {y:Value} {Q:Value→Shared→Prop} (hj:s.heap.IsTupleIter j l k) (hl:s.heap.IsTuple l its) (hy:its[k]?=some y)
  (q:∀h1,h1.IsTupleIter j l (k + 1)→Heap.SameBut j s.heap h1→Q y { s with heap:=h1 }):wpAny (model prog w) A (Builtin.SmallTypes.nextOf (.ref j)) Q E s:=by
 obtain⟨oj,e1,c1,d1⟩:=id hj
 obtain⟨ot,e2,_,_,d2⟩:=hl
 unfold Builtin.SmallTypes.nextOf
 refine KJ (wpAny_callSpecial?_slot (name:=Str.ofString "__next__") hj.typeIs F.slot_tuple_iterator_next (wpAny_call_entry F.slot_tuple_iterator_next hj.typeIs F.entry_tuple_iterator_next ?_ (F.args_tuple_iterator_next_1 _)))
 show wpAny _ _ (field (.ref j) 0 >>= _) _ _ s
 refine KJ (wpAny_field e1 d1 (x:=.ref l) rfl ?_)
 show wpAny _ _ (if (Value.ref l == Value.none)=true then _ else _) _ _ s
 rw [KQ (show ¬ ((Value.ref l == Value.none)=true) from Bool.false_ne_true)]
 show wpAny _ _ (field (.ref j) 1 >>= _) _ _ s
 refine KJ (wpAny_field e1 d1 (x:=.int k 0) rfl ?_)
 show wpAny _ _ (seqItems? (.ref l) >>= _) _ _ s
 refine KJ (wpAny_seqItems e2 d2 ?_)
 simp only [Int.toNat_natCast,hy]
 refine KJ (wpAny_setField e1 d1 (by simp) (KO ⟨y,rfl,KO (q _ ?_ (Heap.SameBut.update ..))⟩))
 exact⟨_,Heap.get?_update_self _ e1 (Obj.isFreed_of_fields (Obj.data_mapFields d1 _)),(Obj.cls_mapFields ..).trans c1,by rw [Obj.data_mapFields d1];simp [rawInt]⟩
theorem xP {j l:Addr} {k:Nat} {its:Array Value} {Q:Value→Shared→Prop} (hh:A.handled=none) (hj:s.heap.IsTupleIter j l k) (hl:s.heap.IsTuple l its) (hy:its[k]?=none)
  (q:∀h1 e,Heap.ExtBut j s.heap h1→(∃o,h1.get? e=some o∧o.cls=.type "StopIteration")→E (.ref e) { s with heap:=h1 }):wpAny (model prog w) A (Builtin.SmallTypes.nextOf (.ref j)) Q E s:=by
 obtain⟨oj,e1,c1,d1⟩:=id hj
 obtain⟨ot,e2,_,_,d2⟩:=hl
 unfold Builtin.SmallTypes.nextOf
 refine KJ (wpAny_callSpecial?_slot (name:=Str.ofString "__next__") hj.typeIs F.slot_tuple_iterator_next (wpAny_call_entry F.slot_tuple_iterator_next hj.typeIs F.entry_tuple_iterator_next ?_ (F.args_tuple_iterator_next_1 _)))
 show wpAny _ _ (field (.ref j) 0 >>= _) _ _ s
 refine KJ (wpAny_field e1 d1 (x:=.ref l) rfl ?_)
 show wpAny _ _ (if (Value.ref l == Value.none)=true then _ else _) _ _ s
 rw [KQ (show ¬ ((Value.ref l == Value.none)=true) from Bool.false_ne_true)]
 show wpAny _ _ (field (.ref j) 1 >>= _) _ _ s
 refine KJ (wpAny_field e1 d1 (x:=.int k 0) rfl ?_)
 show wpAny _ _ (seqItems? (.ref l) >>= _) _ _ s
 refine KJ (wpAny_seqItems e2 d2 ?_)
 simp only [Int.toNat_natCast,hy]
 refine KJ (wpAny_rule (KJ (wpAny_setField e1 d1 (by simp) (show wpAny _ _ (newExc (.type "StopIteration") [] >>= _) _ _ _ from KJ ?_))))
 simp only [newExc,newTuple]
 refine KJ (wpAny_newObj_type (KJ (m:=firstArgMember _ _) (wpAny_of_eq (a:=Value.none) (by first | rfl | (simp only [firstArgMember];rfl)) (wpAny_newObj_type ?_ (by size_fits)))) (by size_fits))
 simp only [raiseNew]
 refine KJ (wpAny_handled ?_)
 first | rw [show A.in1.handled=none from hh] | rw [hh]
 exact KJ (KO (wpAny_throw (q _ _ (((Heap.SameBut.update ..).extBut.push _).push _) ⟨_,La _ rfl,rfl⟩)))
theorem CD {e j:Addr} {k:Nat} {y z:Value} {T:Heap→Prop} {Q:Value→Shared→Prop} (he:IsEnum s.heap e j k z) (ne:e≠j)
  (nx:∀R:Value→Shared→Prop,(∀h1,T h1→Heap.SameBut j s.heap h1→R y { s with heap:=h1 })→wpAny (model prog w) A (Builtin.SmallTypes.nextOf (.ref j)) R E s)
  (mv:∀h1 h2:Heap,T h1→(∀o,h1.get? j=some o→h2.get? j=some o)→T h2) (hj:∀h1,T h1→∃o,h1.get? j=some o)
  (q:∀h1,IsEnumOut h1 e j ((k:Int) + 1) y s.heap.objs.size→T h1→h1.get? s.heap.objs.size=some { cls:=.type "tuple",data:=.seq #[.int k s.toks,y] }→(∀b o,b≠e→b≠j→s.heap.get? b=some o→h1.get? b=some o) →
   Q (.ref s.heap.objs.size) { s with heap:=h1,toks:=s.toks + 1 }) :
  wpAny (model prog w) A (Builtin.«enumerate.__next__» ⟨[.ref e],[]⟩) (fun fin s'=>∃v,fin=.done (.ret v)∧Q v s') E s:=by
 obtain⟨hp,g,d,tk,os⟩:=s
 show wpAny _ _ (field (.ref e) 2 >>= _) _ _ _
 refine KJ (wpAny_field he rfl (x:=.ref j) rfl (KJ (nx _ fun g1 t1 b1=>?_)))
 replace b1:Heap.SameBut j hp g1:=b1
 have i1:IsEnum g1 e j k z:=(b1.2 e ne).trans he
 show wpAny _ _ (field (.ref e) 3 >>= _) _ _ ⟨g1,g,d,tk,os⟩
 refine KJ (wpAny_field i1 rfl (x:=rawInt k) rfl ?_)
 show wpAny _ _ (field (.ref e) 4 >>= _) _ _ ⟨g1,g,d,tk,os⟩
 refine KJ (wpAny_field i1 rfl (x:=.none) rfl ?_)
 show wpAny _ _ (mkInt k >>= _) _ _ ⟨g1,g,d,tk,os⟩
 refine KJ (wpAny_mkInt ?_)
 show wpAny _ _ (setField (.ref e) 3 (rawInt ((k:Int) + 1)) >>= _) _ _ ⟨g1,g,d,tk + 1,os⟩
 refine KJ (wpAny_setField_rec i1 (by simp) fun g2 i2 b2=>?_)
 replace b2:Heap.SameBut e g1 g2:=b2
 replace i2:IsEnum g2 e j ((k:Int) + 1) z:=i2
 show wpAny _ _ (setField (.ref e) 4 .none >>= _) _ _ ⟨g2,g,d,tk + 1,os⟩
 refine KJ (wpAny_setField_rec i2 (by simp) fun g3 i3 b3=>?_)
 replace b3:Heap.SameBut e g2 g3:=b3
 replace i3:IsEnum g3 e j ((k:Int) + 1) z:=i3
 show wpAny _ _ (newTuple [.int k tk,y] >>= _) _ _ ⟨g3,g,d,tk + 1,os⟩
 refine KJ (wpAny_newTuple ?_)
 have i4:IsEnum (g3.push { cls:=.type "tuple",data:=.seq #[.int k tk,y] }) e j ((k:Int) + 1) z:=KY _ i3
 generalize eg:g3.push { cls:=.type "tuple",data:=.seq #[.int k tk,y] }=g4 at i4
 have sz:g3.objs.size=hp.objs.size:=by rw [b3.1,b2.1,b1.1]
 have lt:e < hp.objs.size:=K8 he
 have t4:g4.get? hp.objs.size=some { cls:=.type "tuple",data:=.seq #[.int k tk,y] }:=by rw [← eg,← sz];exact La _ rfl
 have k4:∀b o,b≠e→b≠j→hp.get? b=some o→g4.get? b=some o:=fun b o n1 n2 hb=>by
  rw [← eg];exact KY _ (b3.extBut b o n1 (b2.extBut b o n1 (b1.extBut b o n2 hb)))
 have T4:T g4:=mv g1 g4 t1 fun o ho=>by rw [← eg];exact KY _ (b3.extBut j o (Ne.symm ne) (b2.extBut j o (Ne.symm ne) ho))
 show wpAny _ _ (Builtin.SmallTypes.ownedTupleIsFree (.ref e) >>= _) _ _ ⟨g4,g,d,tk + 1,os⟩
 rw [sz]
 clear eg i3 b3 i2 b2 i1 b1 t1 sz g3 g2 g1
 refine KJ ?_
 unfold Builtin.SmallTypes.ownedTupleIsFree
 refine KJ (wpAny_field i4 rfl (x:=.none) rfl (KO ?_))
 simp only [if_true]
 refine KJ (wpAny_rule (KJ (wpAny_field i4 rfl (x:=z) rfl (KJ (wpAny_setField_rec i4 (by simp) fun g5 i5 b5=>?_)))))
 replace b5:Heap.SameBut e g4 g5:=b5
 replace i5:IsEnum g5 e j ((k:Int) + 1) y:=i5
 show wpAny _ _ (Builtin.SmallTypes.ownedTupleHandOut (.ref e) (.ref hp.objs.size) >>= _) _ _ ⟨g5,g,d,tk + 1,os⟩
 refine KJ ?_
 unfold Builtin.SmallTypes.ownedTupleHandOut
 refine KJ (wpAny_setField_rec i5 (by simp) fun g6 i6 b6=>?_)
 replace b6:Heap.SameBut e g5 g6:=b6
 replace i6:IsEnumOut g6 e j ((k:Int) + 1) y hp.objs.size:=i6
 refine wpAny_setField_rec i6 (by simp) fun g7 i7 b7=>?_
 replace b7:Heap.SameBut e g6 g7:=b7
 replace i7:IsEnumOut g7 e j ((k:Int) + 1) y hp.objs.size:=i7
 have far:∀b o,b≠e→g4.get? b=some o→g7.get? b=some o:=fun b o n hb=>b7.extBut _ _ n (b6.extBut _ _ n (b5.extBut _ _ n hb))
 refine KJ (wpAny_letGo (KO ⟨_,rfl,q g7 i7 (mv g4 g7 T4 fun o ho=>far j o (Ne.symm ne) ho) (far _ _ (Nat.ne_of_gt lt) t4) fun b o n1 n2 hb=>far b o n1 (k4 b o n1 n2 hb)⟩))
theorem x8 {e j:Addr} {k:Nat} {y z:Value} {T:Heap→Prop} {Q:Option Value→Shared→Prop} (he:IsEnum s.heap e j k z) (ne:e≠j)
  (nx:∀(A':Around) (E':Value→Shared→Prop) (R:Value→Shared→Prop),(∀h1,T h1→Heap.SameBut j s.heap h1→R y { s with heap:=h1 })→wpAny (model prog w) A' (Builtin.SmallTypes.nextOf (.ref j)) R E' s)
  (mv:∀h1 h2:Heap,T h1→(∀o,h1.get? j=some o→h2.get? j=some o)→T h2) (hj:∀h1,T h1→∃o,h1.get? j=some o)
  (q:∀h1,IsEnumOut h1 e j ((k:Int) + 1) y s.heap.objs.size→T h1→h1.get? s.heap.objs.size=some { cls:=.type "tuple",data:=.seq #[.int k s.toks,y] }→(∀b o,b≠e→b≠j→s.heap.get? b=some o→h1.get? b=some o) →
   Q (some (.ref s.heap.objs.size)) { s with heap:=h1,toks:=s.toks + 1 }):wpAny (model prog w) A (pyNext (.ref e)) Q E s:=by
 have ty:s.TypeIs (.ref e) "enumerate":=⟨_,he,rfl⟩
 unfold pyNext
 exact KJ (wpAny_attempt (wpAny_callSpecial?_slot (name:=Str.ofString "__next__") ty F.slot_enumerate_next (wpAny_call_entry F.slot_enumerate_next ty F.entry_enumerate_next
  (CD he ne (fun R hR=>nx _ _ R hR) mv hj fun h1 a b c d=>KO (q h1 a b c d)) (F.args_enumerate_next_1 _))))
theorem Bb {e j:Addr} {k:Nat} {z:Value} {Q:Option Value→Shared→Prop} (he:IsEnum s.heap e j k z)
  (nx:∀(A':Around) (E':Value→Shared→Prop),A'.handled=A.handled→(∀h1 x,Heap.ExtBut j s.heap h1→(∃o,h1.get? x=some o∧o.cls=.type "StopIteration")→E' (.ref x) { s with heap:=h1 })→wpAny (model prog w) A' (Builtin.SmallTypes.nextOf (.ref j)) (fun _ _=>False) E' s)
  (q:∀h1,Heap.ExtBut j s.heap h1→Q none { s with heap:=h1 }):wpAny (model prog w) A (pyNext (.ref e)) Q E s:=by
 have ty:s.TypeIs (.ref e) "enumerate":=⟨_,he,rfl⟩
 unfold pyNext
 refine KJ (wpAny_attempt (wpAny_callSpecial?_slot (name:=Str.ofString "__next__") ty F.slot_enumerate_next (wpAny_call_entry F.slot_enumerate_next ty F.entry_enumerate_next ?_ (F.args_enumerate_next_1 _))))
 show wpAny _ _ (field (.ref e) 2 >>= _) _ _ _
 refine KJ (wpAny_field he rfl (x:=.ref j) rfl (KJ (Li (nx _ _ rfl fun h1 x b1 c1=>?_) (fun _ _ f=>f.elim) fun _ _ u=>u)))
 obtain⟨o,ho,hc⟩:=c1
 exact KJ (wpAny_isInstance (T:="StopIteration") (b:=true) ⟨o,ho,hc⟩ isSubtype_stop (KO (q _ b1)))
end
end L2
namespace L2.L3
open PySem PySem.Spec PyProof.Rows
def HH (S:Hp→List V→Prop):It :=
 ⟨fun i H=>∃xs x,S H xs∧xs[i]?=some x,fun i H y H'=>∃p x,(∀xs,S H xs→xs[i]?=some x)∧H p=none∧y=.ref p∧H'=upd H p (.tup [.int i,x]),fun i H=>∃xs,S H xs∧xs.length≤i⟩
theorem Cc {X:Cx} {pins:List (Addr×Obj)} {σ:St} {H:Hp} {s:Shared} {e j:Addr} {i:Nat} {x:V} {u:Value} {h2:Heap} (I:Inv X pins σ H s) (hf:∀b∈[e,j],nc X pins H b) (ru:RelV x u)
  (lt:e < s.heap.objs.size) (lj:j < s.heap.objs.size) (t1:h2.get? s.heap.objs.size=some { cls:=.type "tuple",data:=.seq #[.int i s.toks,u] }) (fr:∀b o,b≠e→b≠j→s.heap.get? b=some o→h2.get? b=some o) :
  Inv X pins σ (upd H s.heap.objs.size (.tup [.int i,x])) { s with heap:=h2,toks:=s.toks + 1 }∧H s.heap.objs.size=none:=by
 have hn:H s.heap.objs.size=none:=I.hok.fresh (K0 _)
 refine⟨?_,hn⟩
 have I1:Inv X pins σ (upd H s.heap.objs.size (.tup [.int i,x])) { s with heap:=s.heap.push { cls:=.type "tuple",data:=.seq #[.int i s.toks,u] },toks:=s.toks } :=
  I.laid (t':=s.toks) (fun b o e=>KY _ e) (K0 _) (show cE X.prog X.w _ _ _ (.tup [.int i,x]) from ⟨by simp [PySem.sizeLine_eq],[.int i s.toks,u],.cons ⟨_,rfl⟩ (.cons ru .nil),uk.new _ _⟩)
 refine Inv.CC (s:={ s with heap:=s.heap.push { cls:=.type "tuple",data:=.seq #[.int i s.toks,u] },toks:=s.toks }) (h':=h2) (t':=s.toks + 1) (ch:=[e,j]) I1 (fun b o hb hg=>?_) fun b hb=>?_
 ·have nb1:b≠e:=fun z=>hb (by simp [z])
  have nb2:b≠j:=fun z=>hb (by simp [z])
  rcases Heap.get?_push_cases hg with ⟨rfl,rfl⟩ | hg
  ·exact t1
  ·exact fr b o nb1 nb2 hg
 ·obtain⟨f0,f⟩:=hf b hb
  refine⟨?_,f⟩
  rw [aH];exact f0
  rcases Ld.mp hb with rfl | hb
  ·exact Lj lt
  ·rw [Le.mp hb];exact Lj lj
theorem Al {P:Program} {w:World} {K:PySem.W.Frag} {elts:List Expr} {x1:Nat} {tp:Pos} (a e j:Addr) (ne:e≠j):Turn P w K (.Tuple elts x1 tp) (HH fun H xs=>d9 K H a xs) [e,j] e (fun i h=>(∃z,IsEnum h e j i z)∧h.IsListIter j a i) where
 mem:=by simp
 obj:=fun i h st b hb=>by
  obtain⟨⟨z,e1⟩,o,e2,c,d⟩:=st
  rcases Ld.mp hb with rfl | hb
  ·exact⟨_,e1,fun v q=>by
    have q':Data.fields _=Data.cell v:=q
    cases q'⟩
  ·rw [Le.mp hb];exact⟨o,e2,fun v q=>by rw [d] at q;cases q⟩
 keep:=fun i h h' st k=>⟨⟨st.1.choose,k e (by simp) _ st.1.choose_spec⟩,st.2.at fun o q=>k j (by simp) o q⟩
 item:=by
  intro X hP hw hK hc i pins s σ H E I hf st hg
  subst hP hw hK
  obtain⟨⟨z,he⟩,hj⟩:=st
  obtain⟨xs,x,hq,hx⟩:=hg
  obtain⟨its,rv,p,hz⟩:=I.list hq
  obtain⟨u,hu,ru⟩:=rv.get hx
  have lt:e < s.heap.objs.size:=K8 he
  have lj:j < s.heap.objs.size:=by obtain⟨_,q,_⟩:=hj;exact K8 q
  refine x8 (T:=fun h=>h.IsListIter j a (i + 1)) he ne (fun A' E' R hR=>wpAny_nextOf_list_item hj p.isList (x:=u) (by simpa using hu) hR) (fun h1 h2 t k=>t.at fun o q=>k o q) (fun h1 t=>let ⟨o,q,_⟩:=t;⟨o,q⟩) fun h1 o1 t1 n1 fr=>?_
  refine⟨_,rfl,wpAny_letOwnedTupleGo_enum o1 fun h2 e2 b2=>?_⟩
  have n2:h2.get? s.heap.objs.size=some { cls:=.type "tuple",data:=.seq #[.int i s.toks,u] }:=(b2.2 _ (Nat.ne_of_gt lt)).trans n1
  obtain⟨I2,hn⟩:=Cc (h2:=h2) I hf ru lt lj n2 fun b o q1 q2 q3=>(b2.2 b q1).trans (fr b o q1 q2 q3)
  refine⟨.ref s.heap.objs.size,_,I2,rfl,⟨_,x,fun ys hy=>by rw [I.oY hy hq];exact hx,hn,rfl,rfl⟩,⟨⟨u,by simpa using e2⟩,t1.at fun o q=>(b2.2 j (Ne.symm ne)).trans q⟩,fun b hb=>?_⟩
  rw [aH];exact (hf b hb).1
  rcases Ld.mp hb with rfl | hb
  ·exact Lj lt
  ·rw [Le.mp hb];exact Lj lj
 done:=by
  intro X hP hw hK hc i pins s σ H E I hf st hg
  subst hP hw hK
  obtain⟨⟨z,he⟩,hj⟩:=st
  obtain⟨xs,hq,hx⟩:=hg
  obtain⟨its,rv,p,hz⟩:=I.list hq
  have hl:=rv.length
  refine Bb he (fun A' E' hA hE=>wpAny_nextOf_list_end (hA.trans (I.ok.hd hc)) hj p.isList (by simp;omega) hE) fun h1 b1=>⟨rfl,?_⟩
  obtain⟨f0,f1,f2,f3,f4,f5⟩:=hf j (by simp)
  exact I.turned (t':=s.toks) (fun b o hb e=>b1 b o hb e) f0 f1 f3 f4 f5
 self:=fun _ _ _ _ _ st h=>wpAny_pyIter_enum st.1.choose_spec h
theorem BJ {P:Program} {w:World} {K:PySem.W.Frag} {elts:List Expr} {x1:Nat} {tp:Pos} (a e j:Addr) (ne:e≠j):Turn P w K (.Tuple elts x1 tp) (HH fun H xs=>iZ K H a xs) [e,j] e (fun i h=>(∃z,IsEnum h e j i z)∧h.IsTupleIter j a i) where
 mem:=by simp
 obj:=fun i h st b hb=>by
  obtain⟨⟨z,e1⟩,o,e2,c,d⟩:=st
  rcases Ld.mp hb with rfl | hb
  ·exact⟨_,e1,fun v q=>by
    have q':Data.fields _=Data.cell v:=q
    cases q'⟩
  ·rw [Le.mp hb];exact⟨o,e2,fun v q=>by rw [d] at q;cases q⟩
 keep:=fun i h h' st k=>⟨⟨st.1.choose,k e (by simp) _ st.1.choose_spec⟩,st.2.at fun o q=>k j (by simp) o q⟩
 item:=by
  intro X hP hw hK hc i pins s σ H E I hf st hg
  subst hP hw hK
  obtain⟨⟨z,he⟩,hj⟩:=st
  obtain⟨xs,x,hq,hx⟩:=hg
  obtain⟨its,rv,p,hz⟩:=I.tuple hq
  obtain⟨u,hu,ru⟩:=rv.get hx
  have lt:e < s.heap.objs.size:=K8 he
  have lj:j < s.heap.objs.size:=by obtain⟨_,q,_⟩:=hj;exact K8 q
  refine x8 (T:=fun h=>h.IsTupleIter j a (i + 1)) he ne (fun A' E' R hR=>GY hj (show s.heap.IsTuple a its.toArray from p) (y:=u) (by simpa using hu) hR) (fun h1 h2 t k=>t.at fun o q=>k o q) (fun h1 t=>let ⟨o,q,_⟩:=t;⟨o,q⟩) fun h1 o1 t1 n1 fr=>?_
  refine⟨_,rfl,wpAny_letOwnedTupleGo_enum o1 fun h2 e2 b2=>?_⟩
  have n2:h2.get? s.heap.objs.size=some { cls:=.type "tuple",data:=.seq #[.int i s.toks,u] }:=(b2.2 _ (Nat.ne_of_gt lt)).trans n1
  obtain⟨I2,hn⟩:=Cc (h2:=h2) I hf ru lt lj n2 fun b o q1 q2 q3=>(b2.2 b q1).trans (fr b o q1 q2 q3)
  refine⟨.ref s.heap.objs.size,_,I2,rfl,⟨_,x,fun ys hy=>by rw [I.mz hy hq];exact hx,hn,rfl,rfl⟩,⟨⟨u,by simpa using e2⟩,t1.at fun o q=>(b2.2 j (Ne.symm ne)).trans q⟩,fun b hb=>?_⟩
  rw [aH];exact (hf b hb).1
  rcases Ld.mp hb with rfl | hb
  ·exact Lj lt
  ·rw [Le.mp hb];exact Lj lj
 done:=by
  intro X hP hw hK hc i pins s σ H E I hf st hg
  subst hP hw hK
  obtain⟨⟨z,he⟩,hj⟩:=st
  obtain⟨xs,hq,hx⟩:=hg
  obtain⟨its,rv,p,hz⟩:=I.tuple hq
  have hl:=rv.length
  refine Bb he (fun A' E' hA hE=>xP (hA.trans (I.ok.hd hc)) hj (show s.heap.IsTuple a its.toArray from p) (by simp;omega) hE) fun h1 b1=>⟨rfl,?_⟩
  obtain⟨f0,f1,f2,f3,f4,f5⟩:=hf j (by simp)
  exact I.turned (t':=s.toks) (fun b o hb e=>b1 b o hb e) f0 f1 f3 f4 f5
 self:=fun _ _ _ _ _ st h=>wpAny_pyIter_enum st.1.choose_spec h
section
variable {prog:Program} {w:World} {A:Around} {E:Value→Shared→Prop} {s:Shared}
open AutoSeq1 (wpAny_loadPart') in
theorem FE (l:Addr) (its:Array Value) (o:Obj) (c:o.cls=.type "tuple") (n:Nat) (dd:o.data=.seq its n) :
  Meets (Builtin.«enumerate.__new__» ⟨[.type "enumerate",.ref l],[]⟩) (fun _ R s=>s.heap.get? l=some o ∧
   R (.ok (.ret (.ref (s.heap.push { cls:=.type "tuple_iterator",data:=.fields #[.ref l,.int 0 0] }).objs.size)))
    { s with heap:=(s.heap.push { cls:=.type "tuple_iterator",data:=.fields #[.ref l,.int 0 0] }).push { cls:=.type "enumerate",data:=.fields #[.none,.bool false,.ref s.heap.objs.size,rawInt 0,.none,.none] } }) :=
 .of_wp fun prog w A R s hh=>by
  obtain⟨oc,od,odt,osl⟩:=o
  replace c:oc=.type "tuple":=c
  replace dd:odt=.seq its n:=dd
  subst c dd
  obtain⟨hp,gg,dr,tk,os⟩:=s;obtain⟨hl,q⟩:=hh
  have hsub:=sub_enumerate
  have hT:Heap.IsTuple (Shared.heap ⟨hp,gg,dr,tk,os⟩) l its:=⟨_,hl,rfl,n,rfl⟩
  wp_walk using wpAny_loadPart' hl
  refine wpAny_stack_any fun st=>KO ?_
  split
  ·rename_i cc _ _ _ _ _
   cases (cc == Value.type "enumerate") <;> (wp_walk using wpAny_loadPart' hl,wpAny_pyIter_tuple hT;exact⟨_,rfl,q⟩)
  ·wp_walk using wpAny_loadPart' hl,wpAny_pyIter_tuple hT
   exact⟨_,rfl,q⟩
theorem Bv {l:Addr} {its:Array Value} {Q:Value→Shared→Prop} (hl:s.heap.IsTuple l its)
  (q:∀h1,IsEnum h1 (s.heap.objs.size + 1) s.heap.objs.size 0 .none→h1.IsTupleIter s.heap.objs.size l 0→(∀b o,s.heap.get? b=some o→h1.get? b=some o)→Q (.ref (s.heap.objs.size + 1)) { s with heap:=h1 }):wpAny (model prog w) A (call (.type "enumerate") [.ref l]) Q E s:=by
 obtain⟨o,e1,c1,n,d1⟩:=hl
 refine callType_new F.called_enumerate (by decide) (F.typeCall_enumerate_1 _) (F.newCall_enumerate_1 _) (fun ob=>F.args_object_init_2 ob _) F.entry_enumerate_new (FE l its o c1 n d1) ⟨e1,?_⟩
 have z:(s.heap.push { cls:=.type "tuple_iterator",data:=.fields #[.ref l,.int 0 0] }).objs.size=s.heap.objs.size + 1:=Heap.size_push ..
 show _∧_
 rw [z]
 have i1:IsEnum ((s.heap.push { cls:=.type "tuple_iterator",data:=.fields #[.ref l,.int 0 0] }).push { cls:=.type "enumerate",data:=.fields #[.none,.bool false,.ref s.heap.objs.size,rawInt 0,.none,.none] }) (s.heap.objs.size + 1) s.heap.objs.size 0 .none:=by
  have y:=La (s.heap.push { cls:=.type "tuple_iterator",data:=.fields #[.ref l,.int 0 0] }) (o:={ cls:=.type "enumerate",data:=.fields #[.none,.bool false,.ref s.heap.objs.size,rawInt 0,.none,.none] }) rfl
  rw [z] at y;exact y
 exact⟨⟨_,i1,rfl⟩,q _ i1 ⟨_,KY _ (La _ rfl),rfl,rfl⟩ fun b o x=>KY _ (KY _ x)⟩
end
section
variable {X:Cx}
def Kn (K:PySem.W.Frag) (ta:TA):TI:=fun σ H R=>ta σ H fun vs H1=>∃a,vs=[.ref a]∧(((∃xs,d9 K H1 a xs)∧R (HH fun H xs=>d9 K H a xs) H1)∨((∃xs,iZ K H1 a xs)∧R (HH fun H xs=>iZ K H a xs) H1))
theorem HA {elts:List Expr} {x1:Nat} {tp:Pos} {a:Expr} {ta:TA} {p pos:Pos} (hg:Gl X "enumerate") (hm:X.mg "enumerate" = none) (ha:PA X [a] ta) (hs:starEach [a] X.env=[(false,eval a X.env)]:=by rfl) :
  PI X (.Tuple elts x1 tp) (.Call (.Name "enumerate" p) [a] [] pos) (Kn X.K ta):=by
 intro pins s σ H R I h
 refine Call_ (kT I hg hm boot_enumerate (PyProof.Rows.callWith_type1 (b9 (ha pos pins s σ H _ I h) fun us s1 ⟨vs,H1,I1,r1,q1⟩=>?_) hs rfl))
 obtain⟨l,e,q⟩:=q1
 subst e
 cases r1 with
 | cons r rr =>
  cases rr
  cases r
  have fin:∀b∈[s1.heap.objs.size + 1,s1.heap.objs.size],nc X pins H1 b:=fun b hb=>by
   have hb':s1.heap.objs.size≤b:=by
    rcases Ld.mp hb with rfl | hb
    ·omega
    ·rw [Le.mp hb];exact K0 _
   exact I1.y2 hb' (I1.hok.fresh hb')
  rcases q with ⟨⟨xs,hq⟩,q⟩ | ⟨⟨xs,hq⟩,q⟩
  ·obtain⟨its,rv,pl,hz⟩:=I1.list hq
   refine call_enumerate_list pl.isList fun h1 i1 j1 _ k1=>?_
   refine wpAny_pyIter_enum i1 ⟨_,[s1.heap.objs.size + 1,s1.heap.objs.size],_,_,H1,rfl,I1.kept (t':=s1.toks) k1,Al l (s1.heap.objs.size + 1) s1.heap.objs.size (Nat.succ_ne_self _),⟨⟨_,i1⟩,j1⟩,fin,q⟩
  ·obtain⟨its,rv,pl,hz⟩:=I1.tuple hq
   refine Bv (show s1.heap.IsTuple l its.toArray from pl) fun h1 i1 j1 k1=>?_
   refine wpAny_pyIter_enum i1 ⟨_,[s1.heap.objs.size + 1,s1.heap.objs.size],_,_,H1,rfl,I1.kept (t':=s1.toks) k1,BJ l (s1.heap.objs.size + 1) s1.heap.objs.size (Nat.succ_ne_self _),⟨⟨_,i1⟩,j1⟩,fin,q⟩
end
end L2.L3
namespace L2.L3
open PySem PySem.Spec PyProof.Rows
structure w6 (K:PySem.W.Frag) (J:It) (F1:Hp) (xs:List D):Prop where
 go:∀(i:Nat) (G H':Hp),ar F1 G→ar G H'→i < xs.length→J.go i H'
 yld:∀(i:Nat) (G H':Hp) (y:V) (H'':Hp) (x:D) (B:Base) (σ:St) (env:En),ar F1 G→Rep K B G H' σ env→xs[i]?=some x→J.yld i H' y H''→∃G',Rep K B G' H'' σ env∧ar G G'∧Den K G' x y
 stop:∀(G H':Hp),ar F1 G→ar G H'→J.stop xs.length H'
def nF (xs:List D):List D:=xs.mapIdx fun i x=>.tup [.int (i:Int),x]
theorem wd {xs:List D} {i:Nat} {y:D} (h:(nF xs)[i]?=some y):∃x,xs[i]?=some x∧y=.tup [.int (i:Int),x]:=by
 unfold nF at h
 rw [List.getElem?_mapIdx] at h
 cases e:xs[i]? with
 | none=>rw [e] at h;cases h
 | some x=>rw [e] at h;cases h;exact⟨x,rfl,rfl⟩
theorem m7 {xs:List D}:(nF xs).length=xs.length:=by simp [nF]
theorem uB {K:PySem.W.Frag} {F1:Hp} {vs:List V} {xs:List D} {S:Hp→List V→Prop} (hS:∀G H',ar F1 G→ar G H'→S H' vs) (r:aq K F1 xs vs):w6 K (HH S) F1 (nF xs) where
 go:=fun i G H' s1 s2 hi=>by
  rw [m7] at hi
  have:i < vs.length:=by rw [← r.length];exact hi
  exact⟨vs,vs[i],hS G H' s1 s2,by simp [this]⟩
 yld:=fun i G H' y H'' x B σ env s1 rp hx hy=>by
  obtain⟨x',hx',rfl⟩:=wd hx
  obtain⟨v,h1,h2⟩:=r.get hx'
  obtain⟨p,u,q1,q3,rfl,rfl⟩:=hy
  have q2:=q1 vs (hS G H' s1 rp.fh)
  rw [h1] at q2;cases q2
  obtain⟨r2,s2⟩:=rp.laid (o:=.tup [.int i,v]) q3
  exact⟨_,r2,s2,fN (iZ.of aI) (aX bC (aX (Den.mono (s1.trans s2) _ _ h2) aW))⟩
 stop:=fun G H' s1 s2=>⟨vs,hS G H' s1 s2,by rw [m7,r.length];exact K0 _⟩
section
variable {X:Cx} {N':List Str} {ix:List Nat} {scope:Scope} {elt iter a b:Expr} {ifs:List Expr} {x y:Str} {px py tp pos:Pos} {c:Nat} {tt:TB} {te ti:TD} {ts:fF}
def Cw (d:D):Option (List D):=match d with | .lst xs=>some xs | .tup xs=>some xs | _=>none
theorem Fo {B:Base} {σ:St} {F H:Hp} {env:En} {P:List D→Prop} {R:It→Hp→Prop} (hi:QA X [a] ts) (rp:Rep X.K B F H σ env) (h:ts env fun ds=>∃d xs,ds=[d]∧Cw d=some xs∧P (nF xs))
  (hR:∀(J:It) (F1 H1:Hp) (xs:List D),Rep X.K B F1 H1 σ env→ar F F1→w6 X.K J F1 xs→P xs→R J H1) :
  Kn X.K (wA X [a]) σ H R:=by
 refine ck (hi B σ F H env _ rp h) fun vs H1 hq0=>?_
 obtain⟨F1,ds,r1,s1,d1,d,xs,hx,hd,q1⟩:=hq0
 subst hx
 simp only [aq] at d1
 obtain⟨v,r,rfl,dv,rfl⟩:=d1
 cases d with
 | lst ys =>
  simp only [Cw] at hd;cases hd
  simp only [Den] at dv
  obtain⟨l,vs,rfl,q,r⟩:=dv
  exact⟨l,rfl,.inl ⟨⟨vs,r1.fh.seq q⟩,hR _ F1 H1 _ r1 s1 (uB (fun G H' z1 z2=>z2.seq (z1.seq q)) r) q1⟩⟩
 | tup ys =>
  simp only [Cw] at hd;cases hd
  simp only [Den] at dv
  obtain⟨l,vs,rfl,q,r⟩:=dv
  exact⟨l,rfl,.inr ⟨⟨vs,ar.cn r1.fh q⟩,hR _ F1 H1 _ r1 s1 (uB (fun G H' z1 z2=>ar.cn z2 (ar.cn z1 q)) r) q1⟩⟩
 | _=>simp only [Cw] at hd;cases hd
def vq (ts:fF) (g:ow) (tb:bH):bH:=fun D env=>ts env fun ds=>∃d xs,ds=[d]∧Cw d=some xs∧turns g tb D (nF xs) env
theorem zo {tg:Expr} {body:List Stmt} {g:ow} {t:bH} (hg:QG X tg g) (hb:nS X body t) {B:Base} {σ:St} {F1 H1:Hp} {env:En} {D:Ends3} {J:It} {xs:List L3.D} (r1:Rep X.K B F1 H1 σ env) (S:w6 X.K J F1 xs) (q1:turns g t D xs env) :
  ∃W:Nat→Nat→St→Hp→Prop,(∃m,W 0 m σ H1)∧∀i m σ H,W i m σ H→(J.stop i H∧(RS X B D).nx σ H)∨(J.go i H∧∃N:St→Hp→Prop,(∀σ' H',N σ' H'→∃m',m' < m∧W (i + 1) m' σ' H') ∧
    ∀x H',J.yld i H x H'→wG X tg x σ H' fun σ2 H2=>wSs X body { RS X B D with nx:=N,ct:=N,bk:=(RS X B D).nx } σ2 H2):=by
 have sm:=RS.same (X:=X) (B:=B) (D:=D) r1.f0
 refine⟨fun i m σ H=>m=xs.length - i∧i≤xs.length∧∃F env,Rep X.K ⟨F1,B.H,B.N,B.nb⟩ F H σ env∧turns g t D (xs.drop i) env,⟨xs.length,by simp,Lp _,F1,env,r1.now,by simpa using q1⟩,?_⟩
 rintro i m σ2 H2 ⟨rfl,hi2,F2,env2,r2,q2⟩
 by_cases hlt:i < xs.length
 ·have hxi:xs[i]?=some xs[i]:=by simp [hlt]
  rw [drop_cons hxi] at q2
  refine .inr ⟨S.go i F2 H2 r2.f0 r2.fh hlt,fun σ' H'=>∃F env,Rep X.K ⟨F1,B.H,B.N,B.nb⟩ F H' σ' env∧turns g t D (xs.drop (i + 1)) env,fun σ' H' ⟨F',env',r',q'⟩=>⟨xs.length - (i + 1),by omega,rfl,by omega,F',env',r',q'⟩,fun z H' hz=>?_⟩
  obtain⟨G,rG,sG,dz⟩:=S.yld i F2 H2 z H' xs[i] _ σ2 env2 r2.f0 r2 hxi hz
  refine gA (hg _ σ2 G _ env2 _ _ _ rG dz q2) fun σ3 H3 hq0=>?_
  obtain⟨F3,env3,r3,s3,q3⟩:=hq0
  exact gj (hb _ σ3 F3 H3 env3 _ r3 q3) (fun _ _ q=>q) (fun v H q=>sm.2.1 v H q) (fun v H q=>sm.1 v H q) (fun _ _ q=>q)
 ·have e:i=xs.length:=by omega
  subst e
  rw [Ly (K0 _)] at q2
  exact .inl ⟨S.stop F2 H2 r2.f0 r2.fh,sm.1 _ _ ⟨F2,env2,r2,q2⟩⟩
theorem DB {elts:List Expr} {x1:Nat} {body:List Stmt} {g:ow} {t:bH} {p pos2:Pos} (hp:PassesOwn (model X.prog X.w) X.A X.env X.xe) (hc:X.calm=true) (hgl:Gl X "enumerate") (hm:X.mg "enumerate" = none) (ha:QA X [a] ts) (hg:QG X (.Tuple elts x1 tp) g) (hb:nS X body t)
  (hst:starEach [a] X.env=[(false,eval a X.env)]:=by rfl) (hs:∀x,foldedSetIterable (.Call (.Name "enumerate" p) [a] [] pos2) X.env x=pure x:=by intro _;rfl):QS X (.For (.Tuple elts x1 tp) (.Call (.Name "enumerate" p) [a] [] pos2) body [] pos) (vq ts g t):=by
 refine⟨fun B σ F H env D rp h=>eB (pA hp hc (HA hgl hm i9 hst) vC eI hs) ?_⟩
 exact Fo (P:=fun xs=>turns g t D xs env) ha rp h fun J F1 H1 xs r1 s1 S q=>zo hg hb r1 S q
end
end L2.L3
namespace L2.L3
open PySem PySem.Spec PyProof.Rows
mutual
theorem yp:∀(a b c:D),a5 a b=true→a5 a c=a5 b c:=by
 intro a b c h
 cases a <;> cases b <;> first | (simp only [a5,KR] at h;done) | skip
 all_goals cases c <;> first | rfl | (simp only [a5,beq_iff_eq] at h ⊢;subst h;rfl) | skip
 all_goals first
  | (simp only [a5] at h ⊢;exact vk _ _ _ h)
  | (simp only [a5,beq_iff_eq] at h ⊢;rw [Bool.eq_iff_iff];simp only [beq_iff_eq];split at h <;> split <;> simp_all <;> omega)
  | (simp only [a5,beq_iff_eq] at h ⊢;rw [Bool.eq_iff_iff];simp only [beq_iff_eq];split at h <;> simp_all)
  | (simp only [a5,beq_iff_eq] at h ⊢;subst h;rw [Bool.eq_iff_iff];simp only [beq_iff_eq];split <;> simp_all)
  | (simp only [a5,beq_iff_eq] at h ⊢;subst h;split <;> simp_all)
theorem vk:∀(a b c:List D),eN a b=true→eN a c=eN b c:=by
 intro a b c h
 cases a with
 | nil=>cases b with
  | nil=>rfl
  | cons y r=>simp only [eN,KR] at h
 | cons x r=>cases b with
  | nil=>simp only [eN,KR] at h
  | cons y t =>
   simp only [eN,Bool.and_eq_true] at h
   cases c with
   | nil=>rfl
   | cons z u=>simp only [eN];rw [yp x y z h.1,vk r t u h.2]
end
section
variable {X:Cx} {pins:List (Addr×Obj)} {σ:St} {H F:Hp} {s:Shared}
open Classical in
noncomputable def fy (us:List Value) (ds:List D) (d:D) (u:Value):Bool:=decide (∃(i:Nat) (x:D),us[i]?=some u∧ds[i]?=some x∧a5 x d=true)
open Classical in
theorem oN (I:Inv X pins σ H s) (fh:ar F H) {ds:List D} {vs:List V} {us:List Value} {d:D} (hd:bE ds < 1000) (dl:aq X.K F ds vs) (rv:Vals vs us) {j:Nat} {x:D} {u:Value} (hx:ds[j]?=some x) (hu:us[j]?=some u):fy us ds d u=a5 x d:=by
 unfold fy
 have dle:∀(k:Nat) (y:D),ds[k]?=some y→dep y < 1000:=fun k y hy=>by
  clear dl rv hx hu
  induction ds generalizing k with
  | nil=>simp at hy
  | cons z r ih =>
   simp only [bE] at hd
   cases k with
   | zero=>simp at hy;subst hy;omega
   | succ k=>exact ih (by omega) k (by simpa using hy)
 cases hb:a5 x d with
 | true=>exact decide_eq_true ⟨j,x,hu,hx,hb⟩
 | false =>
  refine decide_eq_false fun hq0=>?_
  obtain⟨i,y,h1,h2,h3⟩:=hq0
  obtain⟨v1,e1,d1⟩:=dl.get hx
  obtain⟨v2,e2,d2⟩:=dl.get h2
  obtain⟨w1,g1,r1⟩:=rv.get e1
  obtain⟨w2,g2,r2⟩:=rv.get e2
  rw [hu] at g1;cases g1
  rw [h1] at g2;cases g2
  have:=r1.inj r2
  subst this
  have k:=oE I fh y x _ (dle _ _ h2) (dle _ _ hx) d2 d1
  rw [yp y x d k,hb] at h3
  cases h3
theorem gp (I:Inv X pins σ H s) (fh:ar F H) {ds:List D} {vs:List V} {us:List Value} {d:D} (hd:bE ds < 1000) (dl:aq X.K F ds vs) (rv:Vals vs us):us.map (fy us ds d)=ds.map fun x=>a5 x d:=by
 have l1:=dl.length
 have l2:=rv.length
 apply List.ext_getElem?
 intro i
 rw [KU,KU]
 by_cases hi:i < ds.length
 ·have h1:ds[i]?=some ds[i]:=by simp [hi]
  have h2:us[i]?=some (us[i]'(by omega)):=KP _
  rw [h1,h2]
  simp only [Option.map_some]
  rw [oN I fh hd dl rv h1 h2]
 ·rw [K7 (by omega),K7 (by omega)];rfl
end
section
variable {X:Cx} {a b:Expr} {ta tb:TD} {pos:Pos}
def Fd (X:Cx) (neg:Bool):R2:=fun x y H Q=>∃(F:Hp) (d:D) (ds:List D) (vs:List V) (p:Addr),ar F H∧Den X.K F d x∧y=.ref p∧(d9 X.K F p vs∨iZ X.K F p vs)∧aq X.K F ds vs∧X.A.units + 64 < cLine∧bE ds≤60∧dep d≤60∧Q (.bl (if neg then !ds.any (fun e=>a5 e d) else ds.any fun e=>a5 e d)) H
theorem any_map' {α:Type} (f:α→Bool) (l:List α):l.any f=(l.map f).any id:=by rw [List.any_map];rfl
theorem jr {X:Cx} {pins:List (Addr×Obj)} {σ:St} {H F:Hp} {s:Shared} (I:Inv X pins σ H s) (fh:ar F H) {ds:List D} {vs:List V} {us:List Value} {d:D} {x:V} {v:Value} (hu:X.A.units + 64 < cLine) (hds:bE ds≤60) (hd:dep d≤60) (dl:aq X.K F ds vs) (rv:Vals vs us) (dx:Den X.K F d x) (rx:RelV x v) :
  ∀u∈us,SeqAt.EqAt X.A.in1 s u v (fy us ds d u):=by
 intro u hu'
 obtain⟨j,hj,e⟩:=List.getElem_of_mem hu'
 have h2:us[j]?=some u:=by rw [← e];simp [hj]
 have l1:=dl.length
 have l2:=rv.length
 have h1:ds[j]?=some (ds[j]'(by omega)):=KP _
 rw [oN I fh (by omega) dl rv h1 h2]
 obtain⟨w,g1,g2⟩:=dl.get h1
 obtain⟨u',g3,g4⟩:=rv.get g1
 rw [h2] at g3;cases g3
 have dle:dep (ds[j]'(by omega))≤60:=by
  have go:∀(l:List D) (n:Nat),bE l≤n→∀y∈l,dep y≤n:=by
   intro l
   induction l with
   | nil=>intro n _ y hy;cases hy
   | cons z r ih =>
    intro n hn y hy
    simp only [bE] at hn
    rcases Ld.mp hy with rfl | hy
    ·omega
    ·exact ih n (by omega) y hy
  exact go ds 60 hds _ (LI _)
 exact oX I fh _ d X.A.in1 _ x u v (by rw [units_in1];omega) (by omega) (by omega) g2 dx g4 rx
theorem EX:iX X (compareOp .In) (Fd X false):=by
 intro pins s σ H x y v u Q I rx ry h
 obtain⟨F,d,ds,vs,p,fh,dx,rfl,hq,dl,hu,h1,h2,q⟩:=h
 cases ry
 rcases hq with hq | hq
 ·obtain⟨its,r,pl,hz⟩:=I.list (fh.seq hq)
  refine SeqAt.in_listAt (fy its ds d) pl.isList (fun w hw=>jr I fh hu h1 h2 dl r dx rx w (by simpa using hw)) ⟨.bl _,H,I,rfl,?_⟩
  rw [show its.toArray.any (fy its ds d)=its.any (fy its ds d) by simp,any_map',gp I fh (by omega) dl r,← any_map']
  exact q
 ·obtain⟨its,r,pl,hz⟩:=I.tuple (ar.cn fh hq)
  refine SeqAt.in_tupleAt (fy its ds d) pl (fun w hw=>jr I fh hu h1 h2 dl r dx rx w (by simpa using hw)) ⟨.bl _,H,I,rfl,?_⟩
  rw [show its.toArray.any (fy its ds d)=its.any (fy its ds d) by simp,any_map',gp I fh (by omega) dl r,← any_map']
  exact q
theorem DK:iX X (compareOp .NotIn) (Fd X true):=by
 intro pins s σ H x y v u Q I rx ry h
 obtain⟨F,d,ds,vs,p,fh,dx,rfl,hq,dl,hu,h1,h2,q⟩:=h
 cases ry
 rcases hq with hq | hq
 ·obtain⟨its,r,pl,hz⟩:=I.list (fh.seq hq)
  refine SeqAt.notIn_listAt (fy its ds d) pl.isList (fun w hw=>jr I fh hu h1 h2 dl r dx rx w (by simpa using hw)) ⟨.bl _,H,I,rfl,?_⟩
  rw [show its.toArray.any (fy its ds d)=its.any (fy its ds d) by simp,any_map',gp I fh (by omega) dl r,← any_map']
  exact q
 ·obtain⟨its,r,pl,hz⟩:=I.tuple (ar.cn fh hq)
  refine SeqAt.notIn_tupleAt (fy its ds d) pl (fun w hw=>jr I fh hu h1 h2 dl r dx rx w (by simpa using hw)) ⟨.bl _,H,I,rfl,?_⟩
  rw [show its.toArray.any (fy its ds d)=its.any (fy its ds d) by simp,any_map',gp I fh (by omega) dl r,← any_map']
  exact q
def uH (neg:Bool) (x y:D) (Q:D→Prop):Prop:=∃ds,Cw y=some ds∧bE ds≤60∧dep x≤60∧Q (.bl (if neg then !ds.any (fun e=>a5 e x) else ds.any fun e=>a5 e x))
theorem BB (hu:X.A.units + 64 < cLine) (neg:Bool):u7 X (Fd X neg) (uH neg):=by
 intro B σ F H env Q d d' x y Z rp h1 h2 hz hf
 obtain⟨ds,e,l1,l2,q⟩:=hf
 cases d' with
 | lst xs =>
  simp only [Cw] at e;cases e
  simp only [Den] at h2
  obtain⟨p,vs,rfl,hq,dl⟩:=h2
  exact⟨F,d,_,vs,p,rp.fh,h1,rfl,.inl hq,dl,hu,l1,l2,hz _ H F _ rp (ar.refl _) hG q⟩
 | tup xs =>
  simp only [Cw] at e;cases e
  simp only [Den] at h2
  obtain⟨p,vs,rfl,hq,dl⟩:=h2
  exact⟨F,d,_,vs,p,rp.fh,h1,rfl,.inr hq,dl,hu,l1,l2,hz _ H F _ rp (ar.refl _) hG q⟩
 | _=>simp only [Cw] at e;cases e
theorem IG (hu:X.A.units + 64 < cLine) (ha:QE X a ta) (hb:QE X b tb) (hm:behindInMarks .In b=false:=by rfl):QT X (.Compare a [.In] [b] pos) (aK (aC (uH false) ta tb)):=gc EX (BB hu false) ha hb hm
theorem A3 (hu:X.A.units + 64 < cLine) (ha:QE X a ta) (hb:QE X b tb) (hm:behindInMarks .NotIn b=false:=by rfl):QT X (.Compare a [.NotIn] [b] pos) (aK (aC (uH true) ta tb)):=gc DK (BB hu true) ha hb hm
def lO (neg:Bool) (x:D):D:=.bl (match x with | .non=>!neg | _=>neg)
theorem nN {K:PySem.W.Frag} {F:Hp} {d:D} {v:V} (h:Den K F d v):decide (v=.non)=(match d with | .non=>true | _=>false):=by
 cases d <;> simp only [Den] at h <;> first | (subst h;rfl) | (obtain⟨_,_,rfl,_⟩:=h;rfl) | (obtain⟨_,rfl,_⟩:=h;rfl)
def gD (neg:Bool) (x y:D) (Q:D→Prop):Prop:=y=.non∧Q (lO neg x)
theorem E4:u7 X (fun x y H Q=>y=.non∧Q (.bl (decide (x=.non))) H) (gD false):=by
 intro B σ F H env Q d d' x y Z rp h1 h2 hz hf
 obtain⟨rfl,q⟩:=hf
 simp only [Den] at h2
 refine⟨h2,hz _ H F _ rp (ar.refl _) ?_ q⟩
 rw [nN h1]
 unfold lO
 cases d <;> exact hG
theorem Ea:u7 X (fun x y H Q=>y=.non∧Q (.bl (!decide (x=.non))) H) (gD true):=by
 intro B σ F H env Q d d' x y Z rp h1 h2 hz hf
 obtain⟨rfl,q⟩:=hf
 simp only [Den] at h2
 refine⟨h2,hz _ H F _ rp (ar.refl _) ?_ q⟩
 rw [nN h1]
 unfold lO
 cases d <;> exact hG
theorem HS (ha:QE X a ta) (hb:QE X b tb):QT X (.Compare a [.Is] [b] pos) (aK (aC (gD false) ta tb)):=gc Gv E4 ha hb (ef _)
theorem Gn (ha:QE X a ta) (hb:QE X b tb):QT X (.Compare a [.IsNot] [b] pos) (aK (aC (gD true) ta tb)):=gc CI Ea ha hb (ef _)
end
end L2.L3
namespace L2
open PySem PySem.Spec PyProof.Rows
section
variable {X:Cx}
theorem Vals.insertAt {xs:List V} {us:List Value} {x:V} {u:Value} (h:Vals xs us) (r:RelV x u) (k:Nat):Vals (xs.take k ++ x :: xs.drop k) (us.take k ++ u :: us.drop k):=by
 induction h generalizing k with
 | nil=>simp;exact .cons r .nil
 | @cons y w ys ws q t ih =>
  cases k with
  | zero=>exact .cons r (.cons q t)
  | succ k=>exact .cons q (ih k)
def CP:V→List V→Hp→VK→Prop:=fun x vs H Q=>∃l xs i y,x=.ref l∧vs=[.int i,y]∧H l=some (.lst xs)∧0≤i∧i≤xs.length∧xs.length < sizeLine∧Q .non (upd H l (.lst (xs.take i.toNat ++ y :: xs.drop i.toNat)))
theorem zK:Jd X "list.insert" CP:=by
 intro pins s σ H x vs v us Q I rx rv h
 obtain⟨l,xs,i,y,rfl,rfl,hH,h0,h1,h2,q⟩:=h
 cases rx
 obtain⟨u,w,rfl,ru,rw'⟩:=rv.two
 obtain⟨t,rfl⟩:=ru
 obtain⟨z,its,n,r,hl,e⟩:=I.DY hH
 have hs:xs.length≤2 ^ 62:=by rw [sizeLine_eq] at h2;omega
 have hfit:¬ (!Builtin.List.listFitsIndex i)=true:=by
  rw [fitsIndex_both (by omega) (by omega)]
  exact Bool.false_ne_true
 refine call_meets F.slot_list_insert ⟨_,e,rfl⟩ F.entry_list_insert (F.args_list_insert_3 _ _ _) (AutoSeq1.list_insert_list_int_val_1 l its.toArray n i t w hfit (by rw [K5];omega)) ⟨e,?_⟩
 refine⟨.non,_,I.CM (its':=its.take i.toNat ++ w :: its.drop i.toNat) hH e ?_ (r.insertAt rw' i.toNat) ?_,rfl,q⟩
 ·apply Array.toList_inj.mp
  have c1:¬ i < 0:=by omega
  have c2:min i.toNat its.toArray.size=i.toNat:=by rw [K5];omega
  simp only [c1,if_false,c2]
  simp
  exact LB (by simp)
 ·simp;omega
end
end L2
namespace L2.L3
open PySem PySem.Spec PyProof.Rows
section
variable {X:Cx} {e f:Expr} {te tf:TD} {ts:fF} {pos:Pos}
def oG (i:Nat) (te tf:TD):bH:=fun D env=>∃xs,env[i]?=some (some (.own xs))∧te env fun y=>tf env fun x=>∃k:Int,y=.int k∧0≤k∧k≤xs.length∧xs.length < sizeLine∧D.nx (env.set i (some (.own (xs.take k.toNat ++ x :: xs.drop k.toNat))))
theorem zH {x:Str} {px apos cpos:Pos} (i:Nat) (he:QE X e te) (hf:QE X f tf) (hN:X.N[i]?=some x:=by rfl) (hv:rf X.env.scope x:=by first | exact Or.inl rfl | exact Or.inr (Or.inl rfl) | exact Or.inr (Or.inr rfl)) (hd:(x == ("__debug__" : Str))=false:=by decide) (hcd:(x == ("__classdict__" : Str))=false:=by decide)
  (hbase:attributeBase (.Name x px) "insert" X.env (eval (.Name x px) X.env)=eval (.Name x px) X.env:=by rfl)
  (hfew:((backTo cpos (starEach [e,f] X.env)).all (fun x=>!x.1) && (backToKw cpos (keywordEach [] X.env)).all (fun x=>x.1.isSome)
   && decide (([e,f]:List Expr).length + ([]:List Keyword).length + (if ([]:List Keyword).isEmpty then 0 else 1) < 30))=true:=by rfl)
  (hline:(apos.endLine == cpos.line)=true:=by rfl) (hst:starEach [e,f] X.env=(false,eval e X.env) :: starEach [f] X.env:=by exact a6 rfl) (hst2:starEach [f] X.env=(false,eval f X.env) :: starEach [] X.env:=by exact a6 rfl) (hplain:(backTo cpos (starEach ([f]:List Expr) X.env)).any (·.1)=false:=by rfl)
  (hs:swapsWith (.Call (.Attribute (.Name x px) "insert" apos) [e,f] [] cpos) none pos.line X.env=pure false:=by rfl) :
  QS X (.Expr (.Call (.Attribute (.Name x px) "insert" apos) [e,f] [] cpos) pos) (oG i te tf):=by
 refine⟨?_⟩
 intro B σ F H env D rp h
 refine eB (oo (rg PySem.F.plainAttrs_list PySem.F.slot_list_insert PySem.F.type_list_insert zK (cL hN hv hd hcd) (fT bR (fT bR gU hst2) hst) hbase hfew hline hst hplain) hs) ?_
 obtain⟨xs,hx,h⟩:=h
 obtain⟨p,vs,h1,h2,h3,h4,h5⟩:=rp.ov i xs hx
 refine⟨.ref p,h1,.inl ⟨rfl,vs,d9.of h2⟩,?_⟩
 refine aL (he B σ F H env _ rp h) fun y H1 hq0=>?_
 obtain⟨F1,d,r1,s1,d1,q1⟩:=hq0
 refine aL (hf B σ F1 H1 env _ r1 q1) fun z H2 hq0=>?_
 obtain⟨F2,d',r2,s2,d2,k,e1,k0,k1,k2,q2⟩:=hq0
 subst e1
 simp only [Den] at d1
 subst d1
 obtain⟨p',vs',g1,g2,g3,g4,g5⟩:=r2.ov i xs hx
 rw [h1] at g1;cases g1
 have hl:=g5.length
 exact⟨p,vs',k,z,rfl,rfl,g2,k0,by omega,by omega,F2,_,r2.change hx h1 ((g5.take _).append (aX d2 (g5.drop _))),q2⟩
def pB (i:Nat):TB:=fun env Q=>∃xs,env[i]?=some (some (.own xs))∧bE xs≤50∧Q (!xs.isEmpty)
theorem yT {x:Str} {px pl:Pos} (i:Nat) (hu:X.A.units + 64 < cLine) (hN:X.N[i]?=some x:=by rfl) (hv:rf X.env.scope x:=by first | exact Or.inl rfl | exact Or.inr (Or.inl rfl) | exact Or.inr (Or.inr rfl)) (hd:(x == ("__debug__" : Str))=false:=by decide)
  (hcd:(x == ("__classdict__" : Str))=false:=by decide):QT X (.Compare (.Name x px) [.NotEq] [.List [] pl] pos) (pB i):=by
 refine⟨fun B σ F H env Q rp h=>rR (oK xT (cL hN hv hd hcd) (sv gU) (ef _)) ?_⟩
 obtain⟨xs,hx,hdep,q⟩:=h
 obtain⟨p,vs,h1,h2,h3,h4,h5⟩:=rp.ov i xs hx
 refine⟨.ref p,h1,by simp [PySem.sizeLine_eq],fun w hw=>?_⟩
 have ne:p≠w:=fun z=>by subst z;rw [h2] at hw;cases hw
 have s1:ar F (upd F p (.lst vs)):=cA h3
 refine⟨upd (upd F p (.lst vs)) w (.lst []),.lst xs,.lst [],?_,?_,?_,by simp only [dep];omega,by simp only [dep];omega,by decide,!xs.isEmpty,?_,F,rp.loose hw,ar.refl _,q⟩
 ·refine mI fun b o hb=>?_
  by_cases z:b=p
  ·subst z;rw [aI] at hb;cases hb;exact h2
  ·rw [aH z] at hb;exact rp.fh _ _ hb
 ·have s2:ar (upd F p (.lst vs)) (upd (upd F p (.lst vs)) w (.lst [])):=cA (by rw [aH (Ne.symm ne)];exact rp.rK hw)
  exact fe (d9.of (by rw [aH ne];exact aI)) (aq.mono (s1.trans s2) _ _ h5)
 ·exact fe (d9.of aI) aW
 ·cases xs <;> rfl
def lL (j i:Nat) (te:TD):bH:=fun Z env=>∃xs,env[i]?=some (some (.own xs))∧te env fun y=>∃(k:Nat) (x:D),y=.int k∧xs[k]?=some x∧k < 2 ^ 62∧Z.nx ((env.set i (some (.own (xs.eraseIdx k)))).set j (some (.d x)))
theorem aq.eraseIdx {K:PySem.W.Frag} {F:Hp}:∀{ds:List D} {vs:List V} (k:Nat),aq K F ds vs→aq K F (ds.eraseIdx k) (vs.eraseIdx k)
 | [],vs,k,h=>by simp only [aq] at h;subst h;simpa using aW
 | d :: ds,vs,0,h=>by
  simp only [aq] at h
  obtain⟨v,r,rfl,a,b⟩:=h
  exact b
 | d :: ds,vs,k + 1,h=>by
  simp only [aq] at h
  obtain⟨v,r,rfl,a,b⟩:=h
  exact aX a (aq.eraseIdx k b)
theorem rh {x y:Str} {px py apos cpos:Pos} (j i:Nat) (nd:X.N.Nodup) (he:QE X e te) (hN:X.N[i]?=some x:=by rfl) (hv:rf X.env.scope x:=by first | exact Or.inl rfl | exact Or.inr (Or.inl rfl) | exact Or.inr (Or.inr rfl)) (hd:(x == ("__debug__" : Str))=false:=by decide) (hcd:(x == ("__classdict__" : Str))=false:=by decide)
  (hj:X.N[j]?=some y:=by rfl) (hy:Loc X.env.scope y:=by first | exact Or.inl rfl | exact Or.inr rfl)
  (hbase:attributeBase (.Name x px) "pop" X.env (eval (.Name x px) X.env)=eval (.Name x px) X.env:=by rfl)
  (hfew:((backTo cpos (starEach [e] X.env)).all (fun x=>!x.1) && (backToKw cpos (keywordEach [] X.env)).all (fun x=>x.1.isSome)
   && decide (([e]:List Expr).length + ([]:List Keyword).length + (if ([]:List Keyword).isEmpty then 0 else 1) < 30))=true:=by rfl)
  (hline:(apos.endLine == cpos.line)=true:=by rfl) (hst:starEach [e] X.env=(false,eval e X.env) :: starEach [] X.env:=by exact a6 rfl) (hplain:(backTo cpos (starEach ([]:List Expr) X.env)).any (·.1)=false:=by rfl)
  (hs:swapsWith (.Call (.Attribute (.Name x px) "pop" apos) [e] [] cpos) (some (.Name y py)) pos.line X.env=pure false:=by rfl) (hf:X.fn y=true∨X.env.scope.names.lookup y=some .local:=by first | exact .inl rfl | exact .inr rfl) :
  QS X (.Assign [.Name y py] (.Call (.Attribute (.Name x px) "pop" apos) [e] [] cpos) pos) (lL j i te):=by
 refine⟨fun B σ F H env D rp h pins s I=>?_⟩
 refine p5 (i:=j) nd hj hy (rg PySem.F.plainAttrs_list PySem.F.slot_list_pop PySem.F.type_list_pop vg (cL hN hv hd hcd) (fT bR gU hst) hbase hfew hline hst hplain) hs hf pins s σ H _ I ?_
 obtain⟨xs,hx,h⟩:=h
 obtain⟨p,vs,h1,h2,h3,h4,h5⟩:=rp.ov i xs hx
 refine⟨.ref p,h1,.inl ⟨rfl,vs,d9.of h2⟩,?_⟩
 refine aL (he B σ F H env _ rp h) fun w H1 hq0=>?_
 obtain⟨F1,d,r1,s1,d1,k,x',e1,hk,hk2,q1⟩:=hq0
 subst e1
 simp only [Den] at d1
 subst d1
 obtain⟨p',vs',g1,g2,g3,g4,g5⟩:=r1.ov i xs hx
 rw [h1] at g1;cases g1
 obtain⟨u,hu,du⟩:=g5.get hk
 have hl:=g5.length
 have hkl:=(KL.mp hk).1
 have hix:seqIndex? (k:Int) vs'.length=some k:=(ou (n:=vs'.length) (i:=(k:Int)) (j:=k) (by unfold ux;rw [KS (by omega),KS (by omega)];simp)).1
 refine⟨p,vs',k,k,u,rfl,rfl,g2,by omega,by omega,hix,hu,F1,_,(r1.change hx h1 (g5.eraseIdx k)).set du ?_,q1⟩
 rw [I.len];exact (KL.mp hj).1
theorem zk {a:Expr} {ta:TA} {p:Pos} (hg:Gl X "range") (hm:X.mg "range" = none) (ha:PA X [a] ta) (hs:starEach [a] X.env=[(false,eval a X.env)]:=by rfl) :
  PE X (.Call (.Name "range" p) [a] [] pos) (fun σ H Q=>ta σ H fun vs H1=>∃n:Int,vs=[.int n]∧∀r,H1 r=none→Q (.ref r) (upd H1 r (.rng 0 n))):=by
 intro pins s σ H Q I h
 refine Call_ (kT I hg hm boot_range (PyProof.Rows.callWith_type1 (b9 (ha pos pins s σ H _ I h) fun us s1 ⟨vs,H1,I1,r1,q1⟩=>?_) hs rfl))
 obtain⟨n,rfl,q⟩:=q1
 obtain⟨u,rfl,ru⟩:=r1.one
 obtain⟨t,rfl⟩:=ru
 refine call_range_1 ⟨.ref s1.heap.objs.size,_,I1.laid (fun b o e=>KY _ e) (K0 _) (show cE X.prog X.w _ _ _ (.rng 0 n) from ⟨_,_,_,La _ rfl⟩),rfl,q _ (I1.hok.fresh (K0 _))⟩
theorem j9 {n:Nat} {acc:Array Value} (h:ItemsOf (fun i v=>∃t,v=.int ((0:Int) + i * 1) t) acc n):Vals ((List.range n).map fun (i:Nat)=>V.int (i:Int)) acc.toList:=by
 have hl:acc.toList.length=n:=by simpa using h.1
 have go:∀(l:List Value) (k:Nat),(∀(j:Nat) (v:Value),l[j]?=some v→∃t,v=.int ((k + j:Nat):Int) t)→Vals ((List.range' k l.length).map fun (i:Nat)=>V.int (i:Int)) l:=by
  intro l
  induction l with
  | nil=>intro k _;exact .nil
  | cons v r ih =>
   intro k hk
   obtain⟨t,e⟩:=hk 0 v rfl
   refine .cons ⟨t,by simpa using e⟩ (ih (k + 1) fun j w hw=>?_)
   obtain⟨t',e'⟩:=hk (j + 1) w (by simpa using hw)
   exact⟨t',by rw [e'];congr 1;omega⟩
 have:=go acc.toList 0 fun j v hv=>by
  obtain⟨t,e⟩:=h.2 j v (by simpa using hv)
  exact⟨t,by rw [e];congr 1;omega⟩
 rw [hl,← List.range_eq_range'] at this
 exact this
theorem wD (hc:X.calm=true):fL X (.type "list") (fun xs H Q=>∃r n,xs=[.ref r]∧H r=some (.rng 0 n)∧(-(2 ^ 62)≤n∧n≤16777216)∧∀l,H l=none→Q (.ref l) (upd H l (.lst ((List.range n.toNat).map fun (i:Nat)=>V.int (i:Int))))):=by
 intro pins s σ H xs us Q I r h
 obtain⟨a,n,rfl,hr,⟨n1,n2⟩,q⟩:=h
 obtain⟨u,rfl,rx⟩:=vals1 r
 cases rx
 obtain⟨t,u,v,e⟩:=(show cE X.prog X.w H s.heap a (.rng 0 n) from I.hok a _ hr)
 have hsz:Builtin.Range.rangeSize 0 n 1=(n.toNat:Int):=by rw [rangeSize_one];split <;> omega
 refine call_list_range (I.ok.hd hc) e (small_one (by decide) (by decide) n1 (by omega)) hsz (by omega) fun h' tk acc c kp e' it=>?_
 refine⟨.ref s.heap.objs.size,_,I.laid (t':=tk) kp (K0 _) (show cE X.prog X.w _ h' _ (.lst ((List.range n.toNat).map fun (i:Nat)=>V.int (i:Int))) from ⟨by simp [PySem.sizeLine_eq];omega,acc.toList,c,j9 it,by simpa using e'⟩),rfl,q _ (I.hok.fresh (K0 _))⟩
def sJ (ts:fF):fF:=fun env Q=>ts env fun ds=>∃n:Int,ds=[.int n]∧(-(2 ^ 62)≤n∧n≤16777216)∧Q (a8 0 n.toNat)
theorem xb {K:PySem.W.Frag} {F:Hp} (n:Nat):aq K F (a8 0 n) ((List.range n).map fun (i:Nat)=>V.int (i:Int)):=by
 have e:a8 0 n=((List.range n).map fun (i:Nat)=>(i:Int)).map D.int:=by unfold a8;rw [List.map_map];congr 1;funext i;simp
 have e2:((List.range n).map fun (i:Nat)=>V.int (i:Int))=((List.range n).map fun (i:Nat)=>(i:Int)).map V.int:=by rw [List.map_map];rfl
 rw [e,e2];exact nC _
theorem AS {a:Expr} {p p2 pos2:Pos} (hm:X.mg "list" = none) (hm2:X.mg "range" = none) (ha:QA X [a] ts) (hc:X.calm=true:=by rfl) (hg:Gl X "list":=by rfl) (hg2:Gl X "range":=by rfl) (hs:starEach [a] X.env=[(false,eval a X.env)]:=by rfl)
  (he:starEach [.Call (.Name "range" p2) [a] [] pos2] X.env=(false,eval (.Call (.Name "range" p2) [a] [] pos2) X.env) :: starEach [] X.env:=by exact a6 rfl) (hpl:(backTo pos (starEach ([]:List Expr) X.env)).any (·.1)=false:=by rfl) :
  QF X (.Call (.Name "list" p) [.Call (.Name "range" p2) [a] [] pos2] [] pos) (sJ ts):=by
 refine⟨fun B σ F H env Q rp h=>bY (nE (wD hc) hg hm oR (fT (zk hg2 hm2 i9 hs) gU he) (by decide) (by decide) he hpl) ?_⟩
 refine ck (ha B σ F H env _ rp h) fun vs H1 hq0=>?_
 obtain⟨F1,ds,r1,s1,d1,n,e1,hn,q1⟩:=hq0
 subst e1
 simp only [aq,Den] at d1
 obtain⟨v,r,rfl,rfl,rfl⟩:=d1
 refine⟨n,rfl,fun r hr=>?_⟩
 obtain⟨r2,s2⟩:=r1.laid (o:=.rng 0 n) hr
 exact⟨r,n,rfl,aI,hn,fun w hw=>⟨_,_,w,_,_,rfl,hw,rfl,r2,s1.trans s2,xb _,q1⟩⟩
end
section
variable {X:Cx} {N':List Str} {ix:List Nat} {scope:Scope} {elt a:Expr} {ifs:List Expr} {x:Str} {px py pos spos p pos2:Pos} {tt:TB} {te:TD} {ts:fF}
theorem oa {y:Str} (i:Nat) (hNd:X.N.Nodup) (hc:X.calm=true) (O:cN X N' 1 ix scope) (hN:N'.Nodup) (h0:N'[0]?=some x) (hx:(relabel scope X.env).names.lookup x=some .local) (hgl:Gl X "range") (hm:X.mg "range" = none) (ha:QA X [a] ts)
  (ht:∀C s H fp pins,xm (b8 X N' scope C s H fp pins) ifs tt) (he:∀C s H fp pins,QE (b8 X N' scope C s H fp pins) elt te) (hy:X.N[i]?=some y:=by rfl) (hl:Loc X.env.scope y:=by first | exact Or.inl rfl | exact Or.inr rfl)
  (hsw:swapsWith (.ListComp elt [⟨.Name x px,.Call (.Name "range" p) [a] [] pos2,ifs,0⟩] scope pos) (some (.Name y py)) spos.line X.env=pure true:=by rfl) (hf:X.fn y=true∨X.env.scope.names.lookup y=some .local:=by first | exact .inl rfl | exact .inr rfl)
  (hst:starEach [a] X.env=[(false,eval a X.env)]:=by rfl) (hs:∀x,foldedSetIterable (.Call (.Name "range" p) [a] [] pos2) X.env x=pure x:=by intro _;rfl) :
  QS X (.Assign [.Name y py] (.ListComp elt [⟨.Name x px,.Call (.Name "range" p) [a] [] pos2,ifs,0⟩] scope pos) spos) (bF i (gY m6 ix ts tt te)):=by
 refine⟨fun B σ F H env D rp h pins s I=>?_⟩
 refine pU hc (nj hgl hm i9 hst) O hNd hy hl hsw hf hs pins s σ H _ I ?_
 refine ck (ha B σ F H env _ rp h) fun vs H1 hq0=>?_
 obtain⟨F1,ds,r1,s1,d1,q1⟩:=hq0
 (try dsimp only at q1);unfold m6 at q1
 split at q1
 ·simp only [aq,Den] at d1
  obtain⟨v,r,rfl,rfl,rfl⟩:=d1
  refine⟨_,rfl,q1.1.1,q1.1.2,?_⟩
  intro a' C s fp pins ha'
  obtain⟨W,w0,step⟩:=nr (X:=X) (px:=px) hN h0 hx ht he s1 r1 nP q1.2 a' C s fp pins ha'
  refine⟨W,w0,fun i' m σ' H' w=>?_⟩
  rcases step i' m σ' H' w with ⟨st,z⟩ | z
  ·refine .inl ⟨st,?_⟩
   obtain⟨F',H2,p,vs,ds,e1,hp,e2,r',s',hd,q'⟩:=z
   cases e1
   subst e2
   refine⟨F',_,r'.B8 hp hd ?_,q'⟩
   rw [I.len];exact (KL.mp hy).1
  ·exact .inr z
 ·exact q1.elim
end
end L2.L3
namespace L2.L3
open PySem PySem.Spec PyProof.Rows
section
variable {X:Cx} {o e:Expr} {to te:TD} {apos cpos:Pos}
theorem mX {X:Cx} {pins:List (Addr×Obj)} {σ:St} {H F:Hp} {s:Shared} (I:Inv X pins σ H s) (fh:ar F H) {ds:List D} {vs:List V} {us:List Value} {d:D} {x:V} {v:Value} (A:Around) (hu:A.units + 62 < cLine) (hds:bE ds≤60) (hd:dep d≤60) (dl:aq X.K F ds vs) (rv:Vals vs us) (dx:Den X.K F d x) (rx:RelV x v) :
  ∀u∈us,SeqAt.EqAt A s u v (fy us ds d u):=by
 intro u hu'
 obtain⟨j,hj,e⟩:=List.getElem_of_mem hu'
 have h2:us[j]?=some u:=by rw [← e];simp [hj]
 have l1:=dl.length
 have l2:=rv.length
 have h1:ds[j]?=some (ds[j]'(by omega)):=KP _
 rw [oN I fh (by omega) dl rv h1 h2]
 obtain⟨w,g1,g2⟩:=dl.get h1
 obtain⟨u',g3,g4⟩:=rv.get g1
 rw [h2] at g3;cases g3
 have dle:dep (ds[j]'(by omega))≤60:=by
  have go:∀(l:List D) (n:Nat),bE l≤n→∀y∈l,dep y≤n:=by
   intro l
   induction l with
   | nil=>intro n _ y hy;cases hy
   | cons z r ih =>
    intro n hn y hy
    simp only [bE] at hn
    rcases Ld.mp hy with rfl | hy
    ·omega
    ·exact ih n (by omega) y hy
  exact go ds 60 hds _ (LI _)
 exact oX I fh _ d A _ x u v (by omega) (by omega) (by omega) g2 dx g4 rx
theorem gS {α:Type} (f:α→Bool) (l:List α):l.countP f=(l.map f).countP id:=by rw [List.countP_map];rfl
end
end L2.L3
namespace L2
open PySem PySem.Spec PyProof.Rows
section
variable {prog:Program} {w:World} {A:Around} {E:Value→Shared→Prop} {s:Shared}
theorem Bf {α β:Type} {f:α→Option β} {g:α→β}:∀l:List α,(∀k∈l,f k=some (g k))→l.filterMap f=l.map g
 | [],_=>rfl
 | k :: l,h=>by rw [List.filterMap_cons,h k K9,Ll,Bf l fun j hj=>h j (K4 _ hj)]
theorem zt (xs:Array Value):((List.range xs.size).filterMap fun (m:Nat)=>xs[(((xs.size:Int) - 1) + (m:Int) * (-1)).toNat]?)=xs.toList.reverse:=by
 rw [Bf (g:=fun m=>xs.toList.reverse.getD m .none)]
 ·apply List.ext_getElem?
  intro i
  rw [KU]
  by_cases hi:i < xs.size
  ·rw [Lw hi,KP (by simpa using hi)]
   show some (xs.toList.reverse.getD i .none)=some _
   rw [Lv,KP (by simpa using hi)];rfl
  ·rw [K7 (by simpa using hi),K7 (by simpa using hi)];rfl
 ·intro m hm
  have hm':=LD.mp hm
  rw [Lv,List.getElem?_reverse (by simpa using hm')]
  have e:(((xs.size:Int) - 1) + (m:Int) * (-1)).toNat=xs.toList.length - 1 - m:=by simp;omega
  rw [e,← Array.getElem?_toList,KP (by simp;omega)];rfl
end
end L2
namespace L2.L3
open PySem PySem.Spec PyProof.Rows
section
variable {X:Cx} {a b e:Expr} {ta te:TD} {pos p2:Pos}
theorem aq.reverse {K:PySem.W.Frag} {F:Hp}:∀{ds:List D} {vs:List V},aq K F ds vs→aq K F ds.reverse vs.reverse
 | [],vs,h=>by simp only [aq] at h;subst h;exact aW
 | d :: ds,vs,h=>by
  simp only [aq] at h
  obtain⟨v,r,rfl,x,y⟩:=h
  rw [List.reverse_cons,List.reverse_cons]
  exact (aq.reverse y).append (aX x aW)
abbrev zV:=En→(D→En→Prop)→Prop
def Kj (X:Cx) (B:Base) (σ:St) (F:Hp) (Q:D→En→Prop):VK:=fun v H'=>∃F' d env',Rep X.K B F' H' σ env'∧ar F F'∧Den X.K F' d v∧Q d env'
structure wj (X:Cx) (e:Expr) (t:zV):Prop where
 of ::
 run:∀(B:Base) (σ:St) (F H:Hp) (env:En) (Q:D→En→Prop),Rep X.K B F H σ env→t env Q→wE X e σ H (Kj X B σ F Q)
def Hf (t:TD):zV:=fun env Q=>t env fun d=>Q d env
theorem wj.up {t:TD} (h:QE X e t):wj X e (Hf t):=⟨fun B σ F H env Q rp q=>aL (h B σ F H env _ rp q) fun v H' ⟨F',d,r,s,dv,q'⟩=>⟨F',d,env,r,s,dv,q'⟩⟩
def DM (i:Nat):zV:=fun env Q=>∃xs x,env[i]?=some (some (.own (xs ++ [x])))∧Q x (env.set i (some (.own xs)))
theorem Gs {x:Str} {px apos cpos:Pos} (i:Nat) (hN:X.N[i]?=some x:=by rfl) (hv:rf X.env.scope x:=by first | exact Or.inl rfl | exact Or.inr (Or.inl rfl) | exact Or.inr (Or.inr rfl)) (hd:(x == ("__debug__" : Str))=false:=by decide)
  (hcd:(x == ("__classdict__" : Str))=false:=by decide) (hbase:attributeBase (.Name x px) "pop" X.env (eval (.Name x px) X.env)=eval (.Name x px) X.env:=by rfl) (hline:(apos.endLine == cpos.line)=true:=by rfl) :
  wj X (.Call (.Attribute (.Name x px) "pop" apos) [] [] cpos) (DM i):=by
 refine⟨fun B σ F H env Q rp h=>bY (AX PySem.F.plainAttrs_list PySem.F.slot_list_pop PySem.F.type_list_pop BY (cL hN hv hd hcd) hbase hline) ?_⟩
 obtain⟨xs,y,hx,q⟩:=h
 obtain⟨p,vs,h1,h2,h3,h4,h5⟩:=rp.ov i _ hx
 have hl:=h5.length
 have hget:(xs ++ [y])[xs.length]?=some y:=by simp
 obtain⟨v,hv',dv⟩:=h5.get hget
 have hlen:vs.length - 1=xs.length:=by rw [← hl];simp
 refine⟨.ref p,h1,.inl ⟨rfl,vs,d9.of h2⟩,p,vs,v,rfl,rfl,h2,by rw [hlen];exact hv',F,y,_,rp.change hx h1 ?_,ar.refl _,dv,q⟩
 have:=h5.take xs.length
 rw [List.dropLast_eq_take,hlen]
 simpa using this
theorem Ip {r:R2} {f:D→D→(D→Prop)→Prop} {ta tb:zV} (hf:u7 X r f) (ha:wj X a ta) (hb:wj X b tb) {B:Base} {σ:St} {F H:Hp} {env:En} {Q:D→En→Prop} (rp:Rep X.K B F H σ env) (h:ta env fun x e1=>tb e1 fun y e2=>f x y fun z=>Q z e2) :
  Gi r (wE X a) (wE X b) σ H (Kj X B σ F Q):=by
 refine aL (ha.run B σ F H env _ rp h) fun x H1 hq0=>?_
 obtain⟨F1,d,e1,r1,s1,d1,q1⟩:=hq0
 refine aL (hb.run B σ F1 H1 e1 _ r1 q1) fun y H2 hq0=>?_
 obtain⟨F2,d',e2,r2,s2,d2,q2⟩:=hq0
 exact hf B σ F2 H2 e2 (fun z=>Q z e2) d d' x y _ r2 (Den.mono s2 _ _ d1) d2 (fun v H' F' d' r' s' hd q=>⟨F',d',e2,r',(s1.trans s2).trans s',hd,q⟩) q2
def ET (f:D→D→(D→Prop)→Prop) (ta tb:zV):zV:=fun env Q=>ta env fun x e1=>tb e1 fun y e2=>f x y fun z=>Q z e2
theorem AJ {ta tb:zV} (ha:wj X a ta) (hb:wj X b tb):wj X (.BinOp a .Add b pos) (ET bO ta tb):=⟨fun B σ F H env Q rp h=>bY (vF rO bR bR) (Ip Bi ha hb rp h)⟩
def yQ (te:zV) (g:ow):bH:=fun Z env=>te env fun x e1=>g x e1 Z.nx
theorem Dl {tg:Expr} {g:ow} {te:zV} (he:wj X e te) (hg:QG X tg g) (hs:swapsWithSole [tg] e pos.line X.env=pure false:=by rfl) (hw:swappedStores [tg] e X.env=pure none:=by rfl)
  (h1:(assignEach [tg] X.env).map (·.2)=[assign tg X.env]:=by rfl):QS X (.Assign [tg] e pos) (yQ te g):=by
 refine⟨fun B σ F H env D rp h=>eB (wJ bR vC hs hw h1) ?_⟩
 refine aL (he.run B σ F H env _ rp h) fun v H1 hq0=>?_
 obtain⟨F1,d,e1,r1,s1,d1,q1⟩:=hq0
 exact gA (hg B σ F1 H1 e1 _ d v r1 d1 q1) fun σ2 H2 ⟨F2,env2,r2,s2,q2⟩=>⟨F2,env2,r2,q2⟩
end
end L2.L3
local macro_rules | `(tactic| simp_arith only [$ls,*] $[$loc]?) => `(tactic| ((try dsimp only [$(⟨ls.elemsAndSeps⟩),*, L2.L3.aG, L2.L3.hV, L2.L3.bc, L2.L3.br, L2.L3.jk, L2.L3.jx, L2.L3.a7, L2.L3.gT, L2.L3.kd, L2.L3.ib, L2.L3.bF, L2.L3.cP, L2.L3.cv, L2.L3.qy, L2.L3.ag, L2.L3.cC, L2.L3.aC, L2.L3.lq, L2.L3.aK, L2.L3.vf, L2.L3.kc, L2.L3.zw, L2.L3.ED, L2.L3.aB, L2.L3.af, L2.L3.av, L2.L3.bD, L2.L3.eY, L2.L3.d5, L2.L3.kE, L2.L3.BP, L2.L3.fv, L2.L3.c8, L2.L3.cF, L2.L3.aM, L2.L3.fQ, L2.L3.fR, L2.L3.dU, L2.L3.aE, Ll, List.map_nil, List.length_cons, List.length_nil, List.cons_append, List.nil_append, List.getElem?_cons_zero, List.getElem?_cons_succ, List.set_cons_zero, List.set_cons_succ, L2.L3.iQ, L2.L3.gY, L2.L3.rS, L2.L3.iM, L2.L3.j7, L2.L3.jS, L2.L3.jU, L2.L3.mK, L2.L3.kN, L2.L3.mE, L2.L3.nq, L2.L3.mJ, L2.L3.mQ, L2.L3.ic, L2.L3.h9, L2.L3.kP, L2.L3.kY, L2.L3.Ho, L2.L3.wR, L2.L3.lG, L2.L3.zg, L2.L3.jT, L2.L3.dE, L2.L3.zz, L2.L3.oG, L2.L3.lL, L2.L3.pB, L2.L3.sJ, L2.L3.vq, L2.L3.Hf, L2.L3.DM, L2.L3.ET, L2.L3.yQ] $[$loc]?); (try simp only [$ls,*, L2.L3.aG, L2.L3.hV, L2.L3.bc, L2.L3.br, L2.L3.jk, L2.L3.jx, L2.L3.a7, L2.L3.gT, L2.L3.um, L2.L3.su, L2.L3.kd, L2.L3.ib, L2.L3.bF, L2.L3.cP, L2.L3.cv, L2.L3.qy, L2.L3.ag, L2.L3.cC, L2.L3.aC, L2.L3.lq, L2.L3.aK, L2.L3.vf, L2.L3.kc, L2.L3.zw, L2.L3.ED, L2.L3.aB, L2.L3.af, L2.L3.av, L2.L3.bD, L2.L3.eY, L2.L3.d5, L2.L3.kE, L2.L3.BP, L2.L3.fv, L2.L3.c8, L2.L3.cF, L2.L3.aM, L2.L3.fQ, L2.L3.qf, L2.L3.pv, L2.L3.fR, L2.L3.dU, L2.L3.aE, Ll, List.map_nil, List.length_cons, List.length_nil, List.cons_append, List.nil_append, Lu, List.getElem?_cons_zero, List.getElem?_cons_succ, List.getElem?_nil, List.set_cons_zero, List.set_cons_succ, Option.some.injEq, L2.L3.Lo.d.injEq, L2.L3.Lo.own.injEq, L2.L3.D.bl.injEq, L2.L3.D.int.injEq, exists_eq_left', exists_eq_left, Nat.reduceAdd, Nat.reduceSub, Nat.sub_self, Nat.add_one_sub_one, List.replicate_succ, List.replicate_zero, L2.L3.D.tup.injEq, List.cons.injEq, and_assoc, L2.L3.iQ, L2.L3.gY, L2.L3.rS, L2.L3.iM, L2.L3.j7, L2.L3.jS, L2.L3.jU, L2.L3.mK, L2.L3.xq, L2.L3.xA, L2.L3.xJ, L2.L3.xh, L2.L3.xp, L2.L3.kN, L2.L3.mE, L2.L3.nq, L2.L3.mJ, L2.L3.mQ, L2.L3.ic, L2.L3.h9, L2.L3.p8, L2.L3.p7, L2.L3.Ai, L2.L3.xy, L2.L3.wX, decide_eq_true_eq, true_and, and_true, if_true, if_false, KR, Bool.not_eq_true', decide_eq_false_iff_not, PySem.sizeLine_eq, Int.reduceToNat, Int.reducePow, Int.reduceMul, Int.reduceAdd, Int.reduceNeg, Int.reduceSub, Int.reduceLT, Int.reduceLE, Int.reduceEq, Nat.reduceEqDiff, decide_true, decide_false, Nat.reduceLeDiff, Nat.reduceLT, Bool.true_eq_false, Bool.not_true, Bool.not_false, Bool.not_not, L2.L3.kP, L2.L3.kY, L2.L3.Ho, L2.L3.wR, L2.L3.lG, L2.L3.zg, L2.L3.ir, L2.L3.jT, L2.L3.rX, L2.L3.rF, L2.L3.D.lst.injEq, L2.L3.dE, L2.L3.zz, L2.L3.oG, L2.L3.lL, L2.L3.pB, L2.L3.sJ, L2.L3.vq, L2.L3.Cw, L2.L3.Hf, L2.L3.DM, L2.L3.ET, L2.L3.yQ] $[$loc]?)))
namespace L2.L3
open PySem PySem.Spec PyProof.Rows
def XY (X:Cx) (B:Base) (xc:Str→Prop):Value→Shared→Prop:=fun e s'=>wpAny (model X.prog X.w) X.A (noteFrame e X.env) (fun _ s2=>wpAny (model X.prog X.w) X.A (setFlight e none) (fun _ s3=>XZ X B xc e s3) (fun _ _=>False) s2) (fun _ _=>False) s'
theorem XZ.KH {X:Cx} {B:Base} {xc:Str→Prop} {e:Value} {s':Shared} (hst:X.stack=X.env :: X.outer) (hf:X.env.frame=some X.env.locals) (h:XZ X B xc e s'):XY X B xc e s':=by
 obtain⟨pins,a,c,C,σ',H',F',env',rfl,th,r,hm,hx⟩:=h
 exact th.note hst hf fun s'' t''=>⟨pins,a,c,C,σ',H',F',env',rfl,t'',r,hm,hx⟩
structure QY (X:Cx) (st:Stmt) (t:wc):Prop where
 of ::
 run:∀(B:Base) (σ:St) (F H:Hp) (env:En) (D:vc),Rep X.K B F H σ env→t D env→wS (X.cu (XY X B D.xc)) st (RS X B D.toEnds3) σ H
structure Hl (X:Cx) (st:List Stmt) (t:wc):Prop where
 of ::
 run:∀(B:Base) (σ:St) (F H:Hp) (env:En) (D:vc),Rep X.K B F H σ env→t D env→wSs (X.cu (XY X B D.xc)) st (RS X B D.toEnds3) σ H
section
variable {X:Cx} {c e:Expr} {es:List Expr} {st:Stmt} {sts xs ys body:List Stmt} {p q:wc} {tc:TB} {pos:Pos}
theorem rE (h:QZ X st p) (hst:X.stack=X.env :: X.outer:=by rfl) (hf:X.env.frame=some X.env.locals:=by rfl):QY X st p:=⟨fun B σ F H env D rp hq pins s I =>
 Li (h.run B σ F H env D rp hq pins s (I.bo.cu _)) (fun _ _ q=>SP.xv q) fun _ _ z=>XZ.KH hst hf z⟩
theorem yf (h:QY X st p):Hl X [st] p:=⟨fun B σ F H env D rp hq=>kZ (ua zQ) (h.run B σ F H env D rp hq)⟩
theorem jD (h1:QY X st p) (h2:Hl X sts q):Hl X (st :: sts) (lG p q):=by
 refine⟨fun B σ F H env D rp h=>kZ (pT zQ eI) ?_⟩
 exact sP (h1.run B σ F H env { D with nx:=q D } rp h) (fun σ' H' ⟨F',env',rp',q⟩=>h2.run B σ' F' H' env' D rp' q) (fun _ _ q=>q) (fun _ _ q=>q) (fun _ _ q=>q)
def xB (c:TB) (tb:wc):wc:=fun D env=>∃(I:En→Prop) (μ:En→Nat),I env∧∀env,I env→c env fun k=>if k=true then tb { D with nx:=fun e'=>I e'∧μ e' < μ env,ct:=fun e'=>I e'∧μ e' < μ env,bk:=D.nx } env else D.nx env
theorem A7 (hc:QT X.oO c tc) (hb:Hl X body p):QY X (.While c body [] pos) (xB tc p):=by
 refine⟨fun B σ F H env D rp h=>?_⟩
 obtain⟨I,μ,i0,turn⟩:=h
 refine eB (vH (X:=X.cu (XY X B D.xc)) PassesOwn.looking qq eI) ?_
 refine⟨fun m σ H=>∃F env,Rep X.K B F H σ env∧I env∧μ env=m,⟨_,F,env,rp,i0,rfl⟩,?_⟩
 rintro m σ1 H1 ⟨F1,env1,r1,i1,rfl⟩
 refine gJ (Ce (hc B σ1 F1 H1 env1 _ r1 (turn env1 i1))) fun k H2 ⟨F2,r2,s2,q2⟩=>?_
 cases k with
 | false=>exact⟨F2,env1,r2,q2⟩
 | true =>
  refine⟨fun σ' H'=>∃F' env',Rep X.K B F' H' σ' env'∧I env'∧μ env' < μ env1,fun σ' H' ⟨F',env',r',i',l⟩=>⟨_,l,F',env',r',i',rfl⟩,?_⟩
  exact hb.run B σ1 F2 H2 env1 _ r2 q2
end
section
variable {P:Program} {w:World} {K:PySem.W.Frag} {mg:Str→Option Value} {base:Heap}
theorem XY.leave {N:List Str} {qual:Str} {scope:Scope} {f:Addr} {cd:Value} {A:Around} {outer:List Env} {s0:Shared} {H0:Hp} {E:XK} {B:Base} {xc:Str→Prop} {e:Value} {s':Shared}
  (t:XY (gw (Dt P w) P w K mg base N qual scope f cd A outer s0 H0 E) B xc e s') (q:∀(c:Str) (C:Value) (σ':St) (H' F':Hp) (env':En),Rep K B F' H' σ' env'→mg c=some C→xc c→E C none H') :
  (gw (Dt P w) P w K mg base N qual scope f cd A outer s0 H0 E).xe e s':=by
 show wpAny (model P w) _ (leaving _ e) _ _ s'
 unfold leaving
 refine KJ (Li t (fun _ s2 z=>Li z (fun _ s3 y=>?_) fun _ _ y=>y.elim) fun _ _ y=>y.elim)
 obtain⟨pins,a,c,C,σ',H',F',env',rfl,t'',r,hm,hx⟩:=y
 have I:=t''.inv
 obtain⟨Hc,sc,Ic,os,bare,un,hok,fl⟩:=t''
 refine⟨a,C,none,H',rfl,I.os,I.bare,I.base,I.hok,fl.Ey fun b o e=>?_,q c C σ' H' F' env' r hm hx⟩
 exact Ic.base.there b o e (by show b∉([]:List Addr);simp)
theorem og.xa {x qual:Str} {st:Stmt} {fa:Addr} {fd:FuncData} {N ps:List Str} {k:Nat} {f:BS} (F:og K x qual st fa fd) (S:aD N ps (ak st)) (hmg:mg x=some (.ref fa)) (hb:Binds K fd ps [])
  (hl:∀ds Q R,f ds Q R→ds.length=ps.length)
  (hbody:∀(cdv:Value) (A:Around) (outer:List Env) (s:Shared) (H:Hp) (E:XK),dg k (A.deeper (envOfC qual (ak st) s.heap.objs.size fa cdv)) →
   ∃t,Hl (gw (Dt P w) P w K mg base N qual (ak st) fa cdv A outer s H E) (a9 st) t∧∀ds (Q:D→Prop) (R:Str→Prop),f ds Q R→t { nx:=fun _=>Q .non,rt:=Q,xc:=R } (aE N ds)) :
  iC P w K mg base (k + 1) x f:=by
 refine⟨fa,fd,ps,?_,hmg,F.kp,hb⟩
 obtain⟨oc,od,kV,doc,pm,an,cdv,ct,osl,rfl,lk,hcd⟩:=F.ex
 refine yg lk hcd S (fun vs H Q E h=>?_) fun A outer s H vs Q E hr h=>?_
 ·obtain⟨F0,ds,P,R,_,hd,hf,_⟩:=h
  rw [← hd.length];exact hl ds _ _ hf
 ·obtain⟨F0,ds,P',R,fh,hd,hf,kk,kx⟩:=h
  obtain⟨t,ht,hq⟩:=hbody cdv A outer s H E hr
  refine⟨_,eI,?_⟩
  have core:=ht.run _ (start N vs) F0 H (aE N ds) _ (gf fh hd) (hq ds P' R hf)
  intro pins s1 I
  refine Li (core pins s1 (I.cu _)) (fun fl s2 z=>?_) fun ex s2 z=>?_
  ·refine oH (SP.bo z) (fun σ' H' ⟨F',env',r,q⟩=>?_) (fun v H' ⟨F',d',r,dd,q⟩=>?_) (fun _ _ ⟨_,_,_,q⟩=>q) (fun _ _ ⟨_,_,_,q⟩=>q)
   ·exact kk .non .non F' H' r.f0 r.h0 r.fh (fun p h1 h2=>r.nf p ⟨h1,h2⟩) jR q
   ·exact kk d' v F' H' r.f0 r.h0 r.fh (fun p h1 h2=>r.nf p ⟨h1,h2⟩) dd q
  ·exact XY.leave z fun c C σ' H' F' env' r hm hx=>kx c C F' H' r.f0 r.h0 r.fh (fun p h1 h2=>r.nf p ⟨h1,h2⟩) hm hx
end
end L2.L3
namespace L2.L3
open PySem PySem.Spec PyProof.Rows
end L2.L3
namespace L2.L3
open PySem PySem.Spec PyProof.Rows
end L2.L3
namespace L2.L3
open PySem PySem.Spec PyProof.Rows
section
variable {P:Program} {w:World} {K:PySem.W.Frag} {mg:Str→Option Value} {base:Heap}
end
end L2.L3
namespace L2.L3
open PySem PySem.Spec PyProof.Rows
section
variable {X:Cx} {a b c e:Expr} {ta tb te:TD} {pos:Pos} {st:Stmt} {t:bH}
def vV (i:Nat) (te:TD):bH:=fun Z env=>∃xs,env[i]?=some (some (.own xs))∧te env fun y=>∃(k:Nat),y=.int k∧k < xs.length∧k < 2 ^ 62∧Z.nx (env.set i (some (.own (xs.eraseIdx k))))
theorem CY {x:Str} {px apos cpos:Pos} (i:Nat) (he:QE X e te) (hN:X.N[i]?=some x:=by rfl) (hv:rf X.env.scope x:=by first | exact Or.inl rfl | exact Or.inr (Or.inl rfl) | exact Or.inr (Or.inr rfl)) (hd:(x == ("__debug__" : Str))=false:=by decide) (hcd:(x == ("__classdict__" : Str))=false:=by decide)
  (hbase:attributeBase (.Name x px) "pop" X.env (eval (.Name x px) X.env)=eval (.Name x px) X.env:=by rfl)
  (hfew:((backTo cpos (starEach [e] X.env)).all (fun x=>!x.1) && (backToKw cpos (keywordEach [] X.env)).all (fun x=>x.1.isSome)
   && decide (([e]:List Expr).length + ([]:List Keyword).length + (if ([]:List Keyword).isEmpty then 0 else 1) < 30))=true:=by rfl)
  (hline:(apos.endLine == cpos.line)=true:=by rfl) (hst:starEach [e] X.env=(false,eval e X.env) :: starEach [] X.env:=by exact a6 rfl) (hplain:(backTo cpos (starEach ([]:List Expr) X.env)).any (·.1)=false:=by rfl)
  (hs:swapsWith (.Call (.Attribute (.Name x px) "pop" apos) [e] [] cpos) none pos.line X.env=pure false:=by rfl) :
  QS X (.Expr (.Call (.Attribute (.Name x px) "pop" apos) [e] [] cpos) pos) (vV i te):=by
 refine⟨fun B σ F H env D rp h=>eB (oo (rg PySem.F.plainAttrs_list PySem.F.slot_list_pop PySem.F.type_list_pop vg (cL hN hv hd hcd) (fT bR gU hst) hbase hfew hline hst hplain) hs) ?_⟩
 obtain⟨xs,hx,h⟩:=h
 obtain⟨p,vs,h1,h2,h3,h4,h5⟩:=rp.ov i xs hx
 refine⟨.ref p,h1,.inl ⟨rfl,vs,d9.of h2⟩,?_⟩
 refine aL (he B σ F H env _ rp h) fun w H1 hq0=>?_
 obtain⟨F1,d,r1,s1,d1,k,e1,hk,hk2,q1⟩:=hq0
 subst e1
 simp only [Den] at d1
 subst d1
 obtain⟨p',vs',g1,g2,g3,g4,g5⟩:=r1.ov i xs hx
 rw [h1] at g1;cases g1
 have hl:=g5.length
 obtain⟨u,hu,du⟩:=g5.get (KP hk)
 have hix:seqIndex? (k:Int) vs'.length=some k:=(ou (n:=vs'.length) (i:=(k:Int)) (j:=k) (by unfold ux;rw [KS (by omega),KS (by omega)];simp)).1
 exact⟨p,vs',k,k,u,rfl,rfl,g2,by omega,by omega,hix,hu,F1,_,r1.change hx h1 (g5.eraseIdx k),q1⟩
end
end L2.L3
namespace L2.L3
open PySem PySem.Spec PyProof.Rows
section
variable {prog:Program} {w:World} {A:Around} {E:Value→Shared→Prop} {s:Shared}
def j6 (prog:Program) (w:World) (A:Around) (s:Shared) (v:Value):Prop:=∀(E:Value→Shared→Prop) (Q:Bool→Shared→Prop),Q true s→wpAny (model prog w) A (eqIsQuiet 8 v) Q E s
def hU (prog:Program) (w:World) (A:Around) (s:Shared) (v:Value) (h:Int) (n:Nat):Prop:=∀(E:Value→Shared→Prop) (Q:Int→Shared→Prop),Q h { s with toks:=s.toks + n }→wpAny (model prog w) A (PySem.pyHash v) Q E s
theorem v7 {key:Value} {stored:List Value} {Q:Bool→Shared→Prop} (hkey:j6 prog w A s key)
  (hst:∀v∈stored,j6 prog w A s v) (h:Q false s):wpAny (model prog w) A (tableMayTell key stored) Q E s:=by
 unfold tableMayTell
 split
 ·exact KO h
 ·refine KJ (hkey _ _ ?_)
  simp only [Bool.not_true,KR,if_false]
  refine KJ ?_
  refine wpAny_forIn_list _ (fun rest r s'=>s'=s∧r=(none,())∧∀v∈rest,j6 prog w A s v) _ ?_ ?_ _ _ ⟨rfl,rfl,hst⟩
  ·rintro x rest r s' ⟨rfl,rfl,hr⟩
   refine KJ (hr x K9 _ _ ?_)
   simp only [Bool.not_true,KR,if_false]
   exact KO ⟨rfl,rfl,fun v hv=>hr v (K4 _ hv)⟩
  ·rintro r s' ⟨rfl,rfl,_⟩
   exact KO h
structure kG (prog:Program) (w:World) (A:Around) (s:Shared) (es:Array DictEntry) (key:Value) (h:Int) (m:Nat→Bool):Prop where
 eq:∀(j:Nat) (hj:j < es.size),SeqAt.EqAt A s es[j].key key (m j)
 mh:∀(j:Nat) (hj:j < es.size),m j=true→es[j].hash=h
 mu:∀(i j:Nat),i < es.size→j < es.size→m i=true→m j=true→i=j
 same:∀(j:Nat) (hj:j < es.size),es[j].key=key→es[j].hash=h
 qk:j6 prog w A s key
 qs:∀(j:Nat) (hj:j < es.size),j6 prog w A s es[j].key
 ns:(∃i t,key=.int i t)∨(∃a,key=.ref a)∨key=.none
theorem zi {M:Model} {A:Around} {E:Value→Shared→Prop} {s:Shared} {α β:Type} {c:Prop} [Decidable c] {t1 t2:Sem β} {k:β→Sem α} {v:β} {Q:α→Shared→Prop} (h1:∀{R:β→Shared→Prop},R v s→wpAny M A t1 R E s) (h2:∀{R:β→Shared→Prop},R v s→wpAny M A t2 R E s)
  (h:wpAny M A (k v) Q E s):wpAny M A (if c then t1 >>= k else t2 >>= k) Q E s:=by
 split
 ·exact KJ (h1 h)
 ·exact KJ (h2 h)
theorem rD {d:Addr} {o:Obj} {es:Array DictEntry} {ep} {key:Value} {h:Int} {m:Nat→Bool} {Q:Option Nat→Shared→Prop} (f:kG prog w A s es key h m)
  (ho:s.heap.get? d=some o) (hd:o.data=.dict es ep)
  (hnone:(∀j,j < es.size→m j=false)→Q none s) (hsome:∀j,j < es.size→m j=true→Q (some j) s) :
  wpAny (model prog w) A (dictFind d key h) Q E s:=by
 have hask:∀(j:Nat),j < es.size→m j=true→((es[j]?.map (·.hash)) == some h)=true:=by
  intro j hj hm
  rw [Array.getElem?_eq_getElem hj,Option.map_some,f.mh j hj hm]
  simp
 have hst:∀v∈(placesWithHash es.size (fun i=>es[i]?.map (·.hash)) h).filterMap (fun i=>es[i]?.map (·.key)),j6 prog w A s v:=by
  intro v hv
  obtain⟨i,_,hi⟩:=List.mem_filterMap.mp hv
  cases hei:es[i]? with
  | none=>rw [hei] at hi;cases hi
  | some e =>
   rw [hei] at hi
   obtain rfl:e.key=v:=by simpa using hi
   obtain⟨hl,rfl⟩:=Lx.mp hei
   exact f.qs i hl
 have hany:¬ (es.any fun e=>e.key == key && e.hash != h)=true:=by
  rw [← Array.any_toList,List.any_eq_true]
  rintro⟨e,hin,hc⟩
  obtain⟨i,hi,rfl⟩:=Array.mem_iff_getElem.mp (Array.mem_toList_iff.mp hin)
  simp only [Bool.and_eq_true,beq_iff_eq,bne_iff_ne,ne_eq] at hc
  exact hc.2 (f.same i hi hc.1)
 have plain:wpAny (model prog w) A (dictWalkPlain d key h es (placesWithHash es.size (fun i=>es[i]?.map (·.hash)) h)) Q E s:=by
  refine KJ ?_
  refine wpAny_forIn_list _
   (fun rest b s'=>s'=s∧b=(none,())∧∃i,rest=(List.range' i (es.size - i)).filter (fun i=>(es[i]?.map (·.hash)) == some h)∧i≤es.size ∧
    ∀j,j < i→m j=false) _ ?_ ?_ _ _
   ⟨rfl,rfl,0,by rw [placesWithHash,List.range_eq_range',Nat.sub_zero],Lp _,fun _ h=>absurd h (LF _)⟩
  ·rintro x rest b s' ⟨rfl,rfl,i,hr,hi,hno⟩
   obtain⟨hix,hxn,hpx,hskip,hrest⟩:=filter_range'_cons _ _ _ _ _ hr.symm
   have hlt:x < es.size:=by omega
   have before:∀j,j < x→m j=false:=fun j hjx=>by
    rcases LG j i with c | c
    ·exact hno j c
    ·cases hmj:m j with
     | false=>rfl
     | true=>have q:=hskip j c hjx;rw [hask j (by omega) hmj] at q;cases q
   have hnext:m x=false→∃i,rest=(List.range' i (es.size - i)).filter (fun i=>(es[i]?.map (·.hash)) == some h)∧i≤es.size∧∀j,j < i→m j=false:=fun hne =>
    ⟨x + 1,by rw [hrest];congr 2;omega,hlt,fun j hji=>by
     rcases LG j x with c | c
     ·exact before j c
     ·have:j=x:=by omega
      subst this;exact hne⟩
   simp only [Array.getElem?_eq_getElem hlt]
   by_cases hh:(es[x].hash == h)=true
   ·rw [KS hh]
    refine KJ (wpAny_dictEpoch ho hd (KJ (f.eq x hlt prog w _ _ (KJ (wpAny_dictEpoch ho hd ?_)))))
    show wpAny _ _ (if (ep != ep)=true then _ else _) _ E _
    rw [KQ (by simp)]
    cases hm:m x with
    | true=>exact KJ (wpAny_rule (KO (KO (hsome x hlt hm))))
    | false=>exact KJ (wpAny_rule (KO ⟨rfl,rfl,hnext hm⟩))
   ·rw [KQ hh]
    refine KO ⟨rfl,rfl,hnext ?_⟩
    cases hm:m x with
    | false=>rfl
    | true=>exact absurd (beq_iff_eq.mpr (f.mh x hlt hm)) hh
  ·rintro b s' ⟨rfl,rfl,i,hr,hi,hno⟩
   refine KO (hnone fun j hj=>?_)
   rcases LG j i with c | c
   ·exact hno j c
   ·have:=List.filter_eq_nil_iff.mp hr.symm j (List.mem_range'_1.mpr ⟨c,by omega⟩)
    cases hmj:m j with
    | false=>rfl
    | true=>rw [hask j hj hmj] at this;exact absurd rfl this
 have ns:=f.ns
 unfold dictFind
 try with_reducible refine wpAny_holding ?_
 refine KJ (wpAny_dictEntries ho hd ?_)
 extract_lets places stored hit jp2 jp1 jp0
 have h1:wpAny (model prog w) A (jp1 ()) Q E s:=by
  refine zi (v:=false) (fun q=>KO q) (fun q=>v7 f.qk hst q) ?_
  dsimp only [jp2,stored,places,hit]
  (
   rw [KQ (by simp)]
   refine KJ ?_
   refine wpAny_forIn_list _
    (fun rest b s'=>s'=s∧∃i hit,b=(none,hit)∧rest=(List.range' i (es.size - i)).filter (fun i=>(es[i]?.map (·.hash)) == some h)∧i≤es.size ∧
     ((hit=none∧∀j,j < i→m j=false)∨∃j,hit=some j∧j < i∧m j=true)) _ ?_ ?_ _ _
    ⟨rfl,0,none,rfl,by rw [placesWithHash,List.range_eq_range',Nat.sub_zero],Lp _,.inl ⟨rfl,fun _ h=>absurd h (LF _)⟩⟩
   ·rintro x rest b s' ⟨rfl,i,hit,rfl,hr,hi,hH⟩
    obtain⟨hix,hxn,hpx,hskip,hrest⟩:=filter_range'_cons _ _ _ _ _ hr.symm
    have hlt:x < es.size:=by omega
    have hrest':rest=(List.range' (x + 1) (es.size - (x + 1))).filter (fun i=>(es[i]?.map (·.hash)) == some h):=by rw [hrest];congr 2;omega
    have hHx:(hit=none∧∀j,j < x→m j=false)∨∃j,hit=some j∧j < x∧m j=true:=by
     rcases hH with ⟨h0,hno⟩ | ⟨j,h1,hji,hj⟩
     ·refine .inl ⟨h0,fun j hjx=>?_⟩
      rcases LG j i with c | c
      ·exact hno j c
      ·cases hmj:m j with
       | false=>rfl
       | true=>have q:=hskip j c hjx;rw [hask j (by omega) hmj] at q;cases q
     ·exact .inr ⟨j,h1,by omega,hj⟩
    have hstay:m x=false→((hit=none∧∀j,j < x + 1→m j=false)∨∃j,hit=some j∧j < x + 1∧m j=true):=by
     intro hne
     rcases hHx with ⟨h0,hno⟩ | ⟨j,h1,hjx,hj⟩
     ·refine .inl ⟨h0,fun j hjx=>?_⟩
      rcases LG j x with c | c
      ·exact hno j c
      ·have:j=x:=by omega
       subst this;exact hne
     ·exact .inr ⟨j,h1,by omega,hj⟩
    rw [Array.getElem?_eq_getElem hlt]
    dsimp only
    by_cases hh:(es[x].hash == h)=true
    ·rw [KS hh]
     refine KJ (wpAny_dictEpoch ho hd (KJ (f.eq x hlt prog w _ _ (KJ (wpAny_dictEpoch ho hd ?_)))))
     show wpAny _ _ (if (ep != ep)=true then _ else _) _ E _
     rw [KQ (by simp)]
     cases hm:m x with
     | true =>
      rcases hHx with ⟨rfl,_⟩ | ⟨j,_,hjx,hj⟩
      ·first | rw [KS rfl] | skip
       simp only [Option.isSome_none,KR,if_false]
       first | refine KJ (KO ?_) | skip
       refine KJ (wpAny_rule ?_)
       split
       ·exact KO (KO (hsome x hlt hm))
       ·exact KO ⟨rfl,x + 1,some x,rfl,hrest',hlt,.inr ⟨x,rfl,Nat.lt_succ_self x,hm⟩⟩
      ·exact absurd (f.mu j x (by omega) hlt hj hm) (by omega)
     | false =>
      simp only [KR,if_false]
      refine KJ (wpAny_rule ?_)
      first | rw [KQ (by simp)] | skip
      first
       | exact KO ⟨rfl,x + 1,hit,rfl,hrest',hlt,hstay hm⟩
       | exact KJ (KO (KO ⟨rfl,x + 1,hit,rfl,hrest',hlt,hstay hm⟩))
    ·rw [KQ hh]
     refine KO ⟨rfl,x + 1,hit,rfl,hrest',hlt,hstay ?_⟩
     cases hm:m x with
     | false=>rfl
     | true=>exact absurd (beq_iff_eq.mpr (f.mh x hlt hm)) hh
   ·rintro b s' ⟨rfl,i,hit,rfl,hr,hi,hH⟩
    rcases hH with ⟨rfl,hno⟩ | ⟨j,rfl,hji,hj⟩
    ·refine KO (hnone fun j hj=>?_)
     rcases LG j i with c | c
     ·exact hno j c
     ·have:=List.filter_eq_nil_iff.mp hr.symm j (List.mem_range'_1.mpr ⟨c,by omega⟩)
      cases hmj:m j with
      | false=>rfl
      | true=>rw [hask j hj hmj] at this;exact absurd rfl this
    ·exact KO (hsome j (by omega) hj))
 rcases ns with ⟨ki,kt,rfl⟩ | ⟨ka,rfl⟩ | rfl
 ·exact wpAny_ite_split (fun _=>plain) fun _=>h1
 ·exact wpAny_ite_split (fun _=>plain) fun _=>wpAny_ite_split (fun z=>absurd z hany) fun _=>h1
 ·exact wpAny_ite_split (fun _=>plain) fun _=>h1
theorem bI.typeIs {d:Addr} {es:Array DictEntry} {ep:Nat} (x:bI s.heap d es ep):s.TypeIs (.ref d) "dict":=let ⟨o,ho,hc,_⟩:=x;⟨o,ho,hc.1⟩
theorem bI.new (h:Heap):bI (h.push { cls:=.type "dict",data:=.dict #[] }) h.objs.size #[] 0:=⟨_,La _ rfl,⟨rfl,rfl,rfl⟩,rfl⟩
theorem vp {d:Addr} {es:Array DictEntry} {ep:Nat} {key:Value} {h:Int} {n:Nat} {m:Nat→Bool} {Q:Option Value→Shared→Prop} (hh:hU prog w A s key h n) (f:kG prog w A { s with toks:=s.toks + n } es key h m) (x:bI s.heap d es ep)
  (hnone:(∀j,j < es.size→m j=false)→Q none { s with toks:=s.toks + n }) (hsome:∀j (hj:j < es.size),m j=true→Q (some es[j].val) { s with toks:=s.toks + n }) :
  wpAny (model prog w) A (dictGet d key) Q E s:=by
 obtain⟨o,ho,_,hd⟩:=x
 unfold dictGet
 try with_reducible refine wpAny_holding ?_
 refine KJ (hh _ _ (KJ (rD (s:={ s with toks:=s.toks + n }) f ho hd ?_ ?_)))
 ·intro hno
  exact KO (hnone hno)
 ·intro j hj hm
  refine KJ (wpAny_dictEntries (s:={ s with toks:=s.toks + n }) ho hd ?_)
  rw [Array.getElem?_eq_getElem hj]
  exact KO (hsome j hj hm)
theorem Bh {d:Addr} {es:Array DictEntry} {ep:Nat} {key v:Value} {h:Int} {n:Nat} {m:Nat→Bool} {Q:Unit→Shared→Prop} (hh:hU prog w A s key h n) (f:kG prog w A { s with toks:=s.toks + n } es key h m) (x:bI s.heap d es ep) (hz:es.size≤sizeLine)
  (hnone:(∀j,j < es.size→m j=false)→∀h',bI h' d (es.push ⟨h,key,v⟩) (ep + 1)→Heap.SameBut d s.heap h'→Q () { s with heap:=h',toks:=s.toks + n })
  (hsome:∀j (hj:j < es.size),m j=true→∀h',bI h' d (es.modify j fun e=>{ e with val:=v }) ep→Heap.SameBut d s.heap h'→Q () { s with heap:=h',toks:=s.toks + n }) :
  wpAny (model prog w) A (dictSet d key v) Q E s:=by
 obtain⟨o,ho,hc,hd⟩:=x
 unfold dictSet
 try with_reducible refine wpAny_holding ?_
 refine KJ (hh _ _ ?_)
 unfold dictSetHashed
 try with_reducible refine wpAny_holding ?_
 refine KJ (rD (s:={ s with toks:=s.toks + n }) f ho hd ?_ ?_)
 ·intro hno
  exact KJ (wpAny_rule (wpAny_updateDictKeys (hz:=hz) (s:={ s with toks:=s.toks + n }) ho hd (hnone hno _ ⟨_,Heap.get?_update_self _ ho (Obj.isFreed_of_dict (Obj.data_mapDictKeys hd _)),hc.mapDictKeys _,Obj.data_mapDictKeys hd _⟩ (Heap.SameBut.update ..))))
 ·intro j hj hm
  exact KJ (wpAny_rule (KJ (wpAny_updateDict (s:={ s with toks:=s.toks + n }) ho hd (wpAny_point (hsome j hj hm _ ⟨_,Heap.get?_update_self _ ho (Obj.isFreed_of_dict (Obj.data_mapDict hd _)),hc.mapDict _,Obj.data_mapDict hd _⟩ (Heap.SameBut.update ..))))))
theorem vx {d:Addr} {es:Array DictEntry} {ep:Nat} {key:Value} {h:Int} {n j:Nat} {m:Nat→Bool} {Q:Value→Shared→Prop} (hh:hU prog w A.in1 s key h n) (f:kG prog w A.in1 { s with toks:=s.toks + n } es key h m) (x:bI s.heap d es ep)
  (hj:j < es.size) (hm:m j=true) (hq:Q es[j].val { s with toks:=s.toks + n }):wpAny (model prog w) A (getItem (.ref d) key) Q E s:=by
 unfold getItem
 try with_reducible refine wpAny_holding ?_
 refine KJ (wpAny_sequenceKey x.typeIs (by decide) ?_)
 refine KJ (wpAny_callSpecial?_slot (name:=Str.ofString "__getitem__") x.typeIs slot_dict_getitem
  (wpAny_call_entry slot_dict_getitem x.typeIs entry_dict_getitem ?_ (args_dict_getitem _ _)))
 show wpAny _ _ (dictGet d key >>= _) _ _ s
 refine KJ (vp hh f x (fun hno=>by rw [hno j hj] at hm;cases hm) fun i hi hmi=>?_)
 have:=f.mu i j hi hj hmi hm
 subst this
 exact KO ⟨_,rfl,KO hq⟩
theorem vy {d:Addr} {es:Array DictEntry} {ep:Nat} {key v:Value} {h:Int} {n:Nat} {m:Nat→Bool} {Q:Unit→Shared→Prop} (hh:hU prog w A.in1 s key h n) (f:kG prog w A.in1 { s with toks:=s.toks + n } es key h m) (x:bI s.heap d es ep) (hz:es.size≤sizeLine)
  (hnone:(∀j,j < es.size→m j=false)→∀h',bI h' d (es.push ⟨h,key,v⟩) (ep + 1)→Heap.SameBut d s.heap h'→Q () { s with heap:=h',toks:=s.toks + n })
  (hsome:∀j (hj:j < es.size),m j=true→∀h',bI h' d (es.modify j fun e=>{ e with val:=v }) ep→Heap.SameBut d s.heap h'→Q () { s with heap:=h',toks:=s.toks + n }) :
  wpAny (model prog w) A (setItem (.ref d) key v) Q E s:=by
 unfold setItem
 try with_reducible refine wpAny_holding ?_
 refine KJ (wpAny_sequenceKey x.typeIs (by decide) ?_)
 refine KJ (wpAny_callSpecial?_slot (name:=Str.ofString "__setitem__") x.typeIs slot_dict_setitem
  (wpAny_call_entry slot_dict_setitem x.typeIs entry_dict_setitem ?_ (args_dict_setitem _ _ _)))
 show wpAny _ _ (Builtin.Dict.notOrdered "__setitem__" ⟨[.ref d,key,v],[]⟩ >>= _) _ _ s
 refine KJ (wpAny_notOrdered_dict x.typeIs ?_)
 show wpAny _ _ (dictSet d key v >>= _) _ _ s
 exact KJ (Bh hh f x hz (fun hno h' a b=>KO ⟨.none,rfl,KO (hnone hno h' a b)⟩) (fun j hj hm h' a b=>KO ⟨.none,rfl,KO (hsome j hj hm h' a b)⟩))
theorem sX {d:Addr} {es:Array DictEntry} {ep:Nat} {key:Value} {h:Int} {n:Nat} {m:Nat→Bool} {Q:Bool→Shared→Prop} (hh:hU prog w A.in1 s key h n) (f:kG prog w A.in1 { s with toks:=s.toks + n } es key h m) (x:bI s.heap d es ep) (hs:(d == sysModules)=false)
  (hnone:(∀j,j < es.size→m j=false)→Q false { s with toks:=s.toks + n }) (hsome:∀j (hj:j < es.size),m j=true→Q true { s with toks:=s.toks + n }):wpAny (model prog w) A (contains (.ref d) key) Q E s:=by
 unfold contains
 try with_reducible refine wpAny_holding ?_
 refine KJ (wpAny_specialOf x.typeIs slot_dict_contains.lookup ?_)
 show wpAny _ _ (if (some (Value.builtin "dict.__contains__") == some Value.none)=true then _ else _) _ E s
 rw [KQ (by rw [beq_builtin_none];exact Bool.false_ne_true)]
 refine KJ (wpAny_callSpecialUnlessNone?_slot (name:=Str.ofString "__contains__") x.typeIs slot_dict_contains
  (wpAny_call_entry slot_dict_contains x.typeIs entry_dict_contains ?_ (args_dict_contains _ _)))
 show wpAny _ _ (dictGet d key >>= _) _ _ s
 refine KJ (vp hh f x (fun hno=>?_) fun i hi hmi=>?_)
 ·show wpAny _ _ (Builtin.Dict.pendingKey? d key >>= _) _ _ _
  exact KJ (wpAny_pendingKey_other hs (KO ⟨_,rfl,wpAny_truthy_bool (hnone hno)⟩))
 ·show wpAny _ _ (ret (.bool true)) _ _ _
  exact KO ⟨_,rfl,wpAny_truthy_bool (hsome i hi hmi)⟩
end
end L2.L3
namespace L2.L3
open PySem PySem.Spec PyProof.Rows
mutual
def a0:D→Bool
 | .int _=>true
 | .non=>true
 | .tup ds=>iW ds
 | _=>false
def iW:List D→Bool
 | []=>true
 | d :: ds=>a0 d && iW ds
end
mutual
def Ec:D→Nat
 | .int _=>1
 | .non=>1
 | .tup ds=>sg ds + 1
 | _=>0
def sg:List D→Nat
 | []=>0
 | d :: ds=>Ec d + sg ds
end
theorem mm (d:D):∀ds:List D,qp (ds ++ [d])=qp ds ++ [Ar d]
 | []=>rfl
 | x :: ds=>by show Ar x :: qp (ds ++ [d])=_;rw [mm d ds];rfl
theorem mU (d:D):∀ds:List D,sg (ds ++ [d])=sg ds + Ec d
 | []=>by simp [sg]
 | x :: ds=>by show Ec x + sg (ds ++ [d])=_;rw [mU d ds];simp only [sg];omega
mutual
theorem c6:∀(a b:D),a0 a=true→a5 a b=true→a0 b=true→a=b
 | .int i,b,h,e,k=>by cases b <;> simp only [a5,a0,beq_iff_eq,KR] at e k;rw [e]
 | .tup ds,b,h,e,k=>by
  cases b <;> simp only [a5,a0,KR] at e k
  rw [vv _ _ (by simpa only [a0] using h) e k]
 | .non,b,h,e,k=>by cases b <;> simp only [a5,KR] at e;rfl
 | .bl _,b,h,e,k=>by simp only [a0,KR] at h
 | .str _,b,h,e,k=>by simp only [a0,KR] at h
 | .lst _,b,h,e,k=>by simp only [a0,KR] at h
 | .dct _ _,b,h,e,k=>by simp only [a0,KR] at h
 | .ty _,b,h,e,k=>by simp only [a0,KR] at h
 | .exc _,b,h,e,k=>by simp only [a0,KR] at h
 | .cls _,b,h,e,k=>by simp only [a0,KR] at h
 | .obj _,b,h,e,k=>by simp only [a0,KR] at h
theorem vv:∀(a b:List D),iW a=true→eN a b=true→iW b=true→a=b
 | [],b,h,e,k=>by cases b <;> simp only [eN,KR] at e;rfl
 | x :: a,b,h,e,k=>by
  cases b with
  | nil=>simp only [eN,KR] at e
  | cons y b =>
   simp only [eN,iW,Bool.and_eq_true] at e h k
   rw [c6 x y h.1 e.1 k.1,vv a b h.2 e.2 k.2]
end
mutual
theorem fX:∀(a:D),a0 a=true→a5 a a=true
 | .int i,h=>by simp only [a5,beq_self_eq_true]
 | .tup ds,h=>by simp only [a5];exact qd ds (by simpa only [a0] using h)
 | .non,h=>by simp only [a5]
 | .bl _,h=>by simp only [a0,KR] at h
 | .str _,h=>by simp only [a0,KR] at h
 | .lst _,h=>by simp only [a0,KR] at h
 | .dct _ _,h=>by simp only [a0,KR] at h
 | .ty _,h=>by simp only [a0,KR] at h
 | .exc _,h=>by simp only [a0,KR] at h
 | .cls _,h=>by simp only [a0,KR] at h
 | .obj _,h=>by simp only [a0,KR] at h
theorem qd:∀(a:List D),iW a=true→eN a a=true
 | [],h=>rfl
 | x :: a,h=>by
  simp only [iW,Bool.and_eq_true] at h
  simp only [eN,Bool.and_eq_true]
  exact⟨fX x h.1,qd a h.2⟩
end
section
variable {X:Cx} {pins:List (Addr×Obj)} {σ:St} {H F:Hp}
theorem Bk {s:Shared} {a:Addr} {items:List Value} {A:Around} {ds:List D} {vs:List V} (hu:A.units < cLine) (hT:IsTup s.heap a items.toArray) (rv:Vals vs items) (dl:aq X.K F ds vs)
  (rec:∀(d:D) (v:V) (u:Value) (n:Nat),d∈ds→Den X.K F d v→RelV v u→hU X.prog X.w A.in1 { s with toks:=s.toks + n } u (Ar d) (Ec d)) :
  hU X.prog X.w A s (.ref a) (reduceHash (Builtin.Tuple.tupleHashOf (qp ds))) (sg ds + 1):=by
 intro E Q h
 obtain⟨o,ho,hc,n,hd⟩:=hT
 have hT:s.TypeIs (.ref a) "tuple":=⟨o,ho,hc⟩
 unfold PySem.pyHash
 first | unfold pyHashByItsType | skip
 first | refine KJ (wpAny_cRoomFor_or (.inr hu) ?_) | skip
 refine KJ (wpAny_specialOf hT PySem.F.slot_tuple_hash.lookup ?_)
 show wpAny _ _ (if (some (Value.builtin "tuple.__hash__") == some Value.none)=true then _ else _) Q E s
 rw [KQ (by rw [beq_builtin_none];exact Bool.false_ne_true)]
 refine KJ (wpAny_specialOf hT PySem.F.slot_tuple_hash.lookup ?_)
 show wpAny _ _ (callSpecialIfBoundUnlessNone? (.ref a) "__hash__" _ >>= _) Q E s
 refine KJ (wpAny_callSpecialIfBoundUnlessNone?_slot hT PySem.F.slot_tuple_hash (wpAny_call_entry PySem.F.slot_tuple_hash hT PySem.F.entry_tuple_hash ?_ (PySem.F.args_tuple_hash_1 _)))
 show wpAny _ _ (Builtin.Tuple.tupleItemsOf (.ref a) >>= _) _ _ s
 refine KJ (wpAny_tupleItemsOf ho hd ?_)
 refine KJ ?_
 rw [← Array.forIn_toList]
 refine wpAny_forIn_list _
  (fun rest (b:Array Int) s'=>∃done left vl,ds=done ++ left∧aq X.K F left vl∧Vals vl rest∧b.toList=qp done∧s'={ s with toks:=s.toks + sg done })
  _ ?_ ?_ _ _ ⟨[],ds,vs,rfl,dl,by simpa using rv,rfl,rfl⟩
 ·rintro x rest b s' ⟨done,left,vl,rfl,hl,hv,hb,rfl⟩
  cases hv with
  | @cons v _ vl' _ r1 hv' =>
   cases left with
   | nil=>simp only [aq] at hl;cases hl
   | cons d left' =>
    simp only [aq] at hl
    obtain⟨v',r',e,hd',hl'⟩:=hl
    cases e
    refine KJ (rec d v x _ (by simp) hd' r1 _ _ ?_)
    first
     | exact KO ⟨done ++ [d],left',vl',by simp,hl',hv',by simp [hb,mm],by simp [mU,Nat.add_assoc]⟩
     | exact KJ (KO (KO ⟨done ++ [d],left',vl',by simp,hl',hv',by simp [hb,mm],by simp [mU,Nat.add_assoc]⟩))
 ·rintro b s' ⟨done,left,vl,rfl,hl,hv,hb,rfl⟩
  cases hv
  cases left with
  | cons d left'=>simp only [aq] at hl;obtain⟨_,_,e,_⟩:=hl;cases e
  | nil =>
  rw [Lu] at h
  show wpAny _ _ (retInt (Builtin.Tuple.tupleHashOf b.toList)) _ _ _
  rw [hb]
  refine wpAny_ret_mkInt ?_
  show wpAny _ _ (if (decide (-(2:Int) ^ 63≤Builtin.Tuple.tupleHashOf (qp done)) && decide (Builtin.Tuple.tupleHashOf (qp done) < 2 ^ 63))=true then _ else _) Q E _
  unfold reduceHash at h
  by_cases hr:(decide (-(2:Int) ^ 63≤Builtin.Tuple.tupleHashOf (qp done)) && decide (Builtin.Tuple.tupleHashOf (qp done) < 2 ^ 63))=true
  ·rw [KS hr]
   rw [KS hr] at h
   exact KO (by simpa [Nat.add_assoc] using h)
  ·rw [KQ hr]
   rw [KQ hr] at h
   exact KJ (wpAny_rule (KO (by simpa [Nat.add_assoc] using h)))
theorem Cp {s:Shared} {A:Around} (hu:A.units < cLine):hU X.prog X.w A s .none 4238894112 1:=by
 intro E Q h
 have hT:s.TypeIs .none "NoneType":=rfl
 unfold PySem.pyHash
 first | unfold pyHashByItsType | skip
 first | refine KJ (wpAny_cRoomFor_or (.inr hu) ?_) | skip
 refine KJ (wpAny_specialOf hT PySem.F.slot_NoneType_hash.lookup ?_)
 show wpAny _ _ (if (some (Value.builtin "NoneType.__hash__") == some Value.none)=true then _ else _) Q E s
 rw [KQ (by rw [beq_builtin_none];exact Bool.false_ne_true)]
 refine KJ (wpAny_specialOf hT PySem.F.slot_NoneType_hash.lookup ?_)
 show wpAny _ _ (callSpecialIfBoundUnlessNone? .none "__hash__" _ >>= _) Q E s
 refine KJ (wpAny_callSpecialIfBoundUnlessNone?_slot hT PySem.F.slot_NoneType_hash (wpAny_call_entry PySem.F.slot_NoneType_hash hT PySem.F.entry_NoneType_hash ?_ (PySem.F.args_NoneType_hash_1 _)))
 show wpAny _ _ (retInt 4238894112) _ _ _
 refine wpAny_ret_mkInt ?_
 exact KO h
mutual
theorem lI (fh:ar F H):∀(d:D) (s:Shared) (A:Around) (v:V) (u:Value),Inv X pins σ H s→a0 d=true→A.units + dep d < cLine→Den X.K F d v→RelV v u→hU X.prog X.w A s u (Ar d) (Ec d)
 | .int i,s,A,v,u,I,hk,hu,hd,r=>by
  simp only [Den] at hd;subst hd
  obtain⟨t,rfl⟩:=r
  intro E Q h
  exact (sj X.prog X.w).pyHash (k:=.inl i) (zS i t) h
 | .tup ds,s,A,v,u,I,hk,hu,hd,r=>by
  simp only [Den] at hd
  obtain⟨a,vs,rfl,q,dl⟩:=hd
  cases r
  obtain⟨its,rv,ht,hz⟩:=I.tuple (ar.cn fh q)
  simp only [dep] at hu
  exact Bk (by omega) ht rv dl fun d v u n hm hd' r'=>rQ fh ds d { s with toks:=s.toks + n } A.in1 v u (I.tok _) (by simpa only [a0] using hk) (by rw [units_in1];omega) hm hd' r'
 | .non,s,A,v,u,I,hk,hu,hd,r=>by
  simp only [Den] at hd;subst hd
  cases r
  exact Cp (by simp only [dep] at hu;omega)
 | .bl _,_,_,_,_,_,hk,_,_,_=>by simp only [a0,KR] at hk
 | .str _,_,_,_,_,_,hk,_,_,_=>by simp only [a0,KR] at hk
 | .lst _,_,_,_,_,_,hk,_,_,_=>by simp only [a0,KR] at hk
 | .dct _ _,_,_,_,_,_,hk,_,_,_=>by simp only [a0,KR] at hk
 | .ty _,_,_,_,_,_,hk,_,_,_=>by simp only [a0,KR] at hk
 | .exc _,_,_,_,_,_,hk,_,_,_=>by simp only [a0,KR] at hk
 | .cls _,_,_,_,_,_,hk,_,_,_=>by simp only [a0,KR] at hk
 | .obj _,_,_,_,_,_,hk,_,_,_=>by simp only [a0,KR] at hk
theorem rQ (fh:ar F H):∀(ds:List D) (d:D) (s:Shared) (A:Around) (v:V) (u:Value),Inv X pins σ H s→iW ds=true→A.units + bE ds < cLine→d∈ds→Den X.K F d v→RelV v u→hU X.prog X.w A s u (Ar d) (Ec d)
 | [],d,s,A,v,u,I,hk,hu,hm,hd,r=>by cases hm
 | x :: ds,d,s,A,v,u,I,hk,hu,hm,hd,r=>by
  simp only [iW,Bool.and_eq_true] at hk
  simp only [bE] at hu
  by_cases c:d∈ds
  ·exact rQ fh ds d s A v u I hk.2 (by omega) c hd r
  ·have:d=x:=(Ld.mp hm).elim id (fun e=>absurd e c)
   rw [this] at hd ⊢
   exact lI fh x s A v u I hk.1 (by omega) hd r
end
def pD (prog:Program) (w:World) (A:Around) (s:Shared) (n:Nat) (v:Value):Prop:=∀(E:Value→Shared→Prop) (Q:Bool→Shared→Prop),Q true s→wpAny (model prog w) A (eqIsQuiet n v) Q E s
theorem zA {s:Shared} {a:Addr} {items:List Value} {A:Around} {n:Nat} (hT:IsTup s.heap a items.toArray)
  (rec:∀u∈items,pD X.prog X.w A s n u):pD X.prog X.w A s (n + 1) (.ref a):=by
 intro E Q h
 obtain⟨o,ho,hc,k,hd⟩:=hT
 have hT:s.TypeIs (.ref a) "tuple":=⟨o,ho,hc⟩
 unfold eqIsQuiet
 refine KJ (wpAny_specialOf hT PySem.F.slot_tuple_eq.lookup ?_)
 show wpAny _ _ (isInstance (.ref a) (.type "tuple") >>= _) _ _ s
 refine KJ (wpAny_isInstance hT isSubtype_tuple_tuple ?_)
 simp only [Bool.not_true,KR,if_false]
 refine KJ (wpAny_seqItems ho hd ?_)
 refine KJ ?_
 show wpAny _ _ (forIn items.toArray _ _) _ _ s
 rw [← Array.forIn_toList]
 refine wpAny_forIn_list _ (fun rest r s'=>r.1=none∧s'=s∧∀v∈rest,pD X.prog X.w A s n v) _ ?_ ?_ _ _ ⟨rfl,rfl,by simpa using rec⟩
 ·rintro v rest r s' ⟨hr,rfl,hall⟩
  refine KJ (hall v K9 _ _ ?_)
  simp only [Bool.not_true,KR,if_false]
  exact KO ⟨rfl,rfl,fun u hu'=>hall u (K4 _ hu')⟩
 ·rintro⟨r1,r2⟩ s' ⟨hr,rfl,_⟩
  simp only at hr
  subst hr
  exact KO h
mutual
theorem my (fh:ar F H):∀(d:D) (s:Shared) (A:Around) (n:Nat) (v:V) (u:Value),Inv X pins σ H s→a0 d=true→dep d≤n→Den X.K F d v→RelV v u→pD X.prog X.w A s n u
 | .int i,s,A,n,v,u,I,hk,hu,hd,r=>by
  simp only [Den] at hd;subst hd
  obtain⟨t,rfl⟩:=r
  intro E Q h
  rw [eqIsQuiet_byValue n (v:=.int i t) rfl]
  exact KO h
 | .tup ds,s,A,n,v,u,I,hk,hu,hd,r=>by
  simp only [Den] at hd
  obtain⟨a,vs,rfl,q,dl⟩:=hd
  cases r
  obtain⟨its,rv,ht,hz⟩:=I.tuple (ar.cn fh q)
  simp only [dep] at hu
  cases n with
  | zero=>omega
  | succ n=>exact zA ht (pH fh ds s A n vs its I (by simpa only [a0] using hk) (by omega) dl rv)
 | .non,s,A,n,v,u,I,hk,hu,hd,r=>by
  simp only [Den] at hd;subst hd
  cases r
  intro E Q h
  rw [eqIsQuiet_byValue n (v:=.none) rfl]
  exact KO h
 | .bl _,_,_,_,_,_,_,hk,_,_,_=>by simp only [a0,KR] at hk
 | .str _,_,_,_,_,_,_,hk,_,_,_=>by simp only [a0,KR] at hk
 | .lst _,_,_,_,_,_,_,hk,_,_,_=>by simp only [a0,KR] at hk
 | .dct _ _,_,_,_,_,_,_,hk,_,_,_=>by simp only [a0,KR] at hk
 | .ty _,_,_,_,_,_,_,hk,_,_,_=>by simp only [a0,KR] at hk
 | .exc _,_,_,_,_,_,_,hk,_,_,_=>by simp only [a0,KR] at hk
 | .cls _,_,_,_,_,_,_,hk,_,_,_=>by simp only [a0,KR] at hk
 | .obj _,_,_,_,_,_,_,hk,_,_,_=>by simp only [a0,KR] at hk
theorem pH (fh:ar F H):∀(ds:List D) (s:Shared) (A:Around) (n:Nat) (vs:List V) (us:List Value),Inv X pins σ H s→iW ds=true→bE ds≤n→aq X.K F ds vs→Vals vs us→∀u∈us,pD X.prog X.w A s n u
 | [],s,A,n,vs,us,I,hk,hu,dl,rv,u,hm=>by
  simp only [aq] at dl;subst dl
  cases rv;cases hm
 | d :: ds,s,A,n,vs,us,I,hk,hu,dl,rv,u,hm=>by
  simp only [aq] at dl
  obtain⟨v,r,rfl,a,b⟩:=dl
  simp only [iW,Bool.and_eq_true] at hk
  simp only [bE] at hu
  cases rv with
  | @cons _ x _ xs r1 rv' =>
   by_cases c:u∈xs
   ·exact pH fh ds s A n r xs I hk.2 (by omega) b rv' u c
   ·have:u=x:=(Ld.mp hm).elim id (fun e=>absurd e c)
    rw [this]
    exact my fh d s A n v x I hk.1 (by omega) a r1
end
end
end L2.L3
namespace L2.L3
open PySem PySem.Spec PyProof.Rows
structure dj (kvs:List (D×D)):Prop where
 key:∀kv∈kvs,a0 kv.1=true∧dep kv.1≤8
 dif:∀(i j:Nat) (x y:D×D),kvs[i]?=some x→kvs[j]?=some y→x.1=y.1→i=j
def uX (kvs:List (D×D)) (d:D) (j:Nat):Bool:=match kvs[j]? with
 | some kv=>a5 kv.1 d
 | none=>false
section
variable {X:Cx} {pins:List (Addr×Obj)} {σ:St} {H F:Hp} {s:Shared} {kvs:List (D×D)} {us vs:List V} {p:Addr} {A:Around} {d:D} {v:V} {u:Value}
theorem kW (I:Inv X pins σ H s) {ep:Nat} {rows:List (Int×V×V)} (e:H p=some (kr p ep rows)):rows.length≤sizeLine∧(p == sysModules)=false∧∃es,bI s.heap p es ep∧Paired Co rows es.toList:=(I.hok p _ e).1
theorem jJ {α β:Type} {R:α→β→Prop}:∀{xs:List α} {ys:List β} {i:Nat} {y:β},Paired R xs ys→ys[i]?=some y→∃x,xs[i]?=some x∧R x y
 | _,_,_,_,.nil,e=>by simp at e
 | _,_,0,_,.cons r _,e=>by simp at e;subst e;exact⟨_,rfl,r⟩
 | _,_,i + 1,y,.cons _ t,e=>by
  obtain⟨x,h1,h2⟩:=jJ (i:=i) (y:=y) t (by simpa using e)
  exact⟨x,by simpa using h1,h2⟩
theorem d8 (d1:aq X.K F (kvs.map (·.1)) us) (d2:aq X.K F (kvs.map (·.2)) vs):(b4 kvs us vs).length=kvs.length:=by
 have l1:=d1.length
 have l2:=d2.length
 simp only [KZ] at l1 l2
 unfold b4
 simp only [List.length_zip,KZ,← l1,← l2,Nat.min_self]
theorem xN (d1:aq X.K F (kvs.map (·.1)) us) (d2:aq X.K F (kvs.map (·.2)) vs) {es:Array DictEntry} (pr:Paired Co (b4 kvs us vs) es.toList) {j:Nat} (hj:j < es.size) :
  ∃kv a b,kvs[j]?=some kv∧us[j]?=some a∧vs[j]?=some b∧Den X.K F kv.1 a∧Den X.K F kv.2 b∧es[j].hash=Ar kv.1∧RelV a es[j].key∧RelV b es[j].val:=by
 have l:=d8 d1 d2
 have lp:=Paired.length pr
 have hk:j < kvs.length:=by rw [← l,lp];simpa using hj
 obtain⟨row,hr,e1,e2,e3⟩:=jJ pr (y:=es[j]) (i:=j) (by simp [hj])
 have g0:kvs[j]?=some kvs[j]:=KP hk
 obtain⟨a,ha,da⟩:=d1.get (i:=j) (d:=kvs[j].1) (by rw [KU,g0];rfl)
 obtain⟨b,hb,db⟩:=d2.get (i:=j) (d:=kvs[j].2) (by rw [KU,g0];rfl)
 have:row=(Ar kvs[j].1,a,b):=by
  unfold b4 at hr
  rw [List.getElem?_zip_eq_some,List.getElem?_zip_eq_some,KU,g0] at hr
  obtain⟨h1,h2,h3⟩:=hr
  rw [ha] at h2;rw [hb] at h3
  exact Prod.ext (K3 h1).symm (Prod.ext (K3 h2).symm (K3 h3).symm)
 subst this
 exact⟨_,a,b,g0,ha,hb,da,db,e1,e2,e3⟩
theorem tw (I:Inv X pins σ H s) (fh:ar F H) (ok:dj kvs) (d1:aq X.K F (kvs.map (·.1)) us) (d2:aq X.K F (kvs.map (·.2)) vs) {es:Array DictEntry} (pr:Paired Co (b4 kvs us vs) es.toList)
  (hk:a0 d=true) (hd:dep d≤8) (hu:A.units + 8 < cLine) (dd:Den X.K F d v) (rv:RelV v u):kG X.prog X.w A s es u (Ar d) (uX kvs d):=by
 have at_:=fun j hj=>xN d1 d2 pr (j:=j) hj
 have mat:∀j kv,kvs[j]?=some kv→uX kvs d j=a5 kv.1 d:=fun j kv e=>by unfold uX;rw [e]
 have kk:∀(j:Nat) (kv:D×D),kvs[j]?=some kv→a0 kv.1=true∧dep kv.1≤8:=fun j kv e=>ok.key kv (K6 e)
 refine⟨fun j hj=>?_,fun j hj hm=>?_,fun i j hi hj h1 h2=>?_,fun j hj he=>?_,?_,fun j hj=>?_,?_⟩
 ·obtain⟨kv,a,b,g0,g1,g2,da,db,e1,e2,e3⟩:=at_ j hj
  rw [mat j kv g0]
  have:=(kk j kv g0).2
  exact oX I fh kv.1 d A a v _ _ (by omega) (by omega) (by omega) da dd e2 rv
 ·obtain⟨kv,a,b,g0,g1,g2,da,db,e1,e2,e3⟩:=at_ j hj
  rw [mat j kv g0] at hm
  rw [e1,c6 kv.1 d (kk j kv g0).1 hm hk]
 ·obtain⟨kv,_,_,g0,_⟩:=at_ i hi
  obtain⟨kw,_,_,f0,_⟩:=at_ j hj
  rw [mat i kv g0] at h1
  rw [mat j kw f0] at h2
  exact ok.dif i j kv kw g0 f0 (by rw [c6 kv.1 d (kk i kv g0).1 h1 hk,c6 kw.1 d (kk j kw f0).1 h2 hk])
 ·obtain⟨kv,a,b,g0,g1,g2,da,db,e1,e2,e3⟩:=at_ j hj
  rw [he] at e2
  have:=e2.inj rv
  subst this
  have k1:=(kk j kv g0).2
  rw [e1,c6 kv.1 d (kk j kv g0).1 (oE I fh kv.1 d a (by omega) (by omega) da dd) hk]
 ·exact my fh d s A 8 v u I hk hd dd rv
 ·obtain⟨kv,a,b,g0,g1,g2,da,db,e1,e2,e3⟩:=at_ j hj
  exact my fh kv.1 s A 8 a _ I (kk j kv g0).1 (kk j kv g0).2 da e2
 ·cases d with
  | int i=>simp only [Den] at dd;subst dd;obtain⟨t,rfl⟩:=rv;exact .inl ⟨i,t,rfl⟩
  | tup ds=>simp only [Den] at dd;obtain⟨a,_,rfl,_⟩:=dd;cases rv;exact .inr (.inl ⟨a,rfl⟩)
  | non=>simp only [Den] at dd;subst dd;cases rv;exact .inr (.inr rfl)
  | _=>simp only [a0,KR] at hk
def i8 (kvs:List (D×D)) (d:D):Option D:=(kvs.find? fun kv=>a5 kv.1 d).map (·.2)
def putN (kvs:List (D×D)) (d x:D):List (D×D):=if (kvs.any fun kv=>a5 kv.1 d)=true then kvs.map (fun kv=>if a5 kv.1 d=true then (kv.1,x) else kv) else kvs ++ [(d,x)]
theorem Dq (ok:dj kvs) (hk:a0 d=true) {x:D} (h:i8 kvs d=some x):∃(j:Nat) (kv:D×D),kvs[j]?=some kv∧a5 kv.1 d=true∧kv.2=x:=by
 unfold i8 at h
 obtain⟨kv,h1,h2⟩:=Lz.mp h
 obtain⟨j,hj⟩:=Ln (List.mem_of_find?_eq_some h1)
 have m:=List.find?_some (p:=fun kv:D×D=>a5 kv.1 d) h1
 exact⟨j,kv,hj,m,h2⟩
theorem GA (hu:A.units + 9 < cLine) (I:Inv X pins σ H s) (fh:ar F H) (ok:dj kvs) (d1:aq X.K F (kvs.map (·.1)) us) (d2:aq X.K F (kvs.map (·.2)) vs) {ep:Nat} (e:H p=some (kr p ep (b4 kvs us vs)))
  (hk:a0 d=true) (hd:dep d≤8) (dd:Den X.K F d v) (rv:RelV v u) {x:D} (hx:i8 kvs d=some x) {E:Value→Shared→Prop} {Q:Value→Shared→Prop}
  (h:∀w' u' s',Inv X pins σ H s'→Den X.K F x w'→RelV w' u'→Q u' s'):wpAny (model X.prog X.w) A (getItem (.ref p) u) Q E s:=by
 obtain⟨hz,hs,es,dh,pr⟩:=kW I e
 obtain⟨j,kv,g0,m0,rfl⟩:=Dq ok hk hx
 have lp:=Paired.length pr
 rw [d8 d1 d2] at lp
 have hj:j < es.size:=by have:=(KL.mp g0).1;simp at lp;omega
 obtain⟨kv',a,b,g0',g1,g2,da,db,e1,e2,e3⟩:=xN d1 d2 pr hj
 rw [g0] at g0';cases g0'
 refine vx (j:=j) (lI fh d s A.in1 v u I hk (by rw [units_in1];omega) dd rv) (tw (I.tok _) fh ok d1 d2 pr hk hd (by rw [units_in1];omega) dd rv) dh hj (by unfold uX;rw [g0];exact m0) ?_
 exact h b _ _ (I.tok _) db e3
theorem HP (hu:A.units + 9 < cLine) (I:Inv X pins σ H s) (fh:ar F H) (ok:dj kvs) (d1:aq X.K F (kvs.map (·.1)) us) (d2:aq X.K F (kvs.map (·.2)) vs) {ep:Nat} (e:H p=some (kr p ep (b4 kvs us vs)))
  (hk:a0 d=true) (hd:dep d≤8) (dd:Den X.K F d v) (rv:RelV v u) {E:Value→Shared→Prop} {Q:Bool→Shared→Prop}
  (h:∀s',Inv X pins σ H s'→Q (kvs.any fun kv=>a5 kv.1 d) s'):wpAny (model X.prog X.w) A (contains (.ref p) u) Q E s:=by
 obtain⟨hz,hs,es,dh,pr⟩:=kW I e
 have lp:=Paired.length pr
 rw [d8 d1 d2] at lp
 refine sX (lI fh d s A.in1 v u I hk (by rw [units_in1];omega) dd rv) (tw (I.tok _) fh ok d1 d2 pr hk hd (by rw [units_in1];omega) dd rv) dh hs (fun hno=>?_) fun j hj hm=>?_
 ·have:(kvs.any fun kv=>a5 kv.1 d)=false:=by
   rw [List.any_eq_false]
   intro kv hm
   obtain⟨j,hj⟩:=Ln hm
   have:=hno j (by have:=(KL.mp hj).1;simp at lp;omega)
   unfold uX at this
   rw [hj] at this
   simpa using this
  have q:=h { s with toks:=s.toks + Ec d } (I.tok _)
  rw [this] at q;exact q
 ·have:(kvs.any fun kv=>a5 kv.1 d)=true:=by
   rw [List.any_eq_true]
   unfold uX at hm
   cases g:kvs[j]? with
   | none=>rw [g] at hm;cases hm
   | some kv=>rw [g] at hm;exact⟨kv,K6 g,hm⟩
  have q:=h { s with toks:=s.toks + Ec d } (I.tok _)
  rw [this] at q;exact q
end
end L2.L3
namespace L2.L3
open PySem PySem.Spec PyProof.Rows
theorem mn {α β:Type} {R:α→β→Prop}:∀{xs:List α} {ys:List β},xs.length=ys.length→(∀(i:Nat) x y,xs[i]?=some x→ys[i]?=some y→R x y)→Paired R xs ys
 | [],[],_,_=>.nil
 | [],_ :: _,h,_=>by simp at h
 | _ :: _,[],h,_=>by simp at h
 | x :: xs,y :: ys,h,f=>.cons (f 0 x y rfl rfl) (mn (by simpa using h) fun i a b h1 h2=>f (i + 1) a b (by simpa using h1) (by simpa using h2))
theorem jG {kvs:List (D×D)} {us vs:List V} {i:Nat} {row:Int×V×V} (h:(b4 kvs us vs)[i]?=some row):∃kv,kvs[i]?=some kv∧row.1=Ar kv.1∧us[i]?=some row.2.1∧vs[i]?=some row.2.2:=by
 unfold b4 at h
 rw [List.getElem?_zip_eq_some,List.getElem?_zip_eq_some,KU] at h
 obtain⟨h1,h2,h3⟩:=h
 obtain⟨kv,a,b⟩:=Lz.mp h1
 exact⟨kv,a,b.symm,h2,h3⟩
theorem Dc {kvs:List (D×D)} {d x:D} {j:Nat} {kv:D×D} (ok:dj kvs) (hk:a0 d=true) (hj:kvs[j]?=some kv) (hm:a5 kv.1 d=true):kvs.map (fun kv=>if a5 kv.1 d=true then (kv.1,x) else kv)=kvs.set j (kv.1,x):=by
 apply List.ext_getElem?
 intro i
 rw [KU]
 by_cases e:j=i
 ·subst e
  rw [KW (KL.mp hj).1,hj]
  simp only [Option.map_some,KS hm]
 ·rw [KN e]
  cases g:kvs[i]? with
  | none=>rfl
  | some kw =>
   simp only [Option.map_some]
   rw [KQ]
   intro hw
   exact e (ok.dif j i kv kw hj g (by rw [c6 kv.1 d (ok.key kv (K6 hj)).1 hm hk,c6 kw.1 d (ok.key kw (K6 g)).1 hw hk]))
theorem vh {kvs:List (D×D)} {j:Nat} {kv:D×D} {x:D} (hj:kvs[j]?=some kv):(kvs.set j (kv.1,x)).map (·.1)=kvs.map (·.1):=by
 apply List.ext_getElem?
 intro i
 rw [KU,KU]
 by_cases e:j=i
 ·subst e
  rw [KW (KL.mp hj).1,hj];rfl
 ·rw [KN e]
theorem vM {kvs:List (D×D)} {j:Nat} {y x:D}:(kvs.set j (y,x)).map (·.2)=(kvs.map (·.2)).set j x:=by
 rw [List.map_set]
section
variable {X:Cx} {pins:List (Addr×Obj)} {σ:St} {H F:Hp} {s:Shared} {kvs:List (D×D)} {us vs:List V} {p:Addr} {A:Around} {d x:D} {v w:V} {u r:Value}
theorem GF (hu:A.units + 9 < cLine) (I:Inv X pins σ H s) (fh:ar F H) (ok:dj kvs) (d1:aq X.K F (kvs.map (·.1)) us) (d2:aq X.K F (kvs.map (·.2)) vs) {ep:Nat} (e:H p=some (kr p ep (b4 kvs us vs)))
  (hk:a0 d=true) (hd:dep d≤8) (dd:Den X.K F d v) (rv:RelV v u) (dx:Den X.K F x w) (rw':RelV w r) (hl:kvs.length < sizeLine) {E:Value→Shared→Prop} {Q:Unit→Shared→Prop}
  (h:∀ep' us' vs' s',aq X.K F ((putN kvs d x).map (·.1)) us'→aq X.K F ((putN kvs d x).map (·.2)) vs'→Inv X pins σ (upd H p (kr p ep' (b4 (putN kvs d x) us' vs'))) s'→Q () s'):wpAny (model X.prog X.w) A (setItem (.ref p) u r) Q E s:=by
 obtain⟨hz,hs,es,dh,pr⟩:=kW I e
 have lp:=Paired.length pr
 have l0:=d8 d1 d2
 rw [l0] at lp hz
 have lp':kvs.length=es.size:=by simpa using lp
 have l1:=d1.length
 have l2:=d2.length
 simp only [KZ] at l1 l2
 have ext:∀(ep':Nat) (rows:List (Int×V×V)) (h':Heap) (es':Array DictEntry),rows.length≤sizeLine→bI h' p es' ep'→Paired Co rows es'.toList→cE X.prog X.w (upd H p (kr p ep' rows)) h' p (kr p ep' rows):=fun ep' rows h' es' z dh' pr'=>by
  refine⟨⟨z,hs,es',dh',pr'⟩,?_,?_⟩
  ·obtain⟨o,ho,_⟩:=dh';exact⟨o,ho⟩
  ·rintro h1 h2 ⟨z,hs,es,⟨o,ho,c,dd⟩,pr⟩ k
   exact⟨z,hs,es,⟨o,k _ ho,c,dd⟩,pr⟩
 have hash:=lI fh d s A.in1 v u I hk (by rw [units_in1];omega) dd rv
 have find:=tw (I.tok (s.toks + Ec d)) fh ok d1 d2 pr hk hd (A:=A.in1) (by rw [units_in1];omega) dd rv
 refine vy hash find dh (by omega) (fun hno h' dh' sb=>?_) fun j hj hm h' dh' sb=>?_
 ·have any:(kvs.any fun kv=>a5 kv.1 d)=false:=by
   rw [List.any_eq_false]
   intro kv hm
   obtain⟨j,hj⟩:=Ln hm
   have:=hno j (by have:=(KL.mp hj).1;omega)
   unfold uX at this
   rw [hj] at this
   simpa using this
  have pe:putN kvs d x=kvs ++ [(d,x)]:=by unfold putN;rw [any];rfl
  have q1:aq X.K F ((putN kvs d x).map (·.1)) (us ++ [v]):=by rw [pe,List.map_append];exact d1.append (aX dd aW)
  have q2:aq X.K F ((putN kvs d x).map (·.2)) (vs ++ [w]):=by rw [pe,List.map_append];exact d2.append (aX dx aW)
  refine h _ _ _ _ q1 q2 (yN I (by rw [e];exact True.intro) sb (let ⟨o,ho,_⟩:=dh';⟨o,ho⟩) (ext _ _ h' _ ?_ dh' ?_))
  ·rw [d8 q1 q2,pe];simp;omega
  ·refine mn (by rw [d8 q1 q2,pe];simp;omega) fun i row en h1 h2=>?_
   obtain⟨kv,k1,k2,k3,k4⟩:=jG h1
   rw [pe] at k1
   simp only [Array.toList_push] at h2
   by_cases c:i < kvs.length
   ·rw [Lb c] at k1
    rw [Lb (by omega)] at k3 k4
    rw [Lb (by simp;omega)] at h2
    obtain⟨row',g1,g2⟩:=jJ pr h2
    obtain⟨kv',f1,f2,f3,f4⟩:=jG g1
    rw [f1] at k1;cases k1
    rw [f3] at k3
    rw [f4] at k4
    have:row'=row:=Prod.ext (by rw [f2,k2]) (Prod.ext (K3 k3) (K3 k4))
    rw [← this];exact g2
   ·have hi:i=kvs.length:=by
     have:=(KL.mp k1).1
     simp at this;omega
    rw [hi,Lc (K0 _),Nat.sub_self] at k1
    rw [show i=us.length by omega,Lc (K0 _),Nat.sub_self] at k3
    rw [show i=vs.length by omega,Lc (K0 _),Nat.sub_self] at k4
    rw [show i=es.toList.length by simp;omega,Lc (K0 _),Nat.sub_self] at h2
    cases k1;cases h2
    have a3:v=row.2.1:=K3 k3
    have a4:w=row.2.2:=K3 k4
    exact⟨k2.symm,by rw [← a3];exact rv,by rw [← a4];exact rw'⟩
 ·obtain⟨kv,a,b,g0,g1,g2,da,db,e1,e2,e3⟩:=xN d1 d2 pr hj
  unfold uX at hm
  rw [g0] at hm
  have any:(kvs.any fun kv=>a5 kv.1 d)=true:=List.any_eq_true.mpr ⟨kv,K6 g0,hm⟩
  have pe:putN kvs d x=kvs.set j (kv.1,x):=by unfold putN;rw [any,KS rfl];exact Dc ok hk g0 hm
  have q1:aq X.K F ((putN kvs d x).map (·.1)) us:=by rw [pe,vh g0];exact d1
  have q2:aq X.K F ((putN kvs d x).map (·.2)) (vs.set j w):=by rw [pe,vM];exact aq.set dx j d2
  refine h _ _ _ _ q1 q2 (yN I (by rw [e];exact True.intro) sb (let ⟨o,ho,_⟩:=dh';⟨o,ho⟩) (ext _ _ h' _ ?_ dh' ?_))
  ·rw [d8 q1 q2,pe];simp;omega
  ·refine mn (by rw [d8 q1 q2,pe];simp;omega) fun i row en h1 h2=>?_
   obtain⟨kw,k1,k2,k3,k4⟩:=jG h1
   rw [pe] at k1
   rw [Array.getElem?_toList,Array.getElem?_modify] at h2
   by_cases c:j=i
   ·subst c
    rw [KS rfl,Array.getElem?_eq_getElem hj] at h2
    rw [KW (by omega)] at k1 k4
    cases k1;cases h2
    rw [g1] at k3
    have a3:a=row.2.1:=K3 k3
    have a4:w=row.2.2:=K3 k4
    exact⟨by rw [k2];exact e1,by rw [← a3];exact e2,by rw [← a4];exact rw'⟩
   ·rw [KQ c,← Array.getElem?_toList] at h2
    rw [KN c] at k1 k4
    obtain⟨row',f0,f1⟩:=jJ pr h2
    obtain⟨kv',t1,t2,t3,t4⟩:=jG f0
    rw [t1] at k1;cases k1
    rw [t3] at k3
    rw [t4] at k4
    have:row'=row:=Prod.ext (by rw [t2,k2]) (Prod.ext (K3 k3) (K3 k4))
    rw [← this];exact f1
end
end L2.L3
namespace L2.L3
open PySem PySem.Spec PyProof.Rows
section
variable {K:PySem.W.Frag} {B:Base} {F H F' H':Hp} {σ:St} {e:En}
theorem bb {e:En} {i j:Nat} {l:Lo} {xs:List D} (hl:∀z,l≠.own z) (q:(e.set i (some l))[j]?=some (some (.own xs))):i≠j:=fun z=>by
 subst z
 by_cases w:i < e.length
 ·rw [KW w] at q;cases q;exact hl _ rfl
 ·rw [K7 (by simpa using w)] at q;cases q
theorem pE {e:En} {i j:Nat} {l:Lo} {x:D} (hl:∀z,l≠.d z) (q:(e.set i (some l))[j]?=some (some (.d x))):i≠j:=fun z=>by
 subst z
 by_cases w:i < e.length
 ·rw [KW w] at q;cases q;exact hl _ rfl
 ·rw [K7 (by simpa using w)] at q;cases q
theorem Rep.E1 (r:Rep K B F H σ e) {i:Nat} {p:Addr} (h:H p=none) (hl:i < σ.length) :
  Rep K B F (upd H p (kr p 0 [])) (σ.set i (some (.ref p))) (e.set i (some (.dic []))):=by
 have r1:=r.loose (o:=kr p 0 []) h
 have hb:B.H p=none:=r.h0.free h
 have old:∀(j:Nat) (ys:List (D×D)),e[j]?=some (some (.dic ys))→σ[j]?≠some (some (.ref p)):=fun j ys q z=>by
  obtain⟨q1,_,_,_,h1,h2,_⟩:=r.mv j ys q
  rw [z] at h1;cases h1;rw [h] at h2;cases h2
 refine⟨r1.f0,r1.fh,r1.h0,r1.nf,fun j y q=>?_,fun j y q=>?_,fun j k ys zs q hjk q1 q2 q3 q4=>?_,fun j y q=>?_,fun j k ys zs q hjk q1 q2 q3 q4=>?_⟩
 ·have z:=pE (fun _ w=>by cases w) q
  rw [KN z] at q ⊢;exact r1.dv j y q
 ·have z:=bb (fun _ w=>by cases w) q
  rw [KN z] at q ⊢;exact r1.ov j y q
 ·have z1:=bb (fun _ w=>by cases w) q1
  have z2:=bb (fun _ w=>by cases w) q2
  rw [KN z1] at q1 q3
  rw [KN z2] at q2 q4
  exact r.ne j k ys zs q hjk q1 q2 q3 q4
 ·by_cases z:i=j
  ·subst z
   by_cases w:i < e.length
   ·rw [KW w] at q
    cases q
    exact⟨p,0,[],[],KW hl,aI,r.rK h,hb,aW,aW⟩
   ·rw [K7 (by simpa using w)] at q;cases q
  ·rw [KN z] at q ⊢;exact r1.mv j y q
 ·by_cases z1:i=j
  ·subst z1
   rw [KN hjk] at q2 q4
   rw [KW hl] at q3
   cases q3
   exact old k zs q2 q4
  ·rw [KN z1] at q1 q3
   by_cases z2:i=k
   ·subst z2
    rw [KW hl] at q4
    cases q4
    exact old j ys q1 q3
   ·rw [KN z2] at q2 q4
    exact r.nm j k ys zs q hjk q1 q2 q3 q4
theorem Rep.zE (r:Rep K B F H σ e) {i:Nat} {p:Addr} (ep:Nat) {us vs:List V} {xs ys:List (D×D)} (h:e[i]?=some (some (.dic xs))) (hp:σ[i]?=some (some (.ref p))) (hd:aq K F (ys.map (·.1)) us) (hd':aq K F (ys.map (·.2)) vs) :
  Rep K B F (upd H p (kr p ep (b4 ys us vs))) σ (e.set i (some (.dic ys))):=by
 obtain⟨p',_,_,_,h1,h2,h3,h4,_⟩:=r.mv i xs h
 rw [hp] at h1;cases h1
 have wl:i < e.length:=(KL.mp h).1
 have fk:∀q o,F q=some o→q≠p:=fun q o z w=>by subst w;rw [h3] at z;cases z
 have bk:∀q o,B.H q=some o→q≠p:=fun q o z w=>by subst w;rw [h4] at z;cases z
 have dicAt:∀(j:Nat) (zs:List (D×D)),(e.set i (some (.dic ys)))[j]?=some (some (.dic zs))→∃ws,e[j]?=some (some (.dic ws)):=fun j zs q=>by
  by_cases z:i=j
  ·subst z;exact⟨xs,h⟩
  ·rw [KN z] at q;exact⟨zs,q⟩
 refine⟨r.f0,fun b o z=>by rw [aH (fk b o z)];exact r.fh _ _ z,fun b o z=>by rw [aH (bk b o z)];exact r.h0 _ _ z,r.nf,fun j y q=>?_,fun j y q=>?_,fun j k as bs q hjk q1 q2 q3 q4=>?_,fun j y q=>?_,fun j k as bs q hjk q1 q2 q3 q4=>?_⟩
 ·have z:=pE (fun _ w=>by cases w) q
  rw [KN z] at q;exact r.dv j y q
 ·have z:=bb (fun _ w=>by cases w) q
  rw [KN z] at q
  obtain⟨p2,us,g1,g2,g3,g4,g5⟩:=r.ov j y q
  have:p2≠p:=fun w=>by subst w;rw [h2] at g2;cases g2
  exact⟨p2,us,g1,by rw [aH this];exact g2,g3,g4,g5⟩
 ·have z1:=bb (fun _ w=>by cases w) q1
  have z2:=bb (fun _ w=>by cases w) q2
  rw [KN z1] at q1
  rw [KN z2] at q2
  exact r.ne j k as bs q hjk q1 q2 q3 q4
 ·by_cases z:i=j
  ·subst z
   rw [KW wl] at q
   cases q
   exact⟨p,ep,us,vs,hp,aI,h3,h4,hd,hd'⟩
  ·rw [KN z] at q
   obtain⟨p2,ep2,as,bs,g1,g2,g3,g4,g5⟩:=r.mv j y q
   have:p2≠p:=fun w=>by subst w;exact r.nm j i y xs p2 (Ne.symm z) q h g1 hp
   exact⟨p2,ep2,as,bs,g1,by rw [aH this];exact g2,g3,g4,g5⟩
 ·obtain⟨as',w1⟩:=dicAt j as q1
  obtain⟨bs',w2⟩:=dicAt k bs q2
  exact r.nm j k as' bs' q hjk w1 w2 q3 q4
def mr (kvs:List (D×D)):PySem.W.Frag→Hp→Addr→Prop:=fun K G a=>∃ep us vs,G a=some (kr a ep (b4 kvs us vs))∧aq K G (kvs.map (·.1)) us∧aq K G (kvs.map (·.2)) vs
theorem Rep.zB (r:Rep K B F H σ e) {i:Nat} {xs:List (D×D)} (h:e[i]?=some (some (.dic xs))):∃F',ar F F'∧Rep K B F' H σ (e.set i (some (.d (.obj (mr xs))))):=by
 obtain⟨p,ep,us,vs,h1,h2,h3,h4,h5,h6⟩:=r.mv i xs h
 have wl:i < e.length:=(KL.mp h).1
 have s1:ar F (upd F p (kr p ep (b4 xs us vs))):=cA h3
 refine⟨upd F p (kr p ep (b4 xs us vs)),s1,r.f0.trans s1,fun b o z=>?_,r.h0,fun q hq=>?_,fun j y q=>?_,fun j y q=>?_,fun j k as bs q hjk q1 q2 q3 q4=>?_,fun j y q=>?_,fun j k as bs q hjk q1 q2 q3 q4=>?_⟩
 ·by_cases w:b=p
  ·subst w;rw [aI] at z;cases z;exact h2
  ·rw [aH w] at z;exact r.fh _ _ z
 ·have:q≠p:=fun w=>by subst w;exact B.nb _ hq h4
  rw [aH this];exact r.nf q hq
 ·by_cases z:i=j
  ·subst z
   rw [KW wl] at q
   cases q
   refine⟨_,h1,?_⟩
   simp only [Den]
   exact⟨p,rfl,fun G sG=>⟨ep,us,vs,sG _ _ aI,aq.mono (s1.trans sG) _ _ h5,aq.mono (s1.trans sG) _ _ h6⟩⟩
  ·rw [KN z] at q
   obtain⟨v,a,b⟩:=r.dv j y q
   exact⟨v,a,Den.mono s1 _ _ b⟩
 ·have z:=bb (fun _ w=>by cases w) q
  rw [KN z] at q
  obtain⟨p2,us,g1,g2,g3,g4,g5⟩:=r.ov j y q
  have:p2≠p:=fun w=>by subst w;rw [h2] at g2;cases g2
  exact⟨p2,us,g1,g2,by rw [aH this];exact g3,g4,aq.mono s1 _ _ g5⟩
 ·have z1:=bb (fun _ w=>by cases w) q1
  have z2:=bb (fun _ w=>by cases w) q2
  rw [KN z1] at q1
  rw [KN z2] at q2
  exact r.ne j k as bs q hjk q1 q2 q3 q4
 ·have z:i≠j:=aT (fun _ w=>by cases w) q
  rw [KN z] at q
  obtain⟨p2,ep2,as,bs,g1,g2,g3,g4,g5,g6⟩:=r.mv j y q
  have:p2≠p:=fun w=>by subst w;exact r.nm j i y xs p2 (Ne.symm z) q h g1 h1
  exact⟨p2,ep2,as,bs,g1,g2,by rw [aH this];exact g3,g4,aq.mono s1 _ _ g5,aq.mono s1 _ _ g6⟩
 ·have z1:=aT (fun _ w=>by cases w) q1
  have z2:=aT (fun _ w=>by cases w) q2
  rw [KN z1] at q1
  rw [KN z2] at q2
  exact r.nm j k as bs q hjk q1 q2 q3 q4
end
end L2.L3
namespace L2.L3
open PySem PySem.Spec PyProof.Rows
theorem zZ {P:Program} {w:World} {H:Hp} (h:Heap) (hb:sysModules < h.objs.size):cE P w H (h.push { cls:=.type "dict",data:=.dict #[] }) h.objs.size (kr h.objs.size 0 []):=by
 have dh:=bI.new h
 refine⟨⟨Lp _,beq_eq_false_iff_ne.mpr (Ne.symm (Lj hb)),#[],dh,.nil⟩,?_,?_⟩
 ·obtain⟨o,ho,_⟩:=dh;exact⟨o,ho⟩
 ·rintro h1 h2 ⟨z,hs,es,⟨o,ho,c,dd⟩,pr⟩ k
  exact⟨z,hs,es,⟨o,k _ ho,c,dd⟩,pr⟩
def Ge:TE:=fun _ H Q=>∀p,H p=none→Q (.ref p) (upd H p (kr p 0 []))
def HB (X:Cx) (td ty tv:TE):TS:=fun D σ H=>tv σ H fun v H1=>td σ H1 fun x H2=>ty σ H2 fun y H3=>∃p ep F kvs us vs d z,x=.ref p∧ar F H3∧dj kvs∧aq X.K F (kvs.map (·.1)) us∧aq X.K F (kvs.map (·.2)) vs∧H3 p=some (kr p ep (b4 kvs us vs)) ∧
 a0 d=true∧dep d≤8∧Den X.K F d y∧Den X.K F z v∧kvs.length < sizeLine∧∀ep' us' vs',aq X.K F ((putN kvs d z).map (·.1)) us'→aq X.K F ((putN kvs d z).map (·.2)) vs'→D.nx σ (upd H3 p (kr p ep' (b4 (putN kvs d z) us' vs')))
def Hq (X:Cx) (td ty:TE):TE:=fun σ H Q=>td σ H fun x H1=>ty σ H1 fun y H2=>∃p ep F kvs us vs d z,x=.ref p∧ar F H2∧dj kvs∧aq X.K F (kvs.map (·.1)) us∧aq X.K F (kvs.map (·.2)) vs∧H2 p=some (kr p ep (b4 kvs us vs)) ∧
 a0 d=true∧dep d≤8∧Den X.K F d y∧i8 kvs d=some z∧∀w,Den X.K F z w→Q w H2
section
variable {X:Cx} {o i e value a b:Expr} {pos pos' tpos:Pos} {td ty tv:TE} {ta tb:TD}
theorem B3:PE X (.Dict [] [] pos) Ge:=fun pins s σ H Q I h =>
 wpAny_Dict_empty ⟨.ref s.heap.objs.size,_,I.laid (a:=s.heap.objs.size) (o:=kr s.heap.objs.size 0 []) (t':=s.toks) (fun _ _ q=>KY _ q) (K0 _) (zZ s.heap I.big),rfl,h _ (I.hok.fresh (K0 _))⟩
theorem CW (hu:X.A.units + 64 < cLine) (ho:PE X o td) (hi:PE X i ty) (hv:PE X value tv) (hs:swapsWith value (some (.Subscript o i pos')) pos.line X.env=pure false) :
  PS X (.Assign [.Subscript o i pos'] value pos) (HB X td ty tv):=by
 intro pins s σ H D I h
 refine wpAny_Assign_Subscript (b9 (hv pins s σ H _ I h) fun r s1 ⟨v,H1,I1,rv,q1⟩=>b9 (ho pins s1 σ H1 _ I1 q1) fun u s2 ⟨x,H2,I2,rx,q2⟩=>b9 (hi pins s2 σ H2 _ I2 q2) fun iv s3 hq=>?_) hs
 obtain⟨y,H3,I3,ry,p,ep,F,kvs,us,vs,d,z,ex,fh,ok,d1,d2,e,hk,hd,dd,dz,hl,q3⟩:=hq
 subst ex
 obtain rfl:u=Value.ref p:=rx
 exact GF (by omega) I3 fh ok d1 d2 e hk hd dd ry dz rv hl fun ep' us' vs' s4 e1 e2 I4=>⟨σ,_,I4,q3 ep' us' vs' e1 e2⟩
theorem yP (hu:X.A.units + 64 < cLine) (ho:PE X a td) (hi:PE X b ty) (hs:DP b):PE X (.Subscript a b pos) (Hq X td ty):=by
 intro pins s σ H Q I h
 refine Dh PySem.F.slot_dict_getitem.lookup hs (b9 (ho pins s σ H _ I h) fun u s1 ⟨x,H1,I1,rx,q1⟩=>b9 (hi pins s1 σ H1 _ I1 q1) fun iv s2 hq=>?_)
 obtain⟨y,H2,I2,ry,p,ep,F,kvs,us,vs,d,z,ex,fh,ok,d1,d2,e,hk,hd,dd,hz,q2⟩:=hq
 subst ex
 obtain rfl:u=Value.ref p:=rx
 refine⟨?_,GA (by omega) I2 fh ok d1 d2 e hk hd dd ry hz fun w' u' s3 I3 dw rw'=>⟨w',H2,I3,rw',q2 w' dw⟩⟩
 obtain⟨_,_,es,dh,_⟩:=kW I2 e
 exact dh.typeIs
def ma (i:Nat):bH:=fun D env=>D.nx (env.set i (some (.dic [])))
theorem rN {x:Str} {pd:Pos} (i:Nat) (hN:X.N.Nodup) (hi:X.N[i]?=some x:=by rfl) (hx:Loc X.env.scope x:=by first | exact Or.inl rfl | exact Or.inr rfl) (hs:swapsWith (.Dict [] [] pd) (some (.Name x pos')) pos.line X.env=pure false:=by rfl)
  (hf:X.fn x=true∨X.env.scope.names.lookup x=some .local:=by first | exact .inl rfl | exact .inr rfl):QS X (.Assign [.Name x pos'] (.Dict [] [] pd) pos) (ma i):=by
 refine⟨fun B σ F H env D rp h pins s I=>?_⟩
 refine p5 (i:=i) hN hi hx B3 hs hf pins s σ H _ I fun p hp=>?_
 exact⟨F,_,rp.E1 hp (by rw [I.len];exact (KL.mp hi).1),h⟩
def bN (i:Nat) (tk tv:TD):bH:=fun Z env=>tv env fun v=>∃kvs,env[i]?=some (some (.dic kvs))∧tk env fun k=>a0 k=true∧dep k≤8∧dj kvs∧kvs.length < sizeLine∧Z.nx (env.set i (some (.dic (putN kvs k v))))
theorem cI {x:Str} {px p2:Pos} (i:Nat) (hu:X.A.units + 64 < cLine) (hb:QE X b tb) (he:QE X e ta) (hN:X.N[i]?=some x:=by rfl) (hv:rf X.env.scope x:=by first | exact Or.inl rfl | exact Or.inr (Or.inl rfl) | exact Or.inr (Or.inr rfl)) (hd:(x == ("__debug__" : Str))=false:=by decide)
  (hcd:(x == ("__classdict__" : Str))=false:=by decide) (hs:swapsWith e (some (.Subscript (.Name x px) b p2)) pos.line X.env=pure false:=by rfl):QS X (.Assign [.Subscript (.Name x px) b p2] e pos) (bN i tb ta):=by
 refine⟨fun B σ F H env Z rp h=>?_⟩
 refine eB (CW hu (cL hN hv hd hcd) bR bR hs) ?_
 refine aL (he B σ F H env _ rp h) fun y H1 hq0=>?_
 obtain⟨F1,d,r1,s1,d1,kvs,hx,q1⟩:=hq0
 obtain⟨p,ep,us,vs,g1,g2,g3,g4,g5,g6⟩:=r1.mv i kvs hx
 refine⟨.ref p,g1,?_⟩
 refine aL (hb B σ F1 H1 env _ r1 q1) fun z H2 hq0=>?_
 obtain⟨F2,d2,r2,s2,dd2,hk,hdp,ok,hl,q2⟩:=hq0
 obtain⟨p',ep',us',vs',e1,e2,e3,e4,e5,e6⟩:=r2.mv i kvs hx
 rw [g1] at e1;cases e1
 exact⟨p,ep',F2,kvs,us',vs',d2,d,rfl,r2.fh,ok,e5,e6,e2,hk,hdp,dd2,Den.mono s2 _ _ d1,hl,fun ep2 as bs f1 f2=>⟨F2,_,r2.zE ep2 hx g1 f1 f2,q2⟩⟩
def oA (i:Nat) (tk:TD):TD:=fun env Q=>∃kvs,env[i]?=some (some (.dic kvs))∧tk env fun k=>∃v,a0 k=true∧dep k≤8∧dj kvs∧i8 kvs k=some v∧Q v
theorem AN {x:Str} {px:Pos} (i:Nat) (hu:X.A.units + 64 < cLine) (hb:QE X b tb) (hs:DP b) (hN:X.N[i]?=some x:=by rfl) (hv:rf X.env.scope x:=by first | exact Or.inl rfl | exact Or.inr (Or.inl rfl) | exact Or.inr (Or.inr rfl)) (hd:(x == ("__debug__" : Str))=false:=by decide)
  (hcd:(x == ("__classdict__" : Str))=false:=by decide):QE X (.Subscript (.Name x px) b pos) (oA i tb):=by
 refine⟨fun B σ F H env Q rp h=>?_⟩
 refine bY (yP hu (cL hN hv hd hcd) bR hs) ?_
 obtain⟨kvs,hx,h⟩:=h
 obtain⟨p,ep,us,vs,g1,g2,g3,g4,g5,g6⟩:=rp.mv i kvs hx
 refine⟨.ref p,g1,?_⟩
 refine aL (hb B σ F H env _ rp h) fun z H2 hq0=>?_
 obtain⟨F2,d2,r2,s2,dd2,v,hk,hdp,ok,hl,q2⟩:=hq0
 obtain⟨p',ep',us',vs',e1,e2,e3,e4,e5,e6⟩:=r2.mv i kvs hx
 rw [g1] at e1;cases e1
 exact⟨p,ep',F2,kvs,us',vs',d2,v,rfl,r2.fh,ok,e5,e6,e2,hk,hdp,dd2,hl,fun w dw=>⟨F2,v,r2,s2,dw,q2⟩⟩
def Hn (x y:D) (Q:D→Prop):Prop:=∃kvs v,x=.obj (mr kvs)∧a0 y=true∧dep y≤8∧dj kvs∧i8 kvs y=some v∧Q v
theorem ug (hu:X.A.units + 64 < cLine) (ha:QE X a ta) (hb:QE X b tb) (hs:DP b):QE X (.Subscript a b pos) (aC Hn ta tb):=by
 refine⟨fun B σ F H env Q rp h=>bY (yP hu bR bR hs) ?_⟩
 refine aL (ha B σ F H env _ rp h) fun x H1 hq0=>?_
 obtain⟨F1,d,r1,s1,d1,q1⟩:=hq0
 refine aL (hb B σ F1 H1 env _ r1 q1) fun y H2 hq0=>?_
 obtain⟨F2,d',r2,s2,d2,kvs,v,e1,hk,hd,ok,hv,q⟩:=hq0
 subst e1
 have d1':=Den.mono s2 _ _ d1
 simp only [Den] at d1'
 obtain⟨p,rfl,hp⟩:=d1'
 obtain⟨ep,us,vs,hg,g1,g2⟩:=hp F2 (ar.refl _)
 exact⟨p,ep,F2,kvs,us,vs,d',v,rfl,r2.fh,ok,g1,g2,r2.fh _ _ hg,hk,hd,d2,hv,fun w dw=>⟨F2,v,r2,s1.trans s2,dw,q⟩⟩
def gu (i:Nat) (t:bH):bH:=fun D env=>∃xs,env[i]?=some (some (.dic xs))∧t D (env.set i (some (.d (.obj (mr xs)))))
theorem qa {st:Stmt} {t:bH} (i:Nat) (h:QS X st t):QS X st (gu i t):=by
 refine⟨fun B σ F H env D rp hq=>?_⟩
 obtain⟨xs,hx,q⟩:=hq
 obtain⟨F',s',r'⟩:=rp.zB hx
 exact h B σ F' H _ D r' q
end
end L2.L3
namespace L2.L3
open PySem PySem.Spec PyProof.Rows
section
variable {prog:Program} {w:World} {A:Around} {E:Value→Shared→Prop} {s:Shared}
theorem Cr {d:Addr} {es:Array DictEntry} {ep:Nat} {Q:Value→Shared→Prop} (hd:(d == sysModules)=false) (x:bI s.heap d es ep)
  (hQ:Q (.ref s.heap.objs.size) { s with heap:=s.heap.push { cls:=.type "dict_keyiterator",data:=.fields #[.ref d,.int 0 0,.int es.size 0,.int ep 0] } }) :
  wpAny (model prog w) A (pyIter (.ref d)) Q E s:=by
 have hT:s.TypeIs (.ref d) "dict":=x.typeIs
 obtain⟨o,ho,hc,hdat⟩:=x
 refine wpAny_pyIter_slot hT PySem.F.slot_dict_iter (wpAny_call_entry PySem.F.slot_dict_iter hT PySem.F.entry_dict_iter ?_ (PySem.F.args_dict_iter_1 _))
 unfold Builtin.«dict.__iter__»
 refine KJ ?_
 unfold Builtin.Dict.dictSlotNone
 refine KJ (wpAny_notOrdered_dict hT ?_)
 show wpAny _ _ (pure (Value.ref d)) _ _ s
 refine KO ?_
 show wpAny _ _ (Builtin.Dict.showsAll d >>= _) _ _ s
 unfold Builtin.Dict.showsAll
 rw [KQ (by rw [hd];exact Bool.false_ne_true)]
 refine KJ (KO ?_)
 refine KJ (wpAny_dictEntries ho hdat ?_)
 refine KJ (wpAny_dictEpoch ho hdat ?_)
 refine KJ (wpAny_newObj_type (KO ⟨_,rfl,"dict_keyiterator",_,⟨_,La _ rfl,rfl⟩,PySem.F.slot_dict_keyiterator_next.lookup,?_⟩))
 simpa [rawInt] using hQ
theorem Bq {it d:Addr} {i ep:Nat} {es:Array DictEntry} {Q:Option Value→Shared→Prop} (hit:s.heap.IsKeyIter it d i es.size ep) (x:bI s.heap d es ep) (hlt':i < es.size)
  (hQ:∀h',h'.IsKeyIter it d (i + 1) es.size ep→Heap.SameBut it s.heap h'→Q (some es[i].key) { s with heap:=h' }) :
  wpAny (model prog w) A (pyNext (.ref it)) Q E s:=by
 obtain⟨o,ho,hc,hd⟩:=id hit
 obtain⟨od,hod,hcd,hdd⟩:=id x
 unfold pyNext
 refine KJ (wpAny_attempt (wpAny_callSpecial?_slot (name:=Str.ofString "__next__") hit.typeIs PySem.F.slot_dict_keyiterator_next
  (wpAny_call_entry PySem.F.slot_dict_keyiterator_next hit.typeIs PySem.F.entry_dict_keyiterator_next ?_ (PySem.F.args_dict_keyiterator_next_1 _))))
 refine KJ (KO ?_)
 refine KJ ?_
 refine KJ ?_
 first | refine KJ (wpAny_typeNameOfWhole_keyiter hit.typeIs (KO ?_)) | refine KJ (wpAny_typeNameOf_keyiter hit.typeIs (KO ?_))
 refine KJ (wpAny_fieldsOf ho hd ?_)
 have hown:Builtin.Dict_items.ownsTuple "dict_keyiterator" = false:=by decide
 simp only [hown,KR,if_false]
 show wpAny _ _ (if (Value.ref d == Value.none)=true then _ else _) _ _ s
 rw [KQ (show ¬ ((Value.ref d == Value.none)=true) from Bool.false_ne_true)]
 refine KJ (KO ?_)
 refine KJ (wpAny_dictEntries hod hdd ?_)
 rw [KQ (by simp)]
 refine KJ (KO ?_)
 refine KJ (wpAny_dictEpoch hod hdd ?_)
 rw [KQ (by simp)]
 refine KO ?_
 simp only [show ¬ ((i:Int) < 0) from by omega,if_false,Int.toNat_natCast,Array.getElem?_eq_getElem hlt']
 refine KJ ?_
 first | refine KJ (wpAny_typeNameOfWhole_keyiter hit.typeIs (KO ?_)) | refine KJ (wpAny_typeNameOf_keyiter hit.typeIs (KO ?_))
 refine KJ (wpAny_isOneOf_keyiter hit.typeIs ?_)
 show wpAny _ _ (setField (.ref it) 1 (rawInt ((i:Int) + 1)) >>= _) _ _ s
 refine KJ (wpAny_setField ho hd (by simp) ?_)
 have hit':(s.heap.update it (Obj.mapFields (·.setIfInBounds 1 (rawInt ((i:Int) + 1))))).IsKeyIter it d (i + 1) es.size ep :=
  ⟨_,Heap.get?_update_self _ ho (Obj.isFreed_of_fields (Obj.data_mapFields hd _)),(Obj.cls_mapFields ..).trans hc,by rw [Obj.data_mapFields hd];simp [rawInt]⟩
 refine KJ (wpAny_holding ?_)
 refine KJ (wpAny_isOneOf_keyiter (s:={ s with heap:=s.heap.update it (Obj.mapFields (·.setIfInBounds 1 (rawInt ((i:Int) + 1)))) }) hit'.typeIs ?_)
 show wpAny _ _ (pure es[i].key) _ _ _
 exact KO (KO ⟨_,rfl,KO (hQ _ hit' (Heap.SameBut.update ..))⟩)
theorem D0 {it d:Addr} {i ep:Nat} {es:Array DictEntry} {Q:Option Value→Shared→Prop} (hh:A.handled=none) (hit:s.heap.IsKeyIter it d i es.size ep) (x:bI s.heap d es ep) (hge:es.size≤i)
  (hQ:∀h',Heap.ExtBut it s.heap h'→Q none { s with heap:=h' }):wpAny (model prog w) A (pyNext (.ref it)) Q E s:=by
 obtain⟨o,ho,hc,hd⟩:=id hit
 obtain⟨od,hod,hcd,hdd⟩:=id x
 unfold pyNext
 refine KJ (wpAny_attempt (wpAny_callSpecial?_slot (name:=Str.ofString "__next__") hit.typeIs PySem.F.slot_dict_keyiterator_next
  (wpAny_call_entry PySem.F.slot_dict_keyiterator_next hit.typeIs PySem.F.entry_dict_keyiterator_next ?_ (PySem.F.args_dict_keyiterator_next_1 _))))
 refine KJ (KO ?_)
 refine KJ ?_
 refine KJ ?_
 first | refine KJ (wpAny_typeNameOfWhole_keyiter hit.typeIs (KO ?_)) | refine KJ (wpAny_typeNameOf_keyiter hit.typeIs (KO ?_))
 refine KJ (wpAny_fieldsOf ho hd ?_)
 have hown:Builtin.Dict_items.ownsTuple "dict_keyiterator" = false:=by decide
 simp only [hown,KR,if_false]
 show wpAny _ _ (if (Value.ref d == Value.none)=true then _ else _) _ _ s
 rw [KQ (show ¬ ((Value.ref d == Value.none)=true) from Bool.false_ne_true)]
 refine KJ (KO ?_)
 refine KJ (wpAny_dictEntries hod hdd ?_)
 rw [KQ (by simp)]
 refine KJ (KO ?_)
 refine KJ (wpAny_dictEpoch hod hdd ?_)
 rw [KQ (by simp)]
 refine KO ?_
 simp only [show ¬ ((i:Int) < 0) from by omega,if_false,Int.toNat_natCast,Array.getElem?_eq_none hge]
 refine KJ ?_
 first | refine KJ (wpAny_typeNameOfWhole_keyiter hit.typeIs (KO ?_)) | refine KJ (wpAny_typeNameOf_keyiter hit.typeIs (KO ?_))
 show wpAny _ _ (setField (.ref it) 0 .none >>= _) _ _ s
 refine KJ (wpAny_setField ho hd (by simp) ?_)
 show wpAny _ _ (newExc (.type "StopIteration") [] >>= _) _ _ _
 refine KJ ?_
 simp only [newExc,newTuple]
 refine KJ (wpAny_newObj_type ?_ (by size_fits))
 refine KJ (m:=firstArgMember _ _) (wpAny_of_eq (a:=Value.none) (by first | rfl | (simp only [firstArgMember];rfl)) ?_)
 refine wpAny_newObj_type ?_ (by size_fits)
 simp only [raiseNew]
 refine KJ (wpAny_handled ?_)
 rw [show A.in1.handled=none from hh]
 refine KJ (KO (wpAny_throw ?_))
 refine KJ (wpAny_isInstance (T:="StopIteration") (b:=true) ⟨_,La _ rfl,rfl⟩ isSubtype_stop ?_)
 exact KO (hQ _ (((Heap.SameBut.update ..).extBut.push _).push _))
end
def Kk (p:Addr) (ep:Nat) (rows:List (Int×V×V)):It :=
 ⟨fun i H=>H p=some (kr p ep rows)∧i < rows.length,fun i H x H'=>H'=H∧∃row,rows[i]?=some row∧x=row.2.1,fun i H=>H p=some (kr p ep rows)∧rows.length≤i⟩
theorem Ck {P:Program} {w:World} {K:PySem.W.Frag} {tg:Expr} (p it:Addr) (ep:Nat) (rows:List (Int×V×V)):Turn P w K tg (Kk p ep rows) [it] it (fun i h=>h.IsKeyIter it p i rows.length ep) where
 mem:=by simp
 obj:=fun i h st b hb=>by
  have e:b=it:=by simpa using hb
  subst e
  obtain⟨o,e,c,d⟩:=st
  exact⟨o,e,fun v z=>by rw [d] at z;cases z⟩
 keep:=fun i h h' st k=>let ⟨o,e,c,d⟩:=st;⟨o,k it (by simp) o e,c,d⟩
 item:=by
  intro X hP hw hK hc i pins s σ H E I hf st hg
  subst hP hw hK
  obtain⟨e,hlt⟩:=hg
  obtain⟨hz,hs,es,dh,pr⟩:=kW I e
  have lp:rows.length=es.size:=by simpa using Paired.length pr
  have hlt':i < es.size:=by omega
  obtain⟨row,hr,e1,e2,e3⟩:=jJ pr (y:=es[i]) (i:=i) (by simp [hlt'])
  obtain⟨f0,f1,f2,f3,f4,f5⟩:=hf it (by simp)
  rw [lp] at st
  refine Bq st dh hlt' fun h' st' sb=>?_
  have I1:Inv X pins σ H { s with heap:=h' }:=I.turned (t':=s.toks) (fun b o hb e=>(sb.2 b hb).trans e) f0 f1 f3 f4 f5
  obtain⟨o,eo,c,d⟩:=id st'
  rw [← lp] at st'
  exact⟨_,rfl,vZ (s:={ s with heap:=h' }) eo c d (by decide) ⟨row.2.1,H,I1,e2,⟨rfl,row,hr,rfl⟩,st',fun b hb=>(hf b hb).1⟩⟩
 done:=by
  intro X hP hw hK hc i pins s σ H E I hf st hg
  subst hP hw hK
  obtain⟨e,hge⟩:=hg
  obtain⟨hz,hs,es,dh,pr⟩:=kW I e
  have lp:rows.length=es.size:=by simpa using Paired.length pr
  obtain⟨f0,f1,f2,f3,f4,f5⟩:=hf it (by simp)
  rw [lp] at st
  exact D0 (I.ok.hd hc) st dh (by omega) fun h' eb=>⟨rfl,I.turned (t':=s.toks) (fun b o hb e=>eb b o hb e) f0 f1 f3 f4 f5⟩
 self:=fun _ _ _ _ _ st h=>wpAny_pyIter_keyiter st h
def Jx (tl:TE):TI:=fun σ H R=>tl σ H fun x H1=>∃p ep rows,x=.ref p∧H1 p=some (kr p ep rows)∧R (Kk p ep rows) H1
section
variable {X:Cx} {tg:Expr}
theorem FX {l:Expr} {tl:TE} (hl:PE X l tl):PI X tg l (Jx tl):=by
 intro pins s σ H R I h
 refine b9 (hl pins s σ H _ I h) fun v s1 hq0=>?_
 obtain⟨x,H1,I1,r1,q1⟩:=hq0
 obtain⟨p,ep,rows,e,hp,q⟩:=q1
 subst e
 cases r1
 obtain⟨hz,hs,es,dh,pr⟩:=kW I1 hp
 have lp:rows.length=es.size:=by simpa using Paired.length pr
 refine Cr hs dh ?_
 refine⟨s1.heap.objs.size,[s1.heap.objs.size],_,_,H1,rfl,I1.kept (t':=s1.toks) fun b o e=>KY _ e,Ck p _ ep rows,⟨_,La _ rfl,rfl,by rw [lp];rfl⟩,fun b hb=>?_,q⟩
 have e:b=s1.heap.objs.size:=by simpa using hb
 subst e
 exact I1.y2 (K0 _) (I1.hok.fresh (K0 _))
end
section
variable {K:PySem.W.Frag} {B:Base} {F H:Hp} {σ:St} {e:En}
def Fy (x:Addr):PySem.W.Frag→Hp→Addr→Prop:=fun _ _ a=>a=x
theorem Bz {i:Nat} {a:Addr} (r:Rep K B F H σ e) (h:e[i]?=some (some (.d (.obj (Fy a))))):σ[i]?=some (some (.ref a)):=by
 obtain⟨v,h1,h2⟩:=r.dv i _ h
 simp only [Den] at h2
 obtain⟨b,rfl,h3⟩:=h2
 have:b=a:=h3 F (ar.refl _)
 rw [this] at h1;exact h1
theorem Rep.Bc (r:Rep K B F H σ e) {i:Nat} {kvs:List (D×D)} (h:e[i]?=some (some (.dic kvs))) :
  ∃p ep us vs,σ[i]?=some (some (.ref p))∧H p=some (kr p ep (b4 kvs us vs))∧B.H p=none∧aq K F (kvs.map (·.1)) us∧aq K F (kvs.map (·.2)) vs∧Rep K (B.guard p (kr p ep (b4 kvs us vs))) F H σ (e.set i (some (.d (.obj (Fy p))))):=by
 obtain⟨p,ep,us,vs,h1,h2,h3,h4,h5,h6⟩:=r.mv i kvs h
 have wl:i < e.length:=(KL.mp h).1
 refine⟨p,ep,us,vs,h1,h2,h4,h5,h6,r.f0,r.fh,fun b u q=>?_,fun a q=>?_,fun j y q=>?_,fun j y q=>?_,fun j k as bs q hjk q1 q2 q3 q4=>?_,fun j y q=>?_,fun j k as bs q hjk q1 q2 q3 q4=>?_⟩
 ·have q':upd B.H p (kr p ep (b4 kvs us vs)) b=some u:=q
  by_cases z:b=p
  ·subst z;rw [aI] at q';cases q';exact h2
  ·rw [aH z] at q';exact r.h0 _ _ q'
 ·rcases q with rfl | q
  ·exact h3
  ·exact r.nf a q
 ·by_cases z:i=j
  ·subst z
   rw [KW wl] at q
   cases q
   refine⟨_,h1,?_⟩
   simp only [Den]
   exact⟨p,rfl,fun _ _=>rfl⟩
  ·rw [KN z] at q
   exact r.dv j y q
 ·have z:=bb (fun _ w=>by cases w) q
  rw [KN z] at q
  obtain⟨p2,us2,g1,g2,g3,g4,g5⟩:=r.ov j y q
  have:p2≠p:=fun w=>by subst w;rw [h2] at g2;cases g2
  exact⟨p2,us2,g1,g2,g3,by show upd B.H p _ p2=none;rw [aH this];exact g4,g5⟩
 ·have z1:=bb (fun _ w=>by cases w) q1
  have z2:=bb (fun _ w=>by cases w) q2
  rw [KN z1] at q1
  rw [KN z2] at q2
  exact r.ne j k as bs q hjk q1 q2 q3 q4
 ·have z:i≠j:=aT (fun _ w=>by cases w) q
  rw [KN z] at q
  obtain⟨p2,ep2,as,bs,g1,g2,g3,g4,g5,g6⟩:=r.mv j y q
  have:p2≠p:=fun w=>by subst w;exact r.nm j i y kvs p2 (Ne.symm z) q h g1 h1
  exact⟨p2,ep2,as,bs,g1,g2,g3,by show upd B.H p _ p2=none;rw [aH this];exact g4,g5,g6⟩
 ·have z1:=aT (fun _ w=>by cases w) q1
  have z2:=aT (fun _ w=>by cases w) q2
  rw [KN z1] at q1
  rw [KN z2] at q2
  exact r.nm j k as bs q hjk q1 q2 q3 q4
theorem Rep.xu {p:Addr} {ep:Nat} {us vs:List V} {i:Nat} {kvs:List (D×D)} (r:Rep K (B.guard p (kr p ep (b4 kvs us vs))) F H σ e) (hb:B.H p=none) (h:e[i]?=some (some (.d (.obj (Fy p))))) (h5:aq K F (kvs.map (·.1)) us) (h6:aq K F (kvs.map (·.2)) vs) :
  Rep K B F H σ (e.set i (some (.dic kvs))):=by
 have wl:i < e.length:=(KL.mp h).1
 have hs:=Bz r h
 obtain⟨r',hp,hf⟩:=r.yh hb
 have oth:∀(j:Nat) (ys:List (D×D)),e[j]?=some (some (.dic ys))→σ[j]?≠some (some (.ref p)):=fun j ys q z=>by
  obtain⟨q1,_,_,_,h1,_,_,h4,_⟩:=r.mv j ys q
  rw [z] at h1;cases h1
  have h4':upd B.H p (kr p ep (b4 kvs us vs)) p=none:=h4
  rw [aI] at h4';cases h4'
 refine⟨r'.f0,r'.fh,r'.h0,r'.nf,fun j y q=>?_,fun j y q=>?_,fun j k as bs q hjk q1 q2 q3 q4=>?_,fun j y q=>?_,fun j k as bs q hjk q1 q2 q3 q4=>?_⟩
 ·have z:=pE (fun _ w=>by cases w) q
  rw [KN z] at q;exact r'.dv j y q
 ·have z:=bb (fun _ w=>by cases w) q
  rw [KN z] at q;exact r'.ov j y q
 ·have z1:=bb (fun _ w=>by cases w) q1
  have z2:=bb (fun _ w=>by cases w) q2
  rw [KN z1] at q1
  rw [KN z2] at q2
  exact r'.ne j k as bs q hjk q1 q2 q3 q4
 ·by_cases z:i=j
  ·subst z
   rw [KW wl] at q
   cases q
   exact⟨p,ep,us,vs,hs,hp,hf,hb,h5,h6⟩
  ·rw [KN z] at q;exact r'.mv j y q
 ·by_cases z1:i=j
  ·subst z1
   rw [KN hjk] at q2
   rw [hs] at q3;cases q3
   exact oth k bs q2 q4
  ·rw [KN z1] at q1
   by_cases z2:i=k
   ·subst z2
    rw [hs] at q4;cases q4
    exact oth j as q1 q3
   ·rw [KN z2] at q2
    exact r'.nm j k as bs q hjk q1 q2 q3 q4
end
end L2.L3
namespace L2.L3
open PySem PySem.Spec PyProof.Rows
section
variable {X:Cx} {a b:Expr} {ta tb:TD} {pos:Pos} {t:bH}
def tV (i:Nat) (g:ow) (t:bH):bH:=fun Z env=>∃kvs,env[i]?=some (some (.dic kvs))∧∀p,turns g t { Z with nx:=fun e=>e[i]?=some (some (.d (.obj (Fy p))))∧Z.nx (e.set i (some (.dic kvs))) } (kvs.map (·.1)) (env.set i (some (.d (.obj (Fy p)))))
theorem y8 {x:Str} {px:Pos} {tg:Expr} {body:List Stmt} {g:ow} (i:Nat) (hp:PassesOwn (model X.prog X.w) X.A X.env X.xe) (hc:X.calm=true) (hg:QG X tg g) (hb:nS X body t) (hN:X.N[i]?=some x:=by rfl) (hv:rf X.env.scope x:=by first | exact Or.inl rfl | exact Or.inr (Or.inl rfl) | exact Or.inr (Or.inr rfl)) (hd:(x == ("__debug__" : Str))=false:=by decide)
  (hcd:(x == ("__classdict__" : Str))=false:=by decide) (hs:∀z,foldedSetIterable (.Name x px) X.env z=pure z:=by intro _;rfl):QS X (.For tg (.Name x px) body [] pos) (tV i g t):=by
 refine⟨fun B σ F H env Z rp h=>eB (pA hp hc (FX (cL hN hv hd hcd)) vC eI hs) ?_⟩
 obtain⟨kvs,hx,h⟩:=h
 obtain⟨p,ep,us,vs,h1,h2,h4,h5,h6,r0⟩:=rp.Bc hx
 refine⟨.ref p,h1,p,ep,b4 kvs us vs,rfl,h2,?_⟩
 have q1:=h p
 generalize hB:B.guard p (kr p ep (b4 kvs us vs))=B' at r0
 generalize hD:({ Z with nx:=fun e=>e[i]?=some (some (.d (.obj (Fy p))))∧Z.nx (e.set i (some (.dic kvs))) }:Ends3)=Z' at q1
 have hBp:B'.H p=some (kr p ep (b4 kvs us vs)):=by rw [← hB];exact aI
 have fnx:∀σ2 H2,(RS X B' Z').nx σ2 H2→ar F F→(∃F' env',Rep X.K B' F' H2 σ2 env'∧ar F F'∧Z'.nx env')→(RS X B Z).nx σ2 H2:=by
  rintro σ2 H2 _ _ ⟨F',env',r',s',q'⟩
  rw [← hD] at q'
  rw [← hB] at r'
  exact⟨F',_,r'.xu h4 q'.1 (aq.mono s' _ _ h5) (aq.mono s' _ _ h6),q'.2⟩
 have frt:∀v H2,(RS X ⟨F,B'.H,B'.N,B'.nb⟩ Z').rt v H2→(RS X B Z).rt v H2:=by
  rintro v H2 ⟨F',d,r',hd',q'⟩
  have r2:=Rep.back (B:=B') r0.f0 r'
  rw [← hB] at r2
  rw [← hD] at q'
  exact⟨F',d,(r2.yh h4).1,hd',q'⟩
 have fin:∀σ2 H2,(∃F' env',Rep X.K ⟨F,B'.H,B'.N,B'.nb⟩ F' H2 σ2 env'∧Z'.nx env')→(RS X B Z).nx σ2 H2:=by
  rintro σ2 H2 ⟨F',env',r',q'⟩
  have r2:=Rep.back (B:=B') r0.f0 r'
  exact fnx σ2 H2 ⟨F',env',r2,q'⟩ (ar.refl _) ⟨F',env',r2,r'.f0,q'⟩
 have hl:(b4 kvs us vs).length=(kvs.map (·.1)).length:=by rw [d8 h5 h6,KZ]
 generalize hxs:kvs.map (·.1)=xs at q1 h5 hl
 refine⟨fun i m σ H=>m=xs.length - i∧i≤xs.length∧∃F2 env,Rep X.K ⟨F,B'.H,B'.N,B'.nb⟩ F2 H σ env∧turns g t Z' (xs.drop i) env,⟨xs.length,by simp,Lp _,F,_,r0.now,by simpa using q1⟩,?_⟩
 rintro j m σ2 H2 ⟨rfl,hi2,F2,env2,r2,q2⟩
 have hcell:H2 p=some (kr p ep (b4 kvs us vs)):=r2.h0 _ _ hBp
 by_cases hlt:j < xs.length
 ·have hxi:xs[j]?=some xs[j]:=by simp [hlt]
  rw [drop_cons hxi] at q2
  refine .inr ⟨⟨hcell,by omega⟩,fun σ' H'=>∃F3 env,Rep X.K ⟨F,B'.H,B'.N,B'.nb⟩ F3 H' σ' env∧turns g t Z' (xs.drop (j + 1)) env,fun σ' H' ⟨F',env',r',q'⟩=>⟨xs.length - (j + 1),by omega,rfl,by omega,F',env',r',q'⟩,fun z H' hz=>?_⟩
  obtain⟨rfl,row,hr,rfl⟩:=hz
  obtain⟨kv,k1,k2,k3,k4⟩:=jG hr
  obtain⟨v,hv',dv'⟩:=h5.get hxi
  rw [k3] at hv';cases hv'
  refine gA (hg _ σ2 F2 _ env2 _ _ _ r2 (Den.mono r2.f0 _ _ dv') q2) fun σ3 H3 hq0=>?_
  obtain⟨F3,env3,r3,s3,q3⟩:=hq0
  exact gj (hb _ σ3 F3 H3 env3 _ r3 q3) (fun _ _ q=>q) (fun v H q=>frt v H q) (fun v H q=>fin v H q) (fun _ _ q=>q)
 ·have e:j=xs.length:=by omega
  subst e
  rw [Ly (K0 _)] at q2
  exact .inl ⟨⟨hcell,by omega⟩,fin _ _ ⟨F2,env2,r2,q2⟩⟩
def Je (neg:Bool) (y x:D) (Q:D→Prop):Prop:=∃kvs,x=.obj (mr kvs)∧a0 y=true∧dep y≤8∧dj kvs∧Q (.bl (if neg then !(kvs.any fun kv=>a5 kv.1 y) else kvs.any fun kv=>a5 kv.1 y))
def Ig (X:Cx) (neg:Bool):R2:=fun y x H Q=>∃p ep F kvs us vs d,x=.ref p∧ar F H∧dj kvs∧aq X.K F (kvs.map (·.1)) us∧aq X.K F (kvs.map (·.2)) vs∧H p=some (kr p ep (b4 kvs us vs)) ∧
 a0 d=true∧dep d≤8∧Den X.K F d y∧Q (.bl (if neg then !(kvs.any fun kv=>a5 kv.1 d) else kvs.any fun kv=>a5 kv.1 d)) H
theorem CO (hu:X.A.units + 64 < cLine):iX X (compareOp .NotIn) (Ig X true):=by
 intro pins s σ H x y v u Q I rx ry h
 obtain⟨p,ep,F,kvs,us,vs,d,rfl,fh,ok,d1,d2,e,hk,hd,dd,h⟩:=h
 cases ry
 show wpAny _ _ ((do return Value.bool (!(← contains (.ref p) v))):Sem Value) _ _ s
 exact KJ (HP (by omega) I fh ok d1 d2 e hk hd dd rx fun s' I'=>KO ⟨.bl _,H,I',rfl,h⟩)
theorem GH (neg:Bool):u7 X (Ig X neg) (Je neg):=by
 intro B σ F H env Q d d' x y Z rp h1 h2 hz hf
 obtain⟨kvs,rfl,hk,hd,ok,q⟩:=hf
 simp only [Den] at h2
 obtain⟨p,rfl,hp⟩:=h2
 obtain⟨ep,us,vs,hg,g1,g2⟩:=hp F (ar.refl _)
 exact⟨p,ep,F,kvs,us,vs,d,rfl,rp.fh,ok,g1,g2,rp.fh _ _ hg,hk,hd,h1,hz _ H F _ rp (ar.refl _) hG q⟩
theorem Gx (hu:X.A.units + 64 < cLine) (ha:QE X a ta) (hb:QE X b tb) (hm:behindInMarks .NotIn b=false:=by rfl):QT X (.Compare a [.NotIn] [b] pos) (aK (aC (Je true) ta tb)):=gc (CO hu) (GH true) ha hb hm
end
theorem dj.nil:dj []:=⟨fun _ h=>absurd h Lm,fun i j x y h=>by simp at h⟩
theorem DL {a b:D} (ha:a0 a=true) (hb:a0 b=true):a5 a b=true↔a=b:=⟨fun h=>c6 a b ha h hb,fun h=>h▸fX a ha⟩
theorem dj.put {kvs:List (D×D)} {k v:D} (h:dj kvs) (hk:a0 k=true) (hd:dep k≤8):dj (putN kvs k v):=by
 unfold putN
 by_cases c:(kvs.any fun kv=>a5 kv.1 k)=true
 ·rw [KS c]
  refine⟨fun kv m=>?_,fun i j x y hx hy e=>?_⟩
  ·obtain⟨kw,m',rfl⟩:=Ls.mp m
   split
   ·exact h.key kw m'
   ·exact h.key kw m'
  ·rw [KU] at hx hy
   obtain⟨x',hx',rfl⟩:=Lz.mp hx
   obtain⟨y',hy',rfl⟩:=Lz.mp hy
   refine h.dif i j x' y' hx' hy' ?_
   split at e <;> split at e <;> exact e
 ·rw [KQ c]
  have no:∀(i:Nat) (x:D×D),kvs[i]?=some x→x.1≠k:=fun i x hx e=>c (List.any_eq_true.mpr ⟨x,K6 hx,by rw [e];exact fX k hk⟩)
  refine⟨fun kv m=>?_,fun i j x y hx hy e=>?_⟩
  ·rcases Lf.mp m with m | m
   ·exact h.key kv m
   ·rw [Le] at m;subst m;exact⟨hk,hd⟩
  ·have at_:∀(i:Nat) (x:D×D),(kvs ++ [(k,v)])[i]?=some x→kvs[i]?=some x∨(i=kvs.length∧x.1=k):=fun i x hx=>by
    by_cases l:i < kvs.length
    ·rw [Lb l] at hx;exact .inl hx
    ·have:=(KL.mp hx).1
     have e:i=kvs.length:=by simp at this;omega
     subst e
     rw [Lc (K0 _),Nat.sub_self] at hx
     cases hx
     exact .inr ⟨rfl,rfl⟩
   rcases at_ i x hx with a | ⟨a,a'⟩ <;> rcases at_ j y hy with b | ⟨b,b'⟩
   ·exact h.dif i j x y a b e
   ·exact absurd (e.trans b') (no i x a)
   ·exact absurd (e.symm.trans a') (no j y b)
   ·omega
theorem Br {kvs:List (D×D)} {k k' v:D} (h:dj kvs) (hk:a0 k=true) (hk':a0 k'=true):i8 (putN kvs k v) k'=if a5 k k'=true then some v else i8 kvs k':=by
 have find:∀(l:List (D×D)),(∀kv∈l,a0 kv.1=true)→i8 (l.map (fun kv=>if a5 kv.1 k=true then (kv.1,v) else kv)) k'=if a5 k k'=true∧(l.any fun kv=>a5 kv.1 k)=true then some v else i8 l k':=fun l=>by
  induction l with
  | nil=>intro _;simp [i8]
  | cons x r ih =>
   intro hl
   have ih':=ih fun kv m=>hl kv (K4 _ m)
   have hx:=hl x (K9 ..)
   unfold i8 at ih' ⊢
   rw [Ll,List.find?_cons,List.find?_cons]
   by_cases c1:a5 x.1 k=true
   ·rw [KS c1]
    have e:=c6 _ _ hx c1 hk
    by_cases c2:a5 x.1 k'=true
    ·simp only [c2,Option.map_some]
     rw [KS ⟨e▸c2,by rw [List.any_cons,c1];rfl⟩]
    ·have c3:¬ a5 k k'=true:=fun q=>c2 (e▸q)
     simp only [c2]
     rw [ih',KQ (fun q=>c3 q.1),KQ (fun q=>c3 q.1)]
   ·rw [KQ c1]
    by_cases c2:a5 x.1 k'=true
    ·have c3:¬ a5 k k'=true:=fun q=>c1 (by
      have e1:=c6 _ _ hx c2 hk'
      have e2:=c6 _ _ hk q hk'
      rw [e1,← e2];exact fX k hk)
     simp only [c2,Option.map_some]
     rw [KQ (fun q=>c3 q.1)]
    ·simp only [c2]
     rw [ih',List.any_cons]
     have:a5 x.1 k=false:=by simpa using c1
     rw [this,Bool.false_or]
 unfold putN
 by_cases c:(kvs.any fun kv=>a5 kv.1 k)=true
 ·rw [KS c,find kvs fun kv m=>(h.key kv m).1]
  simp only [c,and_true]
 ·rw [KQ c]
  unfold i8
  rw [List.find?_append]
  by_cases c2:a5 k k'=true
  ·rw [KS c2]
   have none:kvs.find? (fun kv=>a5 kv.1 k')=none:=by
    rw [List.find?_eq_none]
    intro kv m q
    refine c (List.any_eq_true.mpr ⟨kv,m,?_⟩)
    have e1:=c6 _ _ (h.key kv m).1 q hk'
    have e2:=c6 _ _ hk c2 hk'
    rw [e1,← e2];exact fX k hk
   rw [none]
   simp [c2]
  ·rw [KQ c2]
   cases kvs.find? (fun kv=>a5 kv.1 k') with
   | some z=>rfl
   | none=>simp [c2]
theorem Bl {kvs:List (D×D)} {k:D}:(kvs.any fun kv=>a5 kv.1 k)=(i8 kvs k).isSome:=by
 unfold i8
 rw [Option.isSome_map,Bool.eq_iff_iff,List.find?_isSome,List.any_eq_true]
theorem di {kvs:List (D×D)} {k v:D}:(putN kvs k v).length≤kvs.length + 1:=by
 unfold putN
 split
 ·simp
 ·simp
end L2.L3
namespace L2.L3
open PySem PySem.Spec PyProof.Rows
section
variable {X:Cx} {a e o:Expr} {ta te to:TD} {pos apos cpos:Pos}
def J7 (X:Cx) (neg:Bool):R2:=fun x y H Q=>∃(F:Hp) (d:D) (ds:List D) (vs:List V) (p:Addr),ar F H∧Den X.K F d x∧y=.ref p∧d9 X.K H p vs∧aq X.K F ds vs∧X.A.units + 64 < cLine∧bE ds≤60∧dep d≤60∧Q (.bl (if neg then !ds.any (fun e=>a5 e d) else ds.any fun e=>a5 e d)) H
theorem Du:iX X (compareOp .NotIn) (J7 X true):=by
 intro pins s σ H x y v u Q I rx ry h
 obtain⟨F,d,ds,vs,p,fh,dx,rfl,hq,dl,hu,h1,h2,q⟩:=h
 cases ry
 obtain⟨its,r,pl,hz⟩:=I.list hq
 refine SeqAt.notIn_listAt (fy its ds d) pl.isList (fun w hw=>jr I fh hu h1 h2 dl r dx rx w (by simpa using hw)) ⟨.bl _,H,I,rfl,?_⟩
 rw [show its.toArray.any (fy its ds d)=its.any (fy its ds d) by simp,any_map',gp I fh (by omega) dl r,← any_map']
 exact q
def xU (neg:Bool) (i:Nat) (ta:TD):TB:=fun env Q=>ta env fun x=>∃xs,env[i]?=some (some (.own xs))∧bE xs≤60∧dep x≤60∧Q (if neg then !xs.any (fun e=>a5 e x) else xs.any fun e=>a5 e x)
theorem A9 {x:Str} {px:Pos} (i:Nat) (hu:X.A.units + 64 < cLine) (ha:QE X a ta) (hN:X.N[i]?=some x:=by rfl) (hv:rf X.env.scope x:=by first | exact Or.inl rfl | exact Or.inr (Or.inl rfl) | exact Or.inr (Or.inr rfl)) (hd:(x == ("__debug__" : Str))=false:=by decide)
  (hcd:(x == ("__classdict__" : Str))=false:=by decide) (hm:behindInMarks .NotIn (.Name x px)=false:=by rfl):QT X (.Compare a [.NotIn] [.Name x px] pos) (xU true i ta):=by
 refine⟨fun B σ F H env Q rp h=>rR (oK Du bR (cL hN hv hd hcd) hm) ?_⟩
 refine aL (ha B σ F H env _ rp h) fun y H1 hq0=>?_
 obtain⟨F1,d,r1,s1,d1,xs,hx,l1,l2,q1⟩:=hq0
 obtain⟨p,vs,g1,g2,g3,g4,g5⟩:=r1.ov i xs hx
 exact⟨.ref p,g1,F1,d,xs,vs,p,r1.fh,d1,rfl,d9.of g2,g5,hu,l1,l2,_,rfl,F1,r1,s1,q1⟩
def mD (i:Nat) (te:TD):TD:=fun env Q=>∃ds,env[i]?=some (some (.own ds))∧bE ds≤60∧te env fun y=>dep y≤60∧Q (.int (ds.countP fun d=>a5 d y))
theorem wQ {x:Str} {px:Pos} (i:Nat) (hu:X.A.units + 64 < cLine) (he:QE X e te) (m:M1 X (.Name x px) "count" apos e cpos:=by exact⟨rfl,rfl,rfl,rfl⟩) (hN:X.N[i]?=some x:=by rfl) (hv:rf X.env.scope x:=by first | exact Or.inl rfl | exact Or.inr (Or.inl rfl) | exact Or.inr (Or.inr rfl)) (hd:(x == ("__debug__" : Str))=false:=by decide)
  (hcd:(x == ("__classdict__" : Str))=false:=by decide):QE X (.Call (.Attribute (.Name x px) "count" apos) [e] [] cpos) (mD i te):=by
 refine⟨fun B σ F H env Q rp h pins s I=>?_⟩
 obtain⟨ds,hx,hds,q0⟩:=h
 obtain⟨p,vs0,h1,h2,h3,h4,h5⟩:=rp.ov i ds hx
 refine wpAny_Call_method m.base m.few m.line PySem.F.plainAttrs_list PySem.F.slot_list_count PySem.F.type_list_count (b9 (cL hN hv hd hcd pins s σ H (fun v H'=>v=.ref p∧H'=H) I ⟨.ref p,h1,rfl,rfl⟩) fun u s1 hq0=>?_)
 obtain⟨x',H1,I1,rx,ex,eH⟩:=hq0
 subst ex eH
 cases rx
 obtain⟨its0,_,⟨o0,n0,g0,c0,nd0,_⟩,_⟩:=I1.list (d9.of h2)
 refine⟨⟨o0,g0,c0⟩,fun b eb=>by cases eb;exact⟨o0,g0,nd0⟩,?_⟩
 rw [m.trees]
 refine Calls.callWith_builtin rfl (Calls.evalArgs_plain (LK (b9 (he B σ F H1 env _ rp q0 pins s1 I1) fun iv s2 ⟨y,H2,I2,ry,F2,d',r2,z2,d2,hy,q2⟩=>Calls.spliced_nil ?_)))
 obtain⟨p',vs,e1,e2,e3,e4,e5⟩:=r2.ov i ds hx
 rw [h1] at e1;cases e1
 obtain⟨its,rv,⟨⟨oc,od,odt,osl⟩,n,g,c,nd,dd⟩,hz⟩:=I2.list (d9.of e2)
 replace c:oc=.type "list":=c
 replace dd:odt=.seq its.toArray n:=dd
 subst c dd
 refine call_meets PySem.F.slot_list_count ⟨_,g,rfl⟩ PySem.F.entry_list_count (PySem.F.args_list_count_2 _ _) (SeqAt.list_countAt p its.toArray n od osl iv (fy its ds d')) ⟨g,fun w hw=>mX I2 r2.fh _ (by simp only [units_in1];omega) hds hy e5 rv d2 ry w (by simpa using hw),?_⟩
 refine⟨.int _,H2,I2.tok _,⟨_,rfl⟩,F2,_,r2,z2,?_,q2⟩
 rw [show its.toArray.toList.countP (fy its ds d')=ds.countP fun d=>a5 d d' by
  rw [show its.toArray.toList=its by simp,gS,gp I2 r2.fh (by omega) e5 rv,← gS]]
 exact bC
def kF (to te:TD):TD:=fun env Q=>to env fun x=>∃ds,x=.lst ds∧bE ds≤60∧te env fun y=>dep y≤60∧∃j:Nat,(ds[j]?.map fun d=>a5 d y)=some true∧(∀m,m < j→(ds[m]?.map fun d=>a5 d y)=some false)∧Q (.int j)
theorem sr (hu:X.A.units + 64 < cLine) (ho:QE X o to) (he:QE X e te) (m:M1 X o "index" apos e cpos:=by exact⟨rfl,rfl,rfl,rfl⟩):QE X (.Call (.Attribute o "index" apos) [e] [] cpos) (kF to te):=by
 refine⟨fun B σ F H env Q rp h pins s I=>?_⟩
 refine wpAny_Call_method m.base m.few m.line PySem.F.plainAttrs_list PySem.F.slot_list_index PySem.F.type_list_index (b9 (ho B σ F H env _ rp h pins s I) fun u s1 hq0=>?_)
 obtain⟨x,H1,I1,rx,F1,d,r1,z1,d1,ds,e1,hds,q1⟩:=hq0
 subst e1
 simp only [Den] at d1
 obtain⟨p,vs,rfl,hq,dl⟩:=d1
 cases rx
 obtain⟨its0,_,⟨o0,n0,g0,c0,nd0,_⟩,_⟩:=I1.list (r1.fh.seq hq)
 refine⟨⟨o0,g0,c0⟩,fun b eb=>by cases eb;exact⟨o0,g0,nd0⟩,?_⟩
 rw [m.trees]
 refine Calls.callWith_builtin rfl (Calls.evalArgs_plain (LK (b9 (he B σ F1 H1 env _ r1 q1 pins s1 I1) fun iv s2 ⟨y,H2,I2,ry,F2,d',r2,z2,d2,hy,j,hj,hno,q2⟩=>Calls.spliced_nil ?_)))
 have hq2:=z2.seq hq
 have dl2:=aq.mono z2 _ _ dl
 obtain⟨its,rv,⟨⟨oc,od,odt,osl⟩,n,g,c,nd,dd⟩,hz⟩:=I2.list (r2.fh.seq hq2)
 replace c:oc=.type "list":=c
 replace dd:odt=.seq its.toArray n:=dd
 subst c dd
 have l1:=dl2.length
 have l2:=rv.length
 have at_:∀(k:Nat) (b:Bool),(ds[k]?.map fun d=>a5 d d')=some b→∃hk:k < its.length,fy its ds d' its[k]=b:=fun k b hb=>by
  obtain⟨w,hw,rfl⟩:=Lz.mp hb
  have hk:k < its.length:=by have:=(KL.mp hw).1;omega
  exact⟨hk,oN I2 r2.fh (by omega) dl2 rv hw (KP hk)⟩
 obtain⟨hjl,hit⟩:=at_ j true hj
 have hsz:(j:Int) < 2 ^ 63 - 1:=by
  have:j < sizeLine:=by omega
  rw [PySem.sizeLine_eq] at this;omega
 refine call_meets PySem.F.slot_list_index ⟨_,g,rfl⟩ PySem.F.entry_list_index (PySem.F.args_list_index_2 _ _) (SeqAt.list_indexAt p its.toArray n od osl iv (fy its ds d') j (by simpa using hjl) hsz (by simpa using hit) (fun k hk hkj=>by
  obtain⟨hkl,z⟩:=at_ k false (hno k hkj)
  simpa using z)) ⟨g,fun w hw=>mX I2 r2.fh _ (by simp only [units_in1];omega) hds hy dl2 rv d2 ry w (by simpa using hw),?_⟩
 exact⟨.int _,H2,I2.tok _,⟨_,rfl⟩,F2,_,r2,z1.trans z2,bC,q2⟩
end
end L2.L3
namespace L2.L3
open PySem PySem.Spec PyProof.Rows
end L2.L3
namespace L2.L3
open PySem PySem.Spec PyProof.Rows
section
variable {P:Program} {w:World} {K:PySem.W.Frag} {mg:Str→Option Value} {base:Heap}
end
end L2.L3
namespace L2.L3
open PySem PySem.Spec PyProof.Rows
def Jz (f:Fw) (i:Int):Fw:=fun ds Q=>f (ds ++ [.int i]) Q
structure qe (P:Program) (w:World) (K:PySem.W.Frag) (mg:Str→Option Value) (base:Heap) (k:Nat) (x:Str) (f:Fw) (i:Int):Prop where
 ex:∃(fa:Addr) (fd:FuncData) (ps:List Str) (t:Tok),mP P w K mg base r9 k fa fd ps (C3 K f)∧mg x=some (.ref fa)∧PySem.W.keepIn K (.ref fa)=true∧Binds K fd ps [.int i t]
section
variable {X:Cx} {e:Expr} {es:List Expr} {ts:fF} {p pos:Pos} {x:Str} {k:Nat} {f:Fw} {i:Int}
theorem Ee (h:qe X.prog X.w X.K X.mg X.base k x f i) (hr:dg k X.A) (ha:QA X (e :: es) ts) (hg:Gl X x:=by rfl) (hdb:(x == ("__debug__" : Str))=false:=by decide)
  (he:starEach (e :: es) X.env=(false,eval e X.env) :: starEach es X.env:=by exact a6 rfl) (hpl:(backTo pos (starEach es X.env)).any (·.1)=false:=by rfl):QE X (.Call (.Name x p) (e :: es) [] pos) (aB (Jz f i) ts):=by
 refine⟨?_⟩
 intro B σ F H env Q rp hq
 obtain⟨fa,fd,ps,t,G,hm,hk,hb⟩:=h.ex
 refine bY (yW G hr hg hm hk hb (dvs:=[.int i]) (.cons ⟨_,rfl⟩ .nil) As i9 hdb he hpl) ?_
 refine ck (ha B σ F H env _ rp hq) fun vs H1 hq0=>?_
 obtain⟨F1,ds,r1,s1,d1,hf⟩:=hq0
 exact⟨F1,ds ++ [D.int i],Q,r1.fh,d1.append (aX (d:=.int i) (by simp only [Den]) aW),hf,fun d v F' H' a b c n hd q=>⟨F',d,r1.ext a c b n,s1.trans a,hd,q⟩⟩
end
structure tO (K:PySem.W.Frag) (x qual:Str) (st:Stmt) (f:Addr) (fd:FuncData):Prop where
 ex:∃(oc:Value) (od:Option Addr) (dV kV doc pm:Value) (an:Option Addr) (cdv ct:Value) (osl:Array (Option Value)),
  fd=PySem.W.fnOf x qual (dC st) (a9 st) (ak st) dV kV doc pm an cdv ct∧K.lookup f=some ⟨oc,od,.func fd,osl⟩∧PySem.W.codeIn K cdv qual=true
 kp:PySem.W.keepIn K (.ref f)=true
section
variable {P:Program} {w:World} {K:PySem.W.Frag} {mg:Str→Option Value} {base:Heap}
theorem Dk {x qual:Str} {st:Stmt} {f:Addr} {oc:Value} {od an:Option Addr} {osl:Array (Option Value)} {dV kV doc pm cdv ct:Value} (l:K.lookup f=some ⟨oc,od,.func (PySem.W.fnOf x qual (dC st) (a9 st) (ak st) dV kV doc pm an cdv ct),osl⟩)
  (c:PySem.W.codeIn K cdv qual=true) (k:PySem.W.keepIn K (.ref f)=true):tO K x qual st f (PySem.W.fnOf x qual (dC st) (a9 st) (ak st) dV kV doc pm an cdv ct):=⟨⟨oc,od,dV,kV,doc,pm,an,cdv,ct,osl,rfl,l,c⟩,k⟩
theorem tO.DR {x qual:Str} {st:Stmt} {fa:Addr} {fd:FuncData} {N ps:List Str} {k:Nat} {f:Fw} (F:tO K x qual st fa fd) (S:aD N ps (ak st))
  (hl:∀ds Q,f ds Q→ds.length=ps.length)
  (hbody:∀(cdv:Value) (A:Around) (outer:List Env) (s:Shared) (H:Hp) (E:XK),dg k (A.deeper (envOfC qual (ak st) s.heap.objs.size fa cdv)) →
   ∃t,nS (gw r9 P w K mg base N qual (ak st) fa cdv A outer s H E).oO (a9 st) t∧∀ds (Q:D→Prop),f ds Q→t { nx:=fun _=>Q .non,rt:=Q } (aE N ds)) :
  mP P w K mg base r9 (k + 1) fa fd ps (C3 K f):=by
 obtain⟨oc,od,dV,kV,doc,pm,an,cdv,ct,osl,rfl,lk,hcd⟩:=F.ex
 refine yg lk hcd S (fun vs H Q E h=>?_) fun A outer s H vs Q E hr h=>?_
 ·obtain⟨F0,ds,P,_,hd,hf,_⟩:=h
  rw [← hd.length];exact hl ds _ hf
 ·obtain⟨F0,ds,P,fh,hd,hf,kk⟩:=h
  obtain⟨t,ht,hq⟩:=hbody cdv A outer s H E hr
  refine⟨_,uz.oO eI,?_⟩
  have core:=ht _ (start N vs) F0 H (aE N ds) _ (gf fh hd) (hq ds P hf)
  refine gj core (fun σ' H' ⟨F',env',r,q⟩=>?_) (fun v H' ⟨F',d',r,dd,q⟩=>?_) (fun _ _ ⟨_,_,_,q⟩=>q) (fun _ _ ⟨_,_,_,q⟩=>q)
  ·exact kk .non .non F' H' r.f0 r.h0 r.fh (fun p h1 h2=>r.nf p ⟨h1,h2⟩) jR q
  ·exact kk d' v F' H' r.f0 r.h0 r.fh (fun p h1 h2=>r.nf p ⟨h1,h2⟩) dd q
theorem tO.known {x qual:Str} {st:Stmt} {fa:Addr} {fd:FuncData} {N ps:List Str} {k:Nat} {f:Fw} {i:Int} {t:Tok} (F:tO K x qual st fa fd) (S:aD N ps (ak st)) (hmg:mg x=some (.ref fa)) (hb:Binds K fd ps [.int i t])
  (hl:∀ds Q,f ds Q→ds.length=ps.length)
  (hbody:∀(cdv:Value) (A:Around) (outer:List Env) (s:Shared) (H:Hp) (E:XK),dg k (A.deeper (envOfC qual (ak st) s.heap.objs.size fa cdv)) →
   ∃t,nS (gw r9 P w K mg base N qual (ak st) fa cdv A outer s H E).oO (a9 st) t∧∀ds (Q:D→Prop),f ds Q→t { nx:=fun _=>Q .non,rt:=Q } (aE N ds)) :
  qe P w K mg base (k + 1) x f i:=⟨fa,fd,ps,t,tO.DR F S hl hbody,hmg,F.kp,hb⟩
end
end L2.L3
namespace L2.L3
open PySem PySem.Spec PyProof.Rows
section
variable {X:Cx} {a e o:Expr} {ta te to:TD} {pos apos cpos:Pos}
def sC (to te:TD):TD:=fun env Q=>to env fun x=>∃ds,x=.lst ds∧bE ds≤60∧te env fun y=>dep y≤60∧Q (.int (ds.countP fun d=>a5 d y))
theorem Bu (hu:X.A.units + 64 < cLine) (ho:QE X o to) (he:QE X e te) (m:M1 X o "count" apos e cpos:=by exact⟨rfl,rfl,rfl,rfl⟩):QE X (.Call (.Attribute o "count" apos) [e] [] cpos) (sC to te):=by
 refine⟨fun B σ F H env Q rp h pins s I=>?_⟩
 refine wpAny_Call_method m.base m.few m.line PySem.F.plainAttrs_list PySem.F.slot_list_count PySem.F.type_list_count (b9 (ho B σ F H env _ rp h pins s I) fun u s1 hq0=>?_)
 obtain⟨x,H1,I1,rx,F1,d,r1,z1,d1,ds,e1,hds,q1⟩:=hq0
 subst e1
 simp only [Den] at d1
 obtain⟨p,vs,rfl,hq,dl⟩:=d1
 cases rx
 obtain⟨its0,_,⟨o0,n0,g0,c0,nd0,_⟩,_⟩:=I1.list (r1.fh.seq hq)
 refine⟨⟨o0,g0,c0⟩,fun b eb=>by cases eb;exact⟨o0,g0,nd0⟩,?_⟩
 rw [m.trees]
 refine Calls.callWith_builtin rfl (Calls.evalArgs_plain (LK (b9 (he B σ F1 H1 env _ r1 q1 pins s1 I1) fun iv s2 ⟨y,H2,I2,ry,F2,d',r2,z2,d2,hy,q2⟩=>Calls.spliced_nil ?_)))
 have hq2:=z2.seq hq
 have dl2:=aq.mono z2 _ _ dl
 obtain⟨its,rv,⟨⟨oc,od,odt,osl⟩,n,g,c,nd,dd⟩,hz⟩:=I2.list (r2.fh.seq hq2)
 replace c:oc=.type "list":=c
 replace dd:odt=.seq its.toArray n:=dd
 subst c dd
 refine call_meets PySem.F.slot_list_count ⟨_,g,rfl⟩ PySem.F.entry_list_count (PySem.F.args_list_count_2 _ _) (SeqAt.list_countAt p its.toArray n od osl iv (fy its ds d')) ⟨g,fun w hw=>mX I2 r2.fh _ (by simp only [units_in1];omega) hds hy dl2 rv d2 ry w (by simpa using hw),?_⟩
 refine⟨.int _,H2,I2.tok _,⟨_,rfl⟩,F2,_,r2,z1.trans z2,?_,q2⟩
 rw [show its.toArray.toList.countP (fy its ds d')=ds.countP fun d=>a5 d d' by
  rw [show its.toArray.toList=its by simp,gS,gp I2 r2.fh (by omega) dl2 rv,← gS]]
 exact bC
end
end L2.L3
namespace L2.L3
open PySem PySem.Spec PyProof.Rows
structure BK (K:PySem.W.Frag) (C S:Addr):Prop where
 ty:PySem.W.typeIn K (.ref S)=some (.type "type")
 dct:PySem.W.hasDictIn K S=true
 be:PySem.W.subIn K (.ref S) (.type "BaseException")=some true
 sub:PySem.W.subIn K (.ref C) (.ref S)=some true
theorem qr {K:PySem.W.Frag}:PySem.W.subIn K (.type "type") (.type "tuple")=some false:=by
 show Option.map (fun x=>x.contains (Value.type "tuple")) (fastBuiltinMro "type")=some false
 decide +kernel
theorem Cu {M:Model} {A:Around} {E:Value→Shared→Prop} {K:PySem.W.Frag} {h:Heap} {g:Array GenState} {d:Drawn} {t:Nat} {os:OsState} {e C S:Addr} {Q:Bool→Shared→Prop} (X:K.In h) (O:BK K C S)
  (ht:PySem.W.Looks M h (typeOf (.ref e)) (.ref C)) (hq:Q true ⟨h,g,d,t,os⟩):wpAny M A (excMatches (.ref e) (.ref S)) Q E ⟨h,g,d,t,os⟩:=by
 have L1:PySem.W.Looks M h (isInstance (.ref S) (.type "tuple")) false:=(PySem.W.looks_typeIn X O.ty).andThen (PySem.W.looks_subIn X qr)
 have L2:=PySem.W.looks_subIn (M:=M) X O.be
 have L3:=PySem.W.looks_subIn (M:=M) X O.sub
 obtain⟨c,dd,cd,sl,lk⟩:=sq O.dct
 have hS:=X _ _ lk
 have LT:PySem.W.Looks M h (isType (.ref S)) true:=fun A Q E s keep q=>KJ (wpAny_loadPart (keep _ _ hS) (KO q))
 have LE:PySem.W.Looks M h (isExcClass (.ref S)) true:=LT.andThen L2
 unfold excMatches
 refine KJ (L1.at ?_)
 rw [KQ (by decide)]
 refine KJ (KO ?_)
 simp only [List.forIn_cons,List.forIn_nil]
 refine KJ (KJ (KJ (LE.at (KO (KO ?_)))))
 refine KJ (ht.at (KJ (KJ (KJ (L3.at (KO (KO ?_)))))))
 exact KO hq
def BL (i:Nat) (cls:Str) (tx:TX) (tb:bH):bH:=fun D env=>tx env D.rt fun c=>c=cls∧tb { nx:=fun _=>False,rt:=D.rt } (env.set i (some (.d (.exc cls))))
section
variable {X:Cx} {e:Expr} {tx:TX} {cls sup n:Str} {C S:Addr} {np epos hpos pos:Pos} {b0:Stmt} {body:List Stmt} {tb:bH}
theorem C6 (i:Nat) (hN:X.N.Nodup) (hst:X.stack=X.env :: X.outer) (hf:X.env.frame=some X.env.locals) (as:PySem.W.nsIn X.K mainGlobals sup=some (some (.ref S))) (ac:PySem.W.nsIn X.K mainGlobals cls=some (some (.ref C))) (O:BK X.K C S)
  (h:QX X e tx) (hb:∀x,nS (Cx.hand X x) (b0 :: body) tb) (hg:Gl X sup:=by rfl) (hdb:(sup == ("__debug__" : Str))=false:=by decide) (hi:X.N[i]?=some n:=by rfl)
  (hx:X.env.scope.names.lookup n=some .local:=by rfl) :
  QS X (.Try [.Return (some e) epos] [.ExceptHandler (some (.Name sup np)) (some n) (b0 :: body) hpos] [] [] pos) (BL i cls tx tb):=by
 refine⟨fun B σ F H env D rp ht pins s I=>?_⟩
 have hcls:(X.env.scope.kind == .class || (X.env.scope.kind == .module && X.env.locals != X.env.globals))=false:=by rw [I.ok.kind];rfl
 have hmg:X.mg cls=some (.ref C):=LH I.ok.mod.kin I.ok.mod.glob ac
 have hms:X.mg sup=some (.ref S):=LH I.ok.mod.kin I.ok.mod.glob as
 have core:=h.run B σ F H env _ _ rp ht pins s I
 refine wpAny_Try_except (wpAny_execs_cons (wpAny_Return_some (Li core (fun v s1 ⟨x,H1,I1,r1,F1,d1,rp1,_,hd1,q1⟩=>?_) fun ex s1 z=>?_)))
 ·exact⟨x,σ,H1,I1,r1,F1,d1,rp1.bare,hd1,q1⟩
 ·obtain⟨a,c,C',H1,F1,rfl,th,r1,hm,hce,hq1⟩:=z
  rw [hce,hmg] at hm
  cases hm
  refine th.note hst hf fun s2 th2=>?_
  have I2:=Inv.hand th2.inv a
  refine wpAny_handleBy_cons (codeAny_handlers_test (gN (X:=Cx.hand X a) I2 hg hms ?_ hdb)) (by intro q;cases q)
  have flc:∃ox,PySem.W.InstAt s2.heap a ox C none:=by
   obtain⟨_,_,_,_,_,_,_,_,_,oe,vs,he,hc,hdc,hd,_⟩:=th2
   refine⟨oe,he,hc,?_,?_⟩
   ·unfold PySem.W.notCls;rw [hd]
   ·rw [hdc];exact True.intro
  obtain⟨ob,hob⟩:=flc
  have kin:=I2.yH
  obtain⟨h2,g2,d2,t2,o2⟩:=s2
  refine Cu kin O hob.type (codeAny_handlers_suite_as ?_)
  refine dF.land th2 fun s3 th3=>?_
  obtain⟨na,I3⟩:=jo.GO th3
  obtain⟨rp3,sm⟩:=r1.laid (o:=.ext (excAt a C)) na
  refine js (X:=Cx.hand X a) (i:=i) (v:=.ref a) (Inv.hand I3 a) hN hi (.inl hx) rfl (fun s4 I4=>?_) (.inr hx)
  have hden:Den X.K (upd F1 a (.ext (excAt a C))) (.exc cls) (.ref a):=by
   simp only [Den];exact⟨a,C,rfl,ac,aI⟩
  have run:=(hb a).run B _ _ _ _ { nx:=fun _=>False,rt:=D.rt } (rp3.set hden (by rw [I3.len];exact (KL.mp hi).1)) hq1 pins s4 I4
  refine Li run (fun f s5 z=>?_) fun _ _ z=>False.elim z
  cases f with
  | next=>obtain⟨σ',H',_,F',env',_,q⟩:=z;exact q.elim
  | brk=>obtain⟨σ',H',_,F',env',_,q⟩:=z;exact q.elim
  | cont=>obtain⟨σ',H',_,F',env',_,q⟩:=z;exact q.elim
  | ret u =>
   obtain⟨v,σ',H',I5,rv,q⟩:=z
   have I5':=Inv.Fe I.ok I5
   obtain⟨m,hn,_⟩:=I5'.loc
   refine wpAny_nameGoes (show X.env.kindOf n=some .local from hx) hn hcls fun h' m' hn' hs'=>?_
   exact⟨v,_,H',Inv.JG I5' hn' hs',rv,q⟩
end
end L2.L3
namespace L2.L3
open PySem PySem.Spec PyProof.Rows
structure gP (k:Nat) (A:Around):Prop where
 dp:A.depth + 3 * k + 5 < recursionLimit
 un:A.units + 16 * k + 200 < cLine
theorem gP.deeper {k:Nat} {A:Around} (r:gP (k + 1) A) (env:Env):gP k (A.deeper env) :=
 ⟨by have:=r.dp;show A.depth + 1 + 3 * k + 5 < _;omega,by have:=r.un;show A.units + 3 + 16 * k + 200 < _;omega⟩
theorem gP.depth {k:Nat} {A:Around} (r:gP k A):A.depth < recursionLimit:=by have:=r.dp;omega
theorem gP.units {k:Nat} {A:Around} (r:gP k A):A.units + 64 < cLine:=by have:=r.un;omega
theorem _root_.L2.dg.hand {k:Nat} {A:Around} (r:dg k A) (v:Option Value):gP k (A.mark v):=⟨r.dp,r.un⟩
structure JX (P:Program) (w:World) (K:PySem.W.Frag) (mg:Str→Option Value) (base:Heap) (k:Nat) (f:Addr) (fd:FuncData) (ps:List Str) (sp:Sp):Prop where
 len:∀vs H Q E,sp vs H Q E→vs.length=ps.length
 run:∀(A:Around) (outer:List Env) (s:Shared) (H:Hp) (args:Args) (us:List Value) (vs:List V) (Q:VK) (E:XK),gP k A→zJ P w K mg base A outer s H→BindsTo s fd args (ps.zip us)→Vals vs us→sp vs H Q E →
  codeAny (model P w) A (.call (.ref f) args) (CR r9 outer P w H s Q E) s
def Hi (P:Program) (w:World) (K:PySem.W.Frag) (mg:Str→Option Value) (base:Heap) (N:List Str) (qual:Str) (scope:Scope) (f:Addr) (cd:Value) (A:Around) (outer:List Env) (s:Shared) (H:Hp) (E:XK):Cx :=
 { gw r9 P w K mg base N qual scope f cd A outer s H E with calm:=false,xe:=fun _ _=>False }
section
variable {P:Program} {w:World} {K:PySem.W.Frag} {mg:Str→Option Value} {base:Heap}
theorem xQ {N ps:List Str} {qual:Str} {scope:Scope} {f:Addr} {cd:Value} {A:Around} {outer:List Env} {s s1:Shared} {H:Hp} {E:XK} {us:List Value} {vs:List V}
  (S:aD N ps scope) (e0:zJ P w K mg base A outer s H) (hl:vs.length=ps.length) (r:Vals vs us)
  (x:InCallC s s.heap.objs.size (bindL (envOfC qual scope s.heap.objs.size f cd).kindOf (ps.zip us) fun _=>none) (cellsFrom (s.heap.objs.size + 1) scope.names []) (bindC (envOfC qual scope s.heap.objs.size f cd).kindOf (ps.zip us) fun _=>none) s1) :
  Inv (Hi P w K mg base N qual scope f cd A outer s H E) [] (start N vs) H s1:=by
 have I:Inv (gw r9 P w K mg base N qual scope f cd { A with handled:=none } outer s H E) [] (start N vs) H s1 :=
  rB S rfl ⟨e0.frames,e0.mod,e0.bs,e0.bsz,e0.lM,e0.frf,e0.hok,e0.bare⟩ hl r x
 exact⟨⟨I.ok.mod,I.ok.kind,I.ok.glob,I.ok.blt,I.ok.above,I.ok.inj,I.ok.has,I.ok.cab,(fun z=>by cases z),I.ok.frames,I.ok.stk,I.ok.exf,I.ok.bs,I.ok.bsz,I.ok.noex,I.ok.exfs,I.ok.lM,I.ok.frf⟩,I.os,I.bare,I.base,I.loc,I.cell,I.free,I.freeC,I.pin,I.hok,I.len⟩
theorem Ga {k:Nat} {f:Addr} {name qual:Str} {params:Arguments} {body:List Stmt} {scope:Scope} {dV kV doc pm cdv ct oc:Value} {an od:Option Addr}
  {osl:Array (Option Value)} {N ps:List Str} {sp:Sp} (lk:K.lookup f=some ⟨oc,od,.func (PySem.W.fnOf name qual params body scope dV kV doc pm an cdv ct),osl⟩) (hcd:PySem.W.codeIn K cdv qual=true) (S:aD N ps scope)
  (len:∀vs H Q E,sp vs H Q E→vs.length=ps.length)
  (hbody:∀(A:Around) (outer:List Env) (s:Shared) (H:Hp) (vs:List V) (Q:VK) (E:XK),gP k (A.deeper (envOfC qual scope s.heap.objs.size f cdv))→sp vs H Q E →
   ∃t,uz (Hi P w K mg base N qual scope f cdv A outer s H E) body t∧t { nx:=fun _ H'=>Q .non H',rt:=Q } (start N vs) H) :
  JX P w K mg base (k + 1) f (PySem.W.fnOf name qual params body scope dV kV doc pm an cdv ct) ps sp:=by
 refine⟨len,fun A outer s H args us vs Q E hr e0 hb r hsp=>?_⟩
 have hl:=len _ _ _ _ hsp
 have KX:K.In s.heap:=e0.mod.kin.keeps fun b o e=>(e0.bs b o e).1
 have lim:s.heap.NoLimit:=e0.mod.nolimit.keeps fun b o e=>(e0.bs b o e).1
 have hkind:∀y∈ps.zip us,scope.names.lookup y.1=some .local∨(scope.names.lookup y.1=some .cell∧((cellsFrom (s.heap.objs.size + 1) scope.names []).lookup y.1).isSome=true):=fun⟨n,v⟩ hy=>by
  rcases S.par n (List.of_mem_zip hy).1 with q | q
  ·exact .inl q
  ·exact .inr ⟨q,PySem.W.cellsFrom_some _ _ _ (.inl q)⟩
 refine codeAny_call_function hr.depth (KX _ _ lk) rfl S.co S.gen rfl (PySem.W.codeRec_of KX hcd) (hb _ _ _ _ ?_)
 refine wpAny_newFunctionEnv_cells S.kind hkind fun env he s1 x=>?_
 subst he
 refine⟨lim.keeps x.toInCall.keep,codeAny_func ?_⟩
 obtain⟨t,ht,hq⟩:=hbody A outer s H vs Q E (hr.deeper _) hsp
 have I:Inv (Hi P w K mg base N qual scope f cdv A outer s H E) [] (start N vs) H s1:=xQ S e0 hl r x
 refine Li (ht [] s1 (start N vs) H _ I hq) (fun fl s' hs=>?_) fun e s' hs=>False.elim hs
 have fin:∀{σ':St} {H':Hp} {v:V} {u:Value},Inv (Hi P w K mg base N qual scope f cdv A outer s H E) [] σ' H' s'→RelV v u→Q v H'→CE outer P w H s Q u s' :=
  fun {σ' H' v u} J rv q=>⟨v,H',J.os,J.bare,J.base,J.hok,rv,q⟩
 cases fl with
 | ret u =>
  obtain⟨v,σ',H',J,rv,q⟩:=hs
  exact fin J rv q
 | next =>
  obtain⟨σ',H',J,q⟩:=hs
  exact fin (v:=V.non) (u:=Value.none) J rfl q
 | brk =>
  obtain⟨_,_,_,q⟩:=hs
  exact False.elim q
 | cont =>
  obtain⟨_,_,_,q⟩:=hs
  exact False.elim q
structure pQ (P:Program) (w:World) (K:PySem.W.Frag) (mg:Str→Option Value) (base:Heap) (k:Nat) (x:Str) (f:Fw):Prop where
 ex:∃(fa:Addr) (fd:FuncData) (ps:List Str),JX P w K mg base k fa fd ps (C3 K f)∧mg x=some (.ref fa)∧PySem.W.keepIn K (.ref fa)=true∧Binds K fd ps []
theorem og.wK {x qual:Str} {st:Stmt} {fa:Addr} {fd:FuncData} {N ps:List Str} {k:Nat} {f:Fw} (F:og K x qual st fa fd) (S:aD N ps (ak st)) (hmg:mg x=some (.ref fa)) (hb:Binds K fd ps [])
  (hl:∀ds Q,f ds Q→ds.length=ps.length)
  (hbody:∀(cdv:Value) (A:Around) (outer:List Env) (s:Shared) (H:Hp) (E:XK),gP k (A.deeper (envOfC qual (ak st) s.heap.objs.size fa cdv)) →
   ∃t,nS (Hi P w K mg base N qual (ak st) fa cdv A outer s H E) (a9 st) t∧∀ds (Q:D→Prop),f ds Q→t { nx:=fun _=>Q .non,rt:=Q } (aE N ds)) :
  pQ P w K mg base (k + 1) x f:=by
 refine⟨fa,fd,ps,?_,hmg,F.kp,hb⟩
 obtain⟨oc,od,kV,doc,pm,an,cdv,ct,osl,rfl,lk,hcd⟩:=F.ex
 refine Ga lk hcd S (fun vs H Q E h=>?_) fun A outer s H vs Q E hr h=>?_
 ·obtain⟨F0,ds,P,_,hd,hf,_⟩:=h
  rw [← hd.length];exact hl ds _ hf
 ·obtain⟨F0,ds,P,fh,hd,hf,kk⟩:=h
  obtain⟨t,ht,hq⟩:=hbody cdv A outer s H E hr
  refine⟨_,eI,?_⟩
  have core:=ht _ (start N vs) F0 H (aE N ds) _ (gf fh hd) (hq ds P hf)
  refine gj core (fun σ' H' ⟨F',env',r,q⟩=>?_) (fun v H' ⟨F',d',r,dd,q⟩=>?_) (fun _ _ ⟨_,_,_,q⟩=>q) (fun _ _ ⟨_,_,_,q⟩=>q)
  ·exact kk .non .non F' H' r.f0 r.h0 r.fh (fun p h1 h2=>r.nf p ⟨h1,h2⟩) jR q
  ·exact kk d' v F' H' r.f0 r.h0 r.fh (fun p h1 h2=>r.nf p ⟨h1,h2⟩) dd q
end
section
variable {X:Cx} {e:Expr} {es:List Expr} {t:TA} {ts:fF} {p pos:Pos} {x:Str} {k:Nat} {f:Fw} {fa:Addr} {fd:FuncData} {ps:List Str} {sp:Sp} {E:XK}
theorem AU (F:JX X.prog X.w X.K X.mg X.base k fa fd ps sp) (hr:gP k X.A) (hg:Gl X x) (hm:X.mg x=some (.ref fa)) (hk:PySem.W.keepIn X.K (.ref fa)=true) (hb:Binds X.K fd ps []) (hx:Passes r9 X E)
  (ha:PA X (e :: es) t) (hdb:(x == ("__debug__" : Str))=false:=by decide) (he:starEach (e :: es) X.env=(false,eval e X.env) :: starEach es X.env:=by rfl) (hpl:(backTo pos (starEach es X.env)).any (·.1)=false:=by rfl) :
  PE X (.Call (.Name x p) (e :: es) [] pos) (Eu sp [] E t):=by
 intro pins s σ H Q I h
 refine wpAny_Call_Name_kw (gN I hg hm ?_ hdb)
 refine PySem.W.callWith_K (h₀:=X.base) I.ok.mod.kin hk (b9 (ha pos pins s σ H _ I h) fun us s1 ⟨vs,H1,I1,r,q⟩=>⟨I1.yH,?_⟩) he hpl
 have r2:Vals (vs ++ []) (us ++ []):=r.append .nil
 have hl:(us ++ []).length=ps.length:=by rw [← r2.length];exact F.len _ _ _ _ q
 refine wpAny_call (codeAny_mono (F.run X.A X.stack s1 H1 ⟨us,[]⟩ (us ++ []) (vs ++ []) Q E hr I1.iK (hb s1 us I1.yH hl) r2 q) fun r s' hq=>?_)
 cases r with
 | error e=>exact hx pins σ H1 s1 e s' I1 hq
 | ok fl =>
  cases fl with
  | ret u=>exact I1.after hq
  | next=>exact False.elim hq
  | brk=>exact False.elim hq
  | cont=>exact False.elim hq
theorem DQ (h:pQ X.prog X.w X.K X.mg X.base k x f) (hr:gP k X.A) (ha:QA X (e :: es) ts) (hg:Gl X x:=by rfl) (hdb:(x == ("__debug__" : Str))=false:=by decide)
  (he:starEach (e :: es) X.env=(false,eval e X.env) :: starEach es X.env:=by exact a6 rfl) (hpl:(backTo pos (starEach es X.env)).any (·.1)=false:=by rfl):QE X (.Call (.Name x p) (e :: es) [] pos) (aB f ts):=by
 refine⟨?_⟩
 intro B σ F H env Q rp hq
 obtain⟨fa,fd,ps,G,hm,hk,hb⟩:=h.ex
 refine bY (AU G hr hg hm hk hb As i9 hdb he hpl) ?_
 refine ck (ha B σ F H env _ rp hq) fun vs H1 hq0=>?_
 obtain⟨F1,ds,r1,s1,d1,hf⟩:=hq0
 rw [Lu]
 exact⟨F1,ds,Q,r1.fh,d1,hf,fun d v F' H' a b c n hd q=>⟨F',d,r1.ext a c b n,s1.trans a,hd,q⟩⟩
end
end L2.L3
namespace L2.L3
open PySem PySem.Spec PyProof.Rows
structure bj (K:PySem.W.Frag) (x:Str) (st:Stmt):Prop where
 ex:∃(f:Addr) (oc:Value) (od an:Option Addr) (sl:Array (Option Value)) (kV dc pm cd ct:Value),PySem.W.nsIn K mainGlobals x=some (some (.ref f)) ∧
  K.lookup f=some ⟨oc,od,.func (PySem.W.fnOf x x (dC st) (a9 st) (ak st) .none kV dc pm an cd ct),sl⟩∧PySem.W.codeIn K cd x=true∧PySem.W.keepIn K (.ref f)=true
structure wC (K:PySem.W.Frag) (x:Str) (st:Stmt) (i:Int):Prop where
 ex:∃(f:Addr) (oc:Value) (od an:Option Addr) (sl:Array (Option Value)) (ta:Addr) (kV dc pm cd ct:Value) (tn:Nat) (ts:Array (Option Value)) (tt:Tok),PySem.W.nsIn K mainGlobals x=some (some (.ref f)) ∧
  K.lookup f=some ⟨oc,od,.func (PySem.W.fnOf x x (dC st) (a9 st) (ak st) (.ref ta) kV dc pm an cd ct),sl⟩∧PySem.W.codeIn K cd x=true∧PySem.W.keepIn K (.ref f)=true ∧
  K.lookup ta=some ⟨.type "tuple",none,.seq #[.int i tt] tn,ts⟩
section
variable {K:PySem.W.Frag} {h:Heap} {mg:Str→Option Value} {x:Str} {st:Stmt} {i:Int}
theorem bj.get {ps:List Str} (D:bj K x st) (X:K.In h) (G:h.Ns mainGlobals mg)
  (hb:∀(kV doc pm:Value) (an:Option Addr) (cdv ct:Value) (us:List Value),us.length=ps.length→bindArgs (PySem.W.fnOf x x (dC st) (a9 st) (ak st) .none kV doc pm an cdv ct) ⟨us,[]⟩=pure (ps.zip us)) :
  ∃fa fd,og K x x st fa fd∧mg x=some (.ref fa)∧Binds K fd ps []:=by
 obtain⟨f,oc,od,an,sl,kV,dc,pm,cd,ct,a,l,c,k⟩:=D.ex
 have F:=A4 l c k
 exact⟨f,_,F,LH X G a,F.binds hb⟩
theorem wC.get {ps:List Str} (D:wC K x st i) (X:K.In h) (G:h.Ns mainGlobals mg)
  (hb:∀(ta:Addr) (tn:Nat) (ts:Array (Option Value)) (tt:Tok) (kV doc pm:Value) (an:Option Addr) (cdv ct:Value),K.lookup ta=some ⟨.type "tuple",none,.seq #[.int i tt] tn,ts⟩→Binds K (PySem.W.fnOf x x (dC st) (a9 st) (ak st) (.ref ta) kV doc pm an cdv ct) ps [.int i tt]) :
  ∃fa fd tt,tO K x x st fa fd∧mg x=some (.ref fa)∧Binds K fd ps [.int i tt]:=by
 obtain⟨f,oc,od,an,sl,ta,kV,dc,pm,cd,ct,tn,ts,tt,a,l,c,k,dl⟩:=D.ex
 exact⟨f,_,tt,Dk l c k,LH X G a,hb ta tn ts tt _ _ _ _ _ _ dl⟩
theorem bj.KG {fa:Addr} {p:Str} (D:bj K x st) (X:K.In h) (G:h.Ns mainGlobals mg) (hfa:mg x=some (.ref fa))
  (hb:∀(kV doc pm:Value) (an:Option Addr) (cdv ct:Value) (v:Value),bindArgs (PySem.W.fnOf x x (dC st) (a9 st) (ak st) .none kV doc pm an cdv ct) ⟨[v],[]⟩=pure [(p,v)]) :
  ∃fd,og K x x st fa fd∧∀(s:Shared) (v:Value),BindsTo s fd ⟨[v],[]⟩ [(p,v)]:=by
 obtain⟨f,oc,od,an,sl,kV,dc,pm,cd,ct,a,l,c,k⟩:=D.ex
 have e:=hfa.symm.trans (LH X G a)
 cases e
 exact⟨_,A4 l c k,fun s v=>.of_eq (hb kV dc pm an cd ct v)⟩
end
theorem Ky {P:List Value→Prop} (h:P []) (us:List Value) (hu:us.length=0):P us:=by
 cases us with
 | nil=>exact h
 | cons a l=>simp at hu
theorem wk {P:List Value→Prop} (h:∀a,P [a]) (us:List Value) (hu:us.length=1):P us:=by
 cases us with
 | nil=>simp at hu
 | cons a l=>exact Ky (P:=fun l=>P (a :: l)) (h a) l (by simpa using hu)
theorem xY {P:List Value→Prop} (h:∀a b,P [a,b]) (us:List Value) (hu:us.length=2):P us:=by
 cases us with
 | nil=>simp at hu
 | cons a l=>exact wk (P:=fun l=>P (a :: l)) (h a) l (by simpa using hu)
theorem Hh {P:List Value→Prop} (h:∀a b c,P [a,b,c]) (us:List Value) (hu:us.length=3):P us:=by
 cases us with
 | nil=>simp at hu
 | cons a l=>exact xY (P:=fun l=>P (a :: l)) (h a) l (by simpa using hu)
theorem Kr {P:List Value→Prop} (h:∀a b c d,P [a,b,c,d]) (us:List Value) (hu:us.length=4):P us:=by
 cases us with
 | nil=>simp at hu
 | cons a l=>exact Hh (P:=fun l=>P (a :: l)) (h a) l (by simpa using hu)
structure Df (K:PySem.W.Frag) (mg:Str→Option Value) (x:Str) (st:Stmt) (ps:List Str):Prop where
 ex:∃fa fd,og K x x st fa fd∧mg x=some (.ref fa)∧Binds K fd ps []
structure Jp (K:PySem.W.Frag) (mg:Str→Option Value) (x:Str) (st:Stmt) (ps:List Str) (i:Int):Prop where
 ex:∃fa fd tt,tO K x x st fa fd∧mg x=some (.ref fa)∧Binds K fd ps [.int i tt]
section
variable {P:Program} {w:World} {K:PySem.W.Frag} {mg:Str→Option Value} {base:Heap} {x:Str} {st:Stmt} {N ps:List Str} {k:Nat} {f:Fw} {fx:BS} {i:Int}
theorem Df.known (F:Df K mg x st ps) (S:aD N ps (ak st)) (hl:∀ds Q,f ds Q→ds.length=ps.length)
  (hbody:∀(fa:Addr) (cdv:Value) (A:Around) (outer:List Env) (s:Shared) (H:Hp) (E:XK),dg k (A.deeper (envOfC x (ak st) s.heap.objs.size fa cdv)) →
   ∃t,nS (gw r9 P w K mg base N x (ak st) fa cdv A outer s H E).oO (a9 st) t∧∀ds (Q:D→Prop),f ds Q→t { nx:=fun _=>Q .non,rt:=Q } (aE N ds)):Known P w K mg base (k + 1) x f :=
 let ⟨fa,_,F,m,b⟩:=F.ex;og.known F S m b hl (hbody fa)
theorem Jp.known (F:Jp K mg x st ps i) (S:aD N ps (ak st)) (hl:∀ds Q,f ds Q→ds.length=ps.length)
  (hbody:∀(fa:Addr) (cdv:Value) (A:Around) (outer:List Env) (s:Shared) (H:Hp) (E:XK),dg k (A.deeper (envOfC x (ak st) s.heap.objs.size fa cdv)) →
   ∃t,nS (gw r9 P w K mg base N x (ak st) fa cdv A outer s H E).oO (a9 st) t∧∀ds (Q:D→Prop),f ds Q→t { nx:=fun _=>Q .non,rt:=Q } (aE N ds)):qe P w K mg base (k + 1) x f i :=
 let ⟨fa,_,_,F,m,b⟩:=F.ex;tO.known F S m b hl (hbody fa)
theorem Df.wK (F:Df K mg x st ps) (S:aD N ps (ak st)) (hl:∀ds Q,f ds Q→ds.length=ps.length)
  (hbody:∀(fa:Addr) (cdv:Value) (A:Around) (outer:List Env) (s:Shared) (H:Hp) (E:XK),gP k (A.deeper (envOfC x (ak st) s.heap.objs.size fa cdv)) →
   ∃t,nS (Hi P w K mg base N x (ak st) fa cdv A outer s H E) (a9 st) t∧∀ds (Q:D→Prop),f ds Q→t { nx:=fun _=>Q .non,rt:=Q } (aE N ds)):pQ P w K mg base (k + 1) x f :=
 let ⟨fa,_,F,m,b⟩:=F.ex;og.wK F S m b hl (hbody fa)
theorem Df.xO (F:Df K mg x st ps) (S:aD N ps (ak st)) (hl:∀ds Q R,fx ds Q R→ds.length=ps.length)
  (hbody:∀(fa:Addr) (cdv:Value) (A:Around) (outer:List Env) (s:Shared) (H:Hp) (E:XK),dg k (A.deeper (envOfC x (ak st) s.heap.objs.size fa cdv)) →
   ∃t,Ej (gw (Dt P w) P w K mg base N x (ak st) fa cdv A outer s H E) (a9 st) t∧∀ds (Q:D→Prop) (R:Str→Prop),fx ds Q R→t { nx:=fun _=>Q .non,rt:=Q,xc:=R } (aE N ds)):iC P w K mg base (k + 1) x fx :=
 let ⟨fa,_,F,m,b⟩:=F.ex;og.xO F S m b hl (hbody fa)
theorem Df.xa (F:Df K mg x st ps) (S:aD N ps (ak st)) (hl:∀ds Q R,fx ds Q R→ds.length=ps.length)
  (hbody:∀(fa:Addr) (cdv:Value) (A:Around) (outer:List Env) (s:Shared) (H:Hp) (E:XK),dg k (A.deeper (envOfC x (ak st) s.heap.objs.size fa cdv)) →
   ∃t,Hl (gw (Dt P w) P w K mg base N x (ak st) fa cdv A outer s H E) (a9 st) t∧∀ds (Q:D→Prop) (R:Str→Prop),fx ds Q R→t { nx:=fun _=>Q .non,rt:=Q,xc:=R } (aE N ds)):iC P w K mg base (k + 1) x fx :=
 let ⟨fa,_,F,m,b⟩:=F.ex;og.xa F S m b hl (hbody fa)
end
end L2.L3
namespace L2.L3
open PySem PySem.Spec PyProof.Rows
def B1 (ta:TD) (tx:TX):TX:=fun env Q R=>ta env fun d=>tx env (fun y=>Q (.tup [d,y])) R
section
variable {X:Cx} {a e:Expr} {ta:TD} {tx:TX} {pos:Pos}
theorem FN {x1} (ha:QE X.oO a ta) (hx:QX X e tx) (he:starEach [a,e] X.env=(false,eval a X.env) :: starEach [e] X.env:=by exact a6 rfl) (he2:starEach [e] X.env=(false,eval e X.env) :: starEach [] X.env:=by exact a6 rfl) :
  QX X (.Tuple [a,e] x1 pos) (B1 ta tx):=by
 refine⟨fun B σ F H env Q R rp hq pins s I=>?_⟩
 refine wpAny_Tuple_spliced ?_
 rw [he]
 show wpAny _ _ (spliced ((false,eval a X.env) :: backTo pos (starEach [e] X.env))) _ _ s
 refine LK (b9 (E6 (E:=XX X pins σ B env R) (ha B σ F H env _ rp hq) pins s (I.cu _)) fun u s1 hq0=>?_)
 obtain⟨x,H1,I1,rx,F1,d,r1,z1,d1,q1⟩:=hq0
 rw [he2]
 show wpAny _ _ (spliced ((false,eval e X.env) :: backTo pos (starEach [] X.env))) _ _ s1
 refine LK (b9 (hx.run B σ F1 H1 env _ R r1 q1 pins s1 I1.bo) fun u2 s2 hq0=>?_)
 obtain⟨y,H2,I2,ry,F2,d',r2,z2,d2,q2⟩:=hq0
 refine Calls.spliced_nil ⟨by simp [PySem.sizeLine_eq],?_⟩
 have hf:H2 s2.heap.objs.size=none:=I2.hok.fresh (K0 _)
 have rv:Vals [x,y] [u,u2]:=.cons rx (.cons ry .nil)
 refine⟨.ref s2.heap.objs.size,upd H2 s2.heap.objs.size (.tup [x,y]),I2.laid (t':=s2.toks) (fun b u e=>KY _ e) (K0 _) ?_,rfl,?_⟩
 ·exact⟨by simp [PySem.sizeLine_eq],[u,u2],rv,⟨_,La _ rfl,rfl,⟨_,rfl⟩,rfl⟩⟩
 ·exact (RV.BU r2 (aX (Den.mono z2 _ _ d1) (aX d2 aW)) q2 _ hf).weaken (z1.trans z2)
end
end L2.L3
namespace L2.L3
open PySem PySem.Spec PyProof.Rows
def JJ:V→List V→Hp→VK→Prop:=fun x xs H Q=>∃z y i rest,x=.str z∧xs=[.str y]∧Builtin.Str.occurrences z y 0 z.length 1=i :: rest∧Q (.int (i:Nat)) H
section
variable {X:Cx} {a b e o:Expr} {ta tb to:TD} {pos:Pos}
theorem Dy:Jn X "str.index" JJ:=by
 intro pins s σ H x xs v us Q I rx rs h
 obtain⟨z,y,i,rest,rfl,rfl,ho,q⟩:=h
 obtain⟨t,rfl⟩:=rx
 obtain⟨u,rfl,ru⟩:=vals1 rs
 obtain⟨t2,rfl⟩:=ru
 refine call_meets PySem.F.slot_str_index (typeIs_str _ _ _) PySem.F.entry_str_index (PySem.F.args_str_index_2 _ _) (gives_str_index z y t t2 i rest ho).meets ?_
 show (Made.int (i:Int)).post _ s
 unfold Made.post
 exact⟨.int (i:Int),H,I.tok _,⟨_,rfl⟩,q⟩
def xV (i:Nat):TB:=fun env Q=>∃xs,env[i]?=some (some (.own xs))∧bE xs≤50∧Q xs.isEmpty
theorem Dr {x:Str} {px pl:Pos} (i:Nat) (hu:X.A.units + 64 < cLine) (hN:X.N[i]?=some x:=by rfl) (hv:rf X.env.scope x:=by first | exact Or.inl rfl | exact Or.inr (Or.inl rfl) | exact Or.inr (Or.inr rfl)) (hd:(x == ("__debug__" : Str))=false:=by decide)
  (hcd:(x == ("__classdict__" : Str))=false:=by decide):QT X (.Compare (.Name x px) [.Eq] [.List [] pl] pos) (xV i):=by
 refine⟨fun B σ F H env Q rp h=>rR (oK wx (cL hN hv hd hcd) (sv gU) (ef _)) ?_⟩
 obtain⟨xs,hx,hdep,q⟩:=h
 obtain⟨p,vs,h1,h2,h3,h4,h5⟩:=rp.ov i xs hx
 refine⟨.ref p,h1,by simp [PySem.sizeLine_eq],fun w hw=>?_⟩
 have ne:p≠w:=fun z=>by subst z;rw [h2] at hw;cases hw
 have s1:ar F (upd F p (.lst vs)):=cA h3
 refine⟨upd (upd F p (.lst vs)) w (.lst []),.lst xs,.lst [],?_,?_,?_,by simp only [dep];omega,by simp only [dep];omega,by decide,xs.isEmpty,?_,F,rp.loose hw,ar.refl _,q⟩
 ·refine mI fun b o hb=>?_
  by_cases z:b=p
  ·subst z;rw [aI] at hb;cases hb;exact h2
  ·rw [aH z] at hb;exact rp.fh _ _ hb
 ·have s2:ar (upd F p (.lst vs)) (upd (upd F p (.lst vs)) w (.lst [])):=cA (by rw [aH (Ne.symm ne)];exact rp.rK hw)
  exact fe (d9.of (by rw [aH ne];exact aI)) (aq.mono (s1.trans s2) _ _ h5)
 ·exact fe (d9.of aI) aW
 ·cases xs <;> rfl
def FA (ta:TD) (tb:zV):zV:=fun env Q=>ta env fun x=>∃z,x=.str z∧tb env fun y e1=>∃y' i rest,y=.str y'∧Builtin.Str.occurrences z y' 0 z.length 1=i :: rest∧Q (.int (i:Nat)) e1
theorem yK {tb:zV} {apos cpos:Pos} (ha:QE X a ta) (hb:wj X b tb) (hbase:attributeBase a "index" X.env (eval a X.env)=eval a X.env:=by rfl)
  (hfew:((backTo cpos (starEach [b] X.env)).all (fun x=>!x.1) && (backToKw cpos (keywordEach [] X.env)).all (fun x=>x.1.isSome)
   && decide ([b].length + ([]:List Keyword).length + (if ([]:List Keyword).isEmpty then 0 else 1) < 30))=true:=by rfl)
  (hline:(apos.endLine == cpos.line)=true:=by rfl) (hs:starEach [b] X.env=(false,eval b X.env) :: starEach [] X.env:=by exact a6 rfl) (hplain:(backTo cpos (starEach ([]:List Expr) X.env)).any (·.1)=false:=by rfl) :
  wj X (.Call (.Attribute a "index" apos) [b] [] cpos) (FA ta tb):=by
 refine⟨fun B σ F H env Q rp h=>bY (rg PySem.F.plainAttrs_str PySem.F.slot_str_index PySem.F.type_str_index Dy bR (fT bR gU hs) hbase hfew hline hs hplain) ?_⟩
 refine aL (ha B σ F H env _ rp h) fun x H1 hq0=>?_
 obtain⟨F1,d,r1,s1,d1,z,e,q1⟩:=hq0
 subst e
 simp only [Den] at d1
 subst d1
 refine⟨rfl,?_⟩
 refine aL (hb.run B σ F1 H1 env _ r1 q1) fun y H2 hq0=>?_
 obtain⟨F2,d',e2,r2,s2,d2,y',i,rest,e',ho,q2⟩:=hq0
 subst e'
 simp only [Den] at d2
 subst d2
 exact⟨z,y',i,rest,rfl,rfl,ho,F2,_,e2,r2,s1.trans s2,bC,q2⟩
theorem Fp {ta tb:zV} (ha:wj X a ta) (hb:wj X b tb):wj X (.BinOp a .Mod b pos) (ET gz ta tb):=⟨fun B σ F H env Q rp h=>bY (vF (r:=rI oV fun i j=>.int (i.fmod j)) yC bR bR) (Ip u6 ha hb rp h)⟩
end
end L2.L3
namespace L2.L3
open PySem PySem.Spec PyProof.Rows
section
variable {X:Cx} {a b e o:Expr} {ta tb to:TD} {pos:Pos}
def IA (K:PySem.W.Frag):R2:=fun x y H Q=>∃l xs n,x=.ref l∧y=.int n∧d9 K H l xs∧0≤n∧n < 2 ^ 20∧xs.length * n.toNat≤2 ^ 20∧∀p,H p=none→Q (.ref p) (upd H p (.lst (List.replicate n.toNat xs).flatten))
theorem Ed:iX X (binaryOp .Mult) (IA X.K):=by
 intro pins s σ H x y v u Q I rx ry h
 obtain⟨l,xs,n,rfl,rfl,hH,h0,h1,hz,q⟩:=h
 cases rx
 obtain⟨t,rfl⟩:=ry
 obtain⟨its,r,⟨⟨cls,dd,data,sl⟩,k,ho,hc,hdd,hd⟩,z⟩:=I.list hH
 simp only at hc hdd hd
 subst hc hdd hd
 have hl:its.toArray.size=xs.length:=by rw [K5,← r.length]
 have hq:xs.length * n.toNat≤sizeLine:=by rw [PySem.sizeLine_eq];omega
 refine wpAny_binaryOp_repeat_ref (T:="list") (U:="int") (by decide) ⟨_,ho,rfl⟩ (fun s'=>typeIs_int s' n t) noFill_list_mul F.fills_int_mul F.slot_int_rmul repeat_list F.slot_int_index.lookup
  (call_meets F.slot_int_rmul (typeIs_int s n t) F.entry_int_rmul (F.args_int_rmul_2 _ _) (lm_int_rmul_list_any n t l its.toArray k none sl)
   ⟨ho,rfl,⟨_,ho,rfl⟩,call_meets F.slot_list_mul ⟨_,ho,rfl⟩ F.entry_list_mul (F.args_list_mul_2 _ _)
    (lm_list_mul_any l its.toArray k none sl n t (by simp [Builtin.List.listFitsIndex];omega) (by rw [hl];omega) (by simp only [Builtin.List.listTooLong,hl];simp;exact hq))
    ⟨ho,?_⟩⟩)
 rw [listMul_foldl_if]
 exact⟨.ref _,_,I.IP (t':=s.toks) (r.rep _) (by rw [len_rep,Nat.mul_comm];exact hq),rfl,q _ I.fresh⟩
theorem y0 {F:Hp} {K:PySem.W.Frag} {ds:List D} {vs:List V} (h:aq K F ds vs):∀n,aq K F (List.replicate n ds).flatten (List.replicate n vs).flatten
 | 0=>aW
 | n + 1=>by
  rw [List.replicate_succ,List.replicate_succ,List.flatten_cons,List.flatten_cons]
  exact h.append (y0 h n)
def jW (i:Nat) (ta tb:TD):fF:=fun env Q=>∃xs,env[i]?=some (some (.own xs))∧ta env fun y=>∃ys,y=.lst ys∧tb env fun z=>∃n,z=.int n∧0≤n∧n < 2 ^ 20∧ys.length * n.toNat≤2 ^ 20∧xs.length + ys.length * n.toNat≤sizeLine∧Q (xs ++ (List.replicate n.toNat ys).flatten)
theorem zh {x:Str} {px pos2:Pos} (i:Nat) (ha:QE X a ta) (hb:QE X b tb) (hN:X.N[i]?=some x:=by rfl) (hv:rf X.env.scope x:=by first | exact Or.inl rfl | exact Or.inr (Or.inl rfl) | exact Or.inr (Or.inr rfl)) (hd:(x == ("__debug__" : Str))=false:=by decide)
  (hcd:(x == ("__classdict__" : Str))=false:=by decide):QF X (.BinOp (.Name x px) .Add (.BinOp a .Mult b pos2) pos) (jW i ta tb):=by
 refine⟨fun B σ F H env Q rp h=>bY (vF yR (cL hN hv hd hcd) (vF Ed bR bR)) ?_⟩
 obtain⟨xs,hx,q0⟩:=h
 obtain⟨p,vs,h1,h2,h3,h4,h5⟩:=rp.ov i xs hx
 refine⟨.ref p,h1,?_⟩
 refine aL (ha B σ F H env _ rp q0) fun y H1 hq0=>?_
 obtain⟨F1,d,r1,s1,d1,ys,e,q1⟩:=hq0
 subst e
 refine aL (hb B σ F1 H1 env _ r1 q1) fun z H2 hq0=>?_
 obtain⟨F2,d',r2,s2,d2,n,e',g0,g1,g2,g3,q2⟩:=hq0
 subst e'
 have d1':=Den.mono s2 _ _ d1
 simp only [Den] at d1' d2
 subst d2
 obtain⟨l,us,rfl,hl,dl⟩:=d1'
 refine⟨l,us,n,rfl,rfl,r2.fh.seq hl,g0,g1,by rw [← dl.length];exact g2,fun w hw=>?_⟩
 obtain⟨p',vs',k1,k2,k3,k4,k5⟩:=r2.ov i xs hx
 have ep:p=p':=by rw [h1] at k1;cases k1;rfl
 subst ep
 have ne:p≠w:=fun z=>by subst z;rw [k2] at hw;cases hw
 refine⟨p,w,vs',(List.replicate n.toNat us).flatten,rfl,rfl,d9.of (by rw [aH ne];exact k2),d9.of aI,by rw [len_rep,← k5.length,← dl.length,Nat.mul_comm];exact g3,fun w' hw'=>?_⟩
 exact⟨F2,_,w',_,_,rfl,hw',rfl,r2.loose hw,s1.trans s2,k5.append (y0 dl _),q2⟩
end
end L2.L3
namespace L2
open PySem PySem.Spec PyProof.Rows
section
theorem zL (its:List Value):slicePick its.toArray none none (some (-1))=its.reverse.toArray:=by
 unfold slicePick sliceBounds sliceRange
 simp only [Option.getD_some,show ¬ ((-1:Int) > 0) by decide,if_false,K5]
 congr 1
 by_cases h:(its.length:Int) - 1 > -1
 ·have e:(((its.length:Int) - 1 - (-1) - (-1) - 1) / (-(-1))).toNat=its.length:=by
   rw [show (-(-1):Int)=1 by decide,Int.ediv_one];omega
  rw [KS h,e,List.filterMap_map]
  have:=zt its.toArray
  rw [K5] at this
  rw [← this]
  refine fm_congr' _ fun k hk=>?_
  show its.toArray[((its.length:Int) - 1 + -1 * (k:Int)).toNat]?=_
  rw [show ((its.length:Int) - 1 + -1 * (k:Int))=((its.length:Int) - 1 + (k:Int) * (-1)) by omega]
 ·have:its=[]:=List.eq_nil_of_length_eq_zero (by omega)
  subst this
  rw [KQ h];rfl
where
 fm_congr' {f g:Nat→Option Value}:∀l:List Nat,(∀k∈l,f k=g k)→l.filterMap f=l.filterMap g
  | [],_=>rfl
  | k :: r,h=>by
   rw [List.filterMap_cons,List.filterMap_cons,h k K9,fm_congr' r fun x hx=>h x (K4 _ hx)]
variable {X:Cx} {a e:Expr} {pos p2:Pos}
theorem zN {t1 t2:TE} (he:PE X a t1) (hst:PE X e t2):PE X (.Subscript a (.Slice none none (some e) p2) pos) (fun σ H Q=>t1 σ H fun x H1=>t2 σ H1 fun y H2=>∃t vs,x=.ref t∧y=.int (-1)∧d9 X.K H2 t vs∧∀p,H2 p=none→Q (.ref p) (upd H2 p (.lst vs.reverse))):=by
 intro pins s σ H Q I h
 refine Subscript_ (b9 (he pins s σ H _ I h) fun v s1 hq0=>?_)
 obtain⟨x,H1,I1,r1,q1⟩:=hq0
 refine wpAny_Slice ?_
 rw [evalPart_none]
 refine KO (KO ?_)
 rw [evalPart_some]
 refine b9 (hst pins s1 σ H1 _ I1 q1) fun u s2 hq0=>?_
 obtain⟨y,H2,I2,r2,t,vs,e1,e2,hq,q⟩:=hq0
 subst e1 e2
 cases r1
 obtain⟨t',rfl⟩:=r2
 have I3:Inv X pins σ H2 { s2 with heap:=s2.heap.push { cls:=.type "slice",data:=.fields #[.none,.none,.int (-1) t'] } }:=I2.kept (t':=s2.toks) fun b ob q=>KY _ q
 obtain⟨its,rv,ht,hz⟩:=I3.list hq
 have hl:=rv.length
 show wpAny (model X.prog X.w) X.A (subscriptTail a (.Slice none none (some e) p2) (.ref t) (.ref s2.heap.objs.size)) (EP X pins σ Q) X.xe { s2 with heap:=s2.heap.push { cls:=.type "slice",data:=.fields #[.none,.none,.int (-1) t'] } }
 refine tail_any (ops:=[.ref t,.ref s2.heap.objs.size]) ht.isList.typeIs slot_list_getitem.lookup ?_ (by with_unfolding_all rfl)
 refine wpAny_getItem_list_slice ht.isList (Heap.IsSliceOf.new ..) .none .none (.int (-1) t') (by decide) ?_ (by rw [K5];omega)
 rw [zL]
 refine⟨.ref _,_,I3.laid (t':=s2.toks) (o:=.lst vs.reverse) (fun b o e=>KY _ e) (K0 _) ?_,rfl,q _ (I3.hok.fresh (K0 _))⟩
 exact⟨by rw [List.length_reverse];exact hz,its.reverse,0,rv.reverse,La _ rfl⟩
end
end L2
namespace L2.L3
open PySem PySem.Spec PyProof.Rows
section
variable {X:Cx} {a b e:Expr} {ta te:TD} {pos p2:Pos}
def BV (ta te:TD):TD:=fun env Q=>ta env fun x=>te env fun y=>∃ds,x=.lst ds∧y=.int (-1)∧Q (.lst ds.reverse)
theorem Fb (ha:QE X a ta) (he:QE X e te):QE X (.Subscript a (.Slice none none (some e) p2) pos) (BV ta te):=by
 refine⟨fun B σ F H env Q rp h=>bY (zN bR bR) ?_⟩
 refine aL (ha B σ F H env _ rp h) fun x H1 hq0=>?_
 obtain⟨F1,d,r1,s1,d1,q1⟩:=hq0
 refine aL (he B σ F1 H1 env _ r1 q1) fun y H2 hq0=>?_
 obtain⟨F2,d',r2,s2,d2,ds,e1,e2,q⟩:=hq0
 subst e1 e2
 have d1':=Den.mono s2 _ _ d1
 simp only [Den] at d1' d2
 obtain⟨t,vs,rfl,hq,dl⟩:=d1'
 subst d2
 refine⟨t,vs,rfl,rfl,r2.fh.seq hq,fun p hp=>?_⟩
 obtain⟨r4,s4⟩:=r2.laid (o:=.lst vs.reverse) hp
 exact⟨_,_,r4,(s1.trans s2).trans s4,fe (d9.of aI) (aq.mono s4 _ _ dl.reverse),q⟩
end
end L2.L3
namespace L2.L3
open PySem
structure M4 where
 a:Int
 b:Int
 c:Int
 d:Int
 deriving DecidableEq
namespace M4
def toD (m:M4):D:=.tup [.int m.a,.int m.b,.int m.c,.int m.d]
def mul (m k:M4):M4:=⟨m.a * k.a + m.b * k.c,m.a * k.b + m.b * k.d,m.c * k.a + m.d * k.c,m.c * k.b + m.d * k.d⟩
def neg (m:M4):M4:=⟨-m.a,-m.b,-m.c,-m.d⟩
def det (m:M4):Int:=m.a * m.d - m.b * m.c
def oi (m:M4):Prop:=m.c < 0∨(m.c=0∧m.d < 0)
instance (m:M4):Decidable m.oi:=inferInstanceAs (Decidable (_∨_))
def up (m:M4):M4:=if m.oi then m.neg else m
def B (n:Nat) (m:M4):Prop:=aU n m.a∧aU n m.b∧aU n m.c∧aU n m.d
def T (m:M4):Prop:=m.det=1∧(0 < m.c∨(m.c=0∧m.d=1))
def con (m:M4):M4:=⟨m.d,-m.b,-m.c,m.a⟩
def one:M4:=⟨1,0,0,1⟩
theorem B.mul {n k:Nat} {m l:M4} (h:m.B n) (g:l.B k):(m.mul l).B (n + k + 1):=by
 obtain⟨h1,h2,h3,h4⟩:=h
 obtain⟨g1,g2,g3,g4⟩:=g
 have two:∀{x y u v:Int},aU n x→aU k y→aU n u→aU k v→aU (n + k + 1) (x * y + u * v):=fun hx hy hu hv=>by
  have:=bits_add (bits_mul hx hy) (bits_mul hu hv)
  rwa [Nat.max_self] at this
 exact⟨two h1 g1 h2 g3,two h1 g2 h2 g4,two h3 g1 h4 g3,two h3 g2 h4 g4⟩
theorem B.neg {n:Nat} {m:M4} (h:m.B n):m.neg.B n:=⟨bits_neg h.1,bits_neg h.2.1,bits_neg h.2.2.1,bits_neg h.2.2.2⟩
theorem kM {m:M4} (h:m.oi):m.up=m.neg:=KS h
theorem kH {m:M4} (h:¬ m.oi):m.up=m:=KQ h
theorem B.up {n:Nat} {m:M4} (h:m.B n):m.up.B n:=by
 unfold M4.up;split
 ·exact h.neg
 ·exact h
theorem B.le {n k:Nat} {m:M4} (h:m.B n) (hk:n≤k):m.B k:=⟨bits_le h.1 hk,bits_le h.2.1 hk,bits_le h.2.2.1 hk,bits_le h.2.2.2 hk⟩
theorem oq (m:M4):m.neg.det=m.det:=by simp only [det,neg];rw [Int.neg_mul_neg,Int.neg_mul_neg]
theorem tU (m:M4):m.up.det=m.det:=by
 unfold up;split
 ·exact oq m
 ·rfl
theorem dD (m k:M4):(m.mul k).det=m.det * k.det:=by
 simp only [det,mul]
 grind
theorem HZ {m:M4} (h:m.det=1):m.up.T:=by
 refine⟨by rw [tU];exact h,?_⟩
 unfold det at h
 unfold up
 have key:∀x y:Int,x * y=1→0≤y→y=1:=fun x y hxy hy=>Int.eq_one_of_dvd_one hy ⟨x,by rw [Int.mul_comm];exact hxy.symm⟩
 by_cases hl:m.oi
 ·rw [KS hl]
  rcases hl with hl | ⟨h0,h1⟩
  ·left;show 0 < -m.c;omega
  ·right
   refine⟨by show -m.c=0;omega,?_⟩
   show -m.d=1
   rw [h0,Int.mul_zero,Int.sub_zero] at h
   exact key (-m.a) (-m.d) (by rw [Int.neg_mul_neg];exact h) (by omega)
 ·rw [KQ hl]
  unfold oi at hl
  by_cases hc:0 < m.c
  ·exact .inl hc
  ·right
   have h0:m.c=0:=by omega
   refine⟨h0,?_⟩
   rw [h0,Int.mul_zero,Int.sub_zero] at h
   exact key m.a m.d h (by omega)
end M4
def tK (x y:D) (Q:D→Prop):Prop:=∃(m k:M4) (n j:Nat),x=m.toD∧y=k.toD∧m.B n∧k.B j∧n + j≤1000000∧Q (m.mul k).up.toD
def bU:Fw:=F2 tK
def je:bH:=(aG (gT (ag 0) (fQ 4 (aR (aM 2) (aR (aM 3) (aR (aM 4) (aR (aM 5) fR)))))) (aG (gT (ag 1) (fQ 4 (aR (aM 6) (aR (aM 7) (aR (aM 8) (aR (aM 9) fR)))))) (aG (a7 10 (bD (af (aC bO (aC cQ (ag 2) (ag 6)) (aC cQ (ag 3) (ag 8))) (af (aC bO (aC cQ (ag 2) (ag 7)) (aC cQ (ag 3) (ag 9))) (af (aC bO (aC cQ (ag 4) (ag 6)) (aC cQ (ag 5) (ag 8))) (af (aC bO (aC cQ (ag 4) (ag 7)) (aC cQ (ag 5) (ag 9))) av)))))) (aG (hV (zw (aK (aC wm (aC cR (ag 10) (cC (.int 2))) (cC (.int 0)))) (kc (aK (aC ja (aC cR (ag 10) (cC (.int 2))) (cC (.int 0)))) (aK (aC wm (aC cR (ag 10) (cC (.int 3))) (cC (.int 0)))))) (bc (aB g8 (af (d5 (iQ [] (ag 10) dU (aC gr (cC (.int 0)) (ag 0)))) av))) br) (bc (ag 10))))))
theorem qQ:∀ds Q,bU ds Q→ds.length=2:=jg
theorem tu:∀ds (Q:D→Prop),bU ds Q→je { nx:=fun _=>Q .non,rt:=Q } (aE ["_law_one","_law_other","_law_a","_law_b","_law_c","_law_d","_law_e","_law_f","_law_g","_law_h","_law_found"] ds):=by
 rintro ds Q ⟨x,y,rfl,m,k,n,j,rfl,rfl,⟨h1,h2,h3,h4⟩,⟨g1,g2,g3,g4⟩,hs,h⟩
 simp_all_arith only [je,M4.toD]
 refine⟨bK h1 g1 hs,bK h2 g3 hs,bK h1 g2 hs,bK h2 g4 hs,bK h3 g1 hs,bK h4 g3 hs,bK h3 g2 hs,bK h4 g4 hs,?_⟩
 have e:m.mul k=⟨m.a * k.a + m.b * k.c,m.a * k.b + m.b * k.d,m.c * k.a + m.d * k.c,m.c * k.b + m.d * k.d⟩:=rfl
 rw [e] at h
 clear e
 generalize m.a * k.a + m.b * k.c=p at *
 generalize m.a * k.b + m.b * k.d=q at *
 generalize m.c * k.a + m.d * k.c=r at *
 generalize m.c * k.b + m.d * k.d=t at *
 clear h1 h2 h3 h4 g1 g2 g3 g4 hs
 have neg:∀R:D→Prop,R (⟨p,q,r,t⟩:M4).neg.toD→comps dU (aC gr (cC (.int 0)) (ag 0)) [none] (fun ds=>R (.tup ds)) [.int p,.int q,.int r,.int t] []:=fun R hR=>by
  simp_all_arith only [comps,fA,Int.zero_sub]
  exact hR
 refine⟨_,rfl,?_⟩
 simp_all_arith only [and_true]
 by_cases c1:r < 0
 ·rw [M4.kM (show (⟨p,q,r,t⟩:M4).oi from .inl c1)] at h
  rw [KS c1]
  exact neg _ h
 ·rw [KQ c1]
  refine⟨_,rfl,?_⟩
  simp_all_arith only [and_true]
  by_cases c2:r=0
  ·rw [KS c2]
   refine⟨_,rfl,?_⟩
   simp_all_arith only [and_true]
   by_cases c3:t < 0
   ·rw [M4.kM (show (⟨p,q,r,t⟩:M4).oi from .inr ⟨c2,c3⟩)] at h
    rw [KS c3]
    exact neg _ h
   ·rw [M4.kH (show ¬ (⟨p,q,r,t⟩:M4).oi from by unfold M4.oi;simp only;omega)] at h
    rw [KQ c3];exact h
  ·rw [M4.kH (show ¬ (⟨p,q,r,t⟩:M4).oi from by unfold M4.oi;simp only;omega)] at h
   rw [KQ c2];exact h
def isLet (c:Nat):Prop:=c=115∨c=114∨c=113
def LW (z:Str):Prop:=∀c∈z.cps.toList,isLet c
def pb:List Nat→Prop
 | x :: y :: r=>((x=115)↔¬ (y=115))∧pb (y :: r)
 | _=>True
theorem rq:∀(xs:List Nat) (y:Nat),pb xs→(∀x,xs.getLast?=some x→((x=115)↔¬ (y=115)))→pb (xs ++ [y])
 | [],_,_,_=>trivial
 | [x],y,_,h=>⟨h x rfl,trivial⟩
 | x :: x' :: r,y,h,hl=>⟨h.1,rq (x' :: r) y h.2 (fun z hz=>hl z (by simpa [List.getLast?_cons_cons] using hz))⟩
def aF (c:Nat):M4:=if c=115 then ⟨0,-1,1,0⟩ else if c=114 then ⟨0,-1,1,-1⟩ else ⟨1,-1,1,0⟩
theorem pf (c:Nat):(aF c).B 1:=by
 unfold aF;split
 ·exact⟨dR _ _ (by decide),dR _ _ (by decide),dR _ _ (by decide),dR _ _ (by decide)⟩
 ·split
  ·exact⟨dR _ _ (by decide),dR _ _ (by decide),dR _ _ (by decide),dR _ _ (by decide)⟩
  ·exact⟨dR _ _ (by decide),dR _ _ (by decide),dR _ _ (by decide),dR _ _ (by decide)⟩
theorem bM (c:Nat):(aF c).det=1:=by
 unfold aF;split
 ·rfl
 ·split <;> rfl
theorem snoc_ind {α:Type} {P:List α→Prop} (h0:P []) (hs:∀r c,P r→P (r ++ [c])) (xs:List α):P xs:=by
 have h:∀ys:List α,P ys.reverse:=fun ys=>by
  induction ys with
  | nil=>exact h0
  | cons y r ih=>rw [List.reverse_cons];exact hs _ _ ih
 simpa using h xs.reverse
def gQ (cs:List Nat):M4:=cs.foldl (fun m c=>(m.mul (aF c)).up) M4.one
theorem iN (cs:List Nat) (c:Nat):gQ (cs ++ [c])=((gQ cs).mul (aF c)).up:=by
 unfold gQ;rw [List.foldl_append];rfl
theorem yG (cs:List Nat):(gQ cs).B (2 * cs.length + 1):=by
 refine snoc_ind (P:=fun cs=>(gQ cs).B (2 * cs.length + 1)) ?_ ?_ cs
 ·exact⟨dR _ _ (by decide),dR _ _ (by decide),dR _ _ (by decide),dR _ _ (by decide)⟩
 ·intro r c ih
  rw [iN]
  exact ((ih.mul (pf c)).up).le (by simp;omega)
theorem yM (cs:List Nat):(gQ cs).T:=by
 refine snoc_ind (P:=fun cs=>(gQ cs).T) ?_ ?_ cs
 ·exact⟨rfl,.inr ⟨rfl,rfl⟩⟩
 ·intro r c ih
  rw [iN]
  exact M4.HZ (by rw [M4.dD,ih.1,bM];rfl)
def Fn (x:D) (Q:D→Prop):Prop:=∃z:Str,x=.str z∧LW z∧z.length≤100000∧Q (gQ z.cps.toList).toD
end L2.L3
namespace L2.L3
open PySem
abbrev Z2:=Int×Int
def de (x:Z2):D:=.tup [.int x.1,.int x.2]
def bT (x:Z2):Z2:=(-x.1,-x.2)
def mO (x:Z2):Prop:=x.2 < 0∨(x.2=0∧x.1 < 0)
instance (x:Z2):Decidable (mO x):=inferInstanceAs (Decidable (_∨_))
def qT (x:Z2):Z2:=if mO x then bT x else x
theorem gB {x:Z2} (h:mO x):qT x=bT x:=KS h
theorem fu {x:Z2} (h:¬ mO x):qT x=x:=KQ h
def Fr (x:Z2):Prop:=Int.gcd x.1 x.2=1∧(0 < x.2∨(x.2=0∧x.1=1))
theorem Fx (p q:Int):Jc p q=de (qT (p,q)):=by
 unfold Jc
 split
 ·rename_i h;rw [gB (show mO (p,q) from h)];rfl
 ·rename_i h;rw [fu (show ¬ mO (p,q) from h)];rfl
theorem fW (x:Z2):qT x=x∨qT x=bT x:=by
 by_cases h:mO x
 ·exact .inr (gB h)
 ·exact .inl (fu h)
theorem oy {x:Z2} (h:¬ (x.1=0∧x.2=0)):qT (bT x)=qT x:=by
 obtain⟨p,q⟩:=x
 simp only at h
 by_cases h1:q < 0∨(q=0∧p < 0)
 ·rw [gB (x:=(p,q)) h1,fu]
  show ¬ (-q < 0∨(-q=0∧-p < 0));omega
 ·rw [fu (x:=(p,q)) h1,gB]
  ·simp [bT]
  ·show (-q < 0∨(-q=0∧-p < 0));omega
theorem GP {x:Z2} (h:Fr x):qT x=x:=by
 refine fu ?_
 unfold mO
 rcases h.2 with z | ⟨z,y⟩ <;> omega
theorem yk {x:Z2} (h:Fr x):¬ (x.1=0∧x.2=0):=by rcases h.2 with z | ⟨z,y⟩ <;> omega
theorem GG {x:Z2} (h:Int.gcd x.1 x.2=1):Fr (qT x):=by
 have key:Int.gcd (bT x).1 (bT x).2=1:=by simpa [bT,Int.gcd] using h
 refine⟨by rcases fW x with e | e <;> rw [e] <;> assumption,?_⟩
 obtain⟨p,q⟩:=x
 simp only at h
 by_cases h1:q < 0∨(q=0∧p < 0)
 ·rw [gB (x:=(p,q)) h1]
  rcases h1 with h1 | ⟨h1,h2⟩
  ·left;show 0 < -q;omega
  ·right;subst h1
   have:p.natAbs=1:=by simpa [Int.gcd] using h
   refine⟨by simp [bT],?_⟩
   show -p=1;omega
 ·rw [fu (x:=(p,q)) h1]
  by_cases h2:0 < q
  ·exact .inl h2
  ·right
   have h0:q=0:=by omega
   subst h0
   have:p.natAbs=1:=by simpa [Int.gcd] using h
   refine⟨rfl,?_⟩
   show p=1;omega
def act (m:M4) (x:Z2):Z2:=(m.a * x.1 + m.b * x.2,m.c * x.1 + m.d * x.2)
theorem C2 (m:M4) (x:Z2):act m (bT x)=bT (act m x):=by
 simp only [act,bT,Prod.mk.injEq];constructor <;> grind
theorem tR (m:M4) (x:Z2):act m.neg x=bT (act m x):=by
 simp only [act,bT,M4.neg,Prod.mk.injEq];constructor <;> grind
theorem oI (m k:M4) (x:Z2):act (m.mul k) x=act m (act k x):=by
 simp only [act,M4.mul,Prod.mk.injEq];constructor <;> grind
theorem x6 {m:M4} (h:m.det=1) (x:Z2):act m.con (act m x)=x:=by
 obtain⟨p,q⟩:=x
 simp only [act,M4.con,Prod.mk.injEq]
 unfold M4.det at h
 constructor
 ·have:m.d * (m.a * p + m.b * q) + -m.b * (m.c * p + m.d * q)=(m.a * m.d - m.b * m.c) * p:=by grind
  rw [this,h,Int.one_mul]
 ·have:-m.c * (m.a * p + m.b * q) + m.a * (m.c * p + m.d * q)=(m.a * m.d - m.b * m.c) * q:=by grind
  rw [this,h,Int.one_mul]
theorem yV {g x y:Int} (u v:Int) (hx:g ∣ x) (hy:g ∣ y):g ∣ u * x + v * y:=Int.dvd_add (Int.dvd_mul_of_dvd_right hx) (Int.dvd_mul_of_dvd_right hy)
theorem DS {m:M4} (h:m.det=1) (x:Z2):Int.gcd (act m x).1 (act m x).2=Int.gcd x.1 x.2:=by
 have one:∀(m:M4) (x:Z2),Int.gcd x.1 x.2 ∣ Int.gcd (act m x).1 (act m x).2:=fun m x =>
  Int.dvd_gcd (yV _ _ (Int.gcd_dvd_left ..) (Int.gcd_dvd_right ..)) (yV _ _ (Int.gcd_dvd_left ..) (Int.gcd_dvd_right ..))
 refine Nat.dvd_antisymm ?_ (one m x)
 have:=one m.con (act m x)
 rwa [x6 h] at this
theorem uC (m:M4):m.up=m∨m.up=m.neg:=by
 unfold M4.up;split
 ·exact .inr rfl
 ·exact .inl rfl
theorem Fq (m:M4) (x:Z2):act m.up x=act m x∨act m.up x=bT (act m x):=by
 rcases uC m with e | e <;> rw [e]
 ·exact .inl rfl
 ·exact .inr (tR m x)
theorem zd (x:Z2):bT (bT x)=x:=by simp [bT]
theorem pZ {m:M4} (h:m.det=1) {x:Z2} (hx:¬ (x.1=0∧x.2=0)):¬ ((act m x).1=0∧(act m x).2=0):=fun z=>by
 have e:=x6 h x
 have:act m x=(0,0):=Prod.ext z.1 z.2
 rw [this] at e
 have e2:act m.con (0,0)=(0,0):=by simp [act]
 rw [e2] at e
 rw [← e] at hx;exact hx ⟨rfl,rfl⟩
theorem AD {x y:Z2} (hx:¬ (x.1=0∧x.2=0)) (h:y=x∨y=bT x):qT y=qT x:=by
 rcases h with rfl | rfl
 ·rfl
 ·exact oy hx
def aO (m:M4) (x:Z2):Z2:=qT (act m x)
theorem iJ {m:M4} (h:m.det=1) {x:Z2} (hx:Fr x):Fr (aO m x):=GG (by rw [DS h];exact hx.1)
theorem CF {m:M4} (h:m.det=1) {x:Z2} (hx:¬ (x.1=0∧x.2=0)):aO m.up x=aO m x:=AD (pZ h hx) (Fq m x)
theorem jZ {m k:M4} (hm:m.det=1) (hk:k.det=1) {x:Z2} (hx:¬ (x.1=0∧x.2=0)):aO m (aO k x)=aO (m.mul k) x:=by
 unfold aO
 rw [oI]
 have h1:=pZ hk hx
 rcases fW (act k x) with e | e <;> rw [e]
 rw [C2]
 exact oy (pZ hm h1)
end L2.L3
namespace L2.L3
open PySem
def BD (x y z u:D) (Q:D→Prop):Prop:=∃(m:M4) (n:Nat),x=.int m.a∧y=.int m.b∧z=.int m.c∧u=.int m.d∧m.B n∧n≤400000∧m.det=1∧Q m.up.toD
def cW:Fw:=F4 BD
def mH:bH:=(aG (hV (aK (aC sT (aC gr (aC cQ (ag 0) (ag 3)) (aC cQ (ag 1) (ag 2))) (cC (.int 1)))) jx br) (aG (hV (zw (aK (aC wm (ag 2) (cC (.int 0)))) (kc (aK (aC ja (ag 2) (cC (.int 0)))) (aK (aC wm (ag 3) (cC (.int 0)))))) (bc (bD (af (lq fK (ag 0)) (af (lq fK (ag 1)) (af (lq fK (ag 2)) (af (lq fK (ag 3)) av)))))) br) (bc (bD (af (ag 0) (af (ag 1) (af (ag 2) (af (ag 3) av))))))))
theorem uN:∀ds Q,cW ds Q→ds.length=4:=Il
theorem xi:∀ds (Q:D→Prop),cW ds Q→mH { nx:=fun _=>Q .non,rt:=Q } (aE ["a","b","c","d"] ds):=by
 rintro ds Q ⟨x,y,z,u,rfl,m,n,rfl,rfl,rfl,rfl,⟨h1,h2,h3,h4⟩,hn,hd,h⟩
 simp_all_arith only [mH]
 unfold M4.det at hd
 refine⟨bK h1 h4 (by omega),bK h2 h3 (by omega),?_⟩
 rw [KQ (by omega)]
 by_cases c1:m.c < 0
 ·rw [M4.kM (show m.oi from .inl c1)] at h
  rw [KS c1];exact h
 ·rw [KQ c1]
  by_cases c2:m.c=0
  ·rw [KS c2]
   by_cases c3:m.d < 0
   ·rw [M4.kM (show m.oi from .inr ⟨c2,c3⟩)] at h
    rw [KS c3];exact h
   ·rw [M4.kH (show ¬ m.oi from by unfold M4.oi;omega)] at h
    rw [KQ c3];exact h
  ·rw [M4.kH (show ¬ m.oi from by unfold M4.oi;omega)] at h
   rw [KQ c2];exact h
def He (x y:D) (Q:D→Prop):Prop:=∃(m k:M4) (n j:Nat),x=m.toD∧y=k.toD∧m.B n∧k.B j∧n + j < 400000∧m.det=1∧k.det=1∧Q (m.mul k).up.toD
def fg:Fw:=F2 He
def sM:bH:=(aG (gT (ag 0) (fQ 4 (aR (aM 2) (aR (aM 3) (aR (aM 4) (aR (aM 5) fR)))))) (aG (gT (ag 1) (fQ 4 (aR (aM 6) (aR (aM 7) (aR (aM 8) (aR (aM 9) fR)))))) (bc (aB cW (af (aC bO (aC cQ (ag 2) (ag 6)) (aC cQ (ag 3) (ag 8))) (af (aC bO (aC cQ (ag 2) (ag 7)) (aC cQ (ag 3) (ag 9))) (af (aC bO (aC cQ (ag 4) (ag 6)) (aC cQ (ag 5) (ag 8))) (af (aC bO (aC cQ (ag 4) (ag 7)) (aC cQ (ag 5) (ag 9))) av))))))))
theorem y6:∀ds Q,fg ds Q→ds.length=2:=jg
theorem Au:∀ds (Q:D→Prop),fg ds Q→sM { nx:=fun _=>Q .non,rt:=Q } (aE ["one","other","a","b","c","d","e","f","g","h"] ds):=by
 rintro ds Q ⟨x,y,rfl,m,k,n,j,rfl,rfl,hm,hk,hs,hdm,hdk,h⟩
 obtain⟨h1,h2,h3,h4⟩:=id hm
 obtain⟨g1,g2,g3,g4⟩:=id hk
 simp_all_arith only [sM,M4.toD,cW,El]
 refine⟨bK h1 g1 (by omega),bK h2 g3 (by omega),bK h1 g2 (by omega),bK h2 g4 (by omega),bK h3 g1 (by omega),bK h4 g3 (by omega),bK h3 g2 (by omega),bK h4 g4 (by omega),?_⟩
 exact⟨m.mul k,_,rfl,rfl,rfl,rfl,hm.mul hk,by omega,by rw [M4.dD,hdm,hdk];rfl,h⟩
theorem oD {m:M4} (h:m.det=1):m.con.det=1:=by unfold M4.det M4.con at *;simp only;grind
theorem yZ {m:M4} {n:Nat} (h:m.B n):m.con.B n:=⟨h.2.2.2,bits_neg h.2.1,bits_neg h.2.2.1,h.1⟩
def z9 (x:D) (Q:D→Prop):Prop:=∃(m:M4) (n:Nat),x=m.toD∧m.B n∧n≤400000∧m.det=1∧Q m.con.up.toD
def bJ:Fw:=F1 z9
def kD:bH:=(aG (gT (ag 0) (fQ 4 (aR (aM 1) (aR (aM 2) (aR (aM 3) (aR (aM 4) fR)))))) (bc (aB cW (af (ag 4) (af (lq fK (ag 2)) (af (lq fK (ag 3)) (af (ag 1) av)))))))
theorem sW:∀ds Q,bJ ds Q→ds.length=1:=gH
theorem wb:∀ds (Q:D→Prop),bJ ds Q→kD { nx:=fun _=>Q .non,rt:=Q } (aE ["one","a","b","c","d"] ds):=by
 rintro ds Q ⟨x,rfl,m,n,rfl,hm,hs,hd,h⟩
 simp_all_arith only [kD,M4.toD,cW,El]
 exact⟨m.con,n,rfl,rfl,rfl,rfl,yZ hm,hs,oD hd,h⟩
def B2 (n:Nat) (x:Z2):Prop:=aU n x.1∧aU n x.2
theorem B5 {n m:Nat} {x:Z2} (h:B2 n x) (hm:n≤m):B2 m x:=⟨bits_le h.1 hm,bits_le h.2 hm⟩
theorem E5 {x:Z2} {n:Nat} (h:B2 n x):B2 n (bT x):=⟨bits_neg h.1,bits_neg h.2⟩
theorem EH {x:Z2} {n:Nat} (h:B2 n x):B2 n (qT x):=by
 rcases fW x with e | e <;> rw [e]
 ·exact h
 ·exact E5 h
def Ke (x y:D) (Q:D→Prop):Prop:=∃(m:M4) (p:Z2) (n j:Nat),x=m.toD∧y=de p∧m.B n∧B2 j p∧n + j≤400000∧Q (de (aO m p))
def qW:Fw:=F2 Ke
def Cb:bH:=(aG (gT (ag 0) (fQ 4 (aR (aM 2) (aR (aM 3) (aR (aM 4) (aR (aM 5) fR)))))) (aG (gT (ag 1) (fQ 2 (aR (aM 6) (aR (aM 7) fR)))) (bc (aB fY (af (aC bO (aC cQ (ag 2) (ag 6)) (aC cQ (ag 3) (ag 7))) (af (aC bO (aC cQ (ag 4) (ag 6)) (aC cQ (ag 5) (ag 7))) av))))))
theorem CB:∀ds Q,qW ds Q→ds.length=2:=jg
theorem Gh:∀ds (Q:D→Prop),qW ds Q→Cb { nx:=fun _=>Q .non,rt:=Q } (aE ["one","fraction","a","b","c","d","p","q"] ds):=by
 rintro ds Q ⟨x,y,rfl,m,p,n,j,rfl,rfl,⟨h1,h2,h3,h4⟩,⟨g1,g2⟩,hs,h⟩
 simp_all_arith only [Cb,M4.toD,de,fY,jt,Kq]
 refine⟨bK h1 g1 (by omega),bK h2 g2 (by omega),bK h3 g1 (by omega),bK h4 g2 (by omega),?_⟩
 refine⟨_,_,rfl,rfl,?_⟩
 rw [Fx];exact h
theorem Ib:B2 1 ((1,0):Z2):=⟨dR _ _ (by decide),dR _ _ (by decide)⟩
end L2.L3
namespace L2.L3
open PySem
theorem Fs {m:M4} (h:m.det=1):m.neg.up=m.up:=by
 have hne:¬ (m.c=0∧m.d=0):=fun⟨z,w⟩=>by unfold M4.det at h;rw [z,w] at h;simp at h
 have nn:m.neg.neg=m:=by simp [M4.neg]
 by_cases hl:m.oi
 ·rw [M4.kM hl,M4.kH]
  unfold M4.oi M4.neg at *;simp only;omega
 ·rw [M4.kH hl,M4.kM,nn]
  unfold M4.oi M4.neg at *;simp only;omega
theorem Iv {m k:M4} (h:m.det=1) (e:k=m∨k=m.neg):k.up=m.up:=by
 rcases e with rfl | rfl
 ·rfl
 ·exact Fs h
theorem Aj (m:M4):act m (1,0)=(m.a,m.c):=by simp [act]
theorem FU (x y:Z2):a5 (de x) (de y)=decide (x=y):=by
 simp only [de,a5,eN,Bool.and_true]
 rw [Bool.eq_iff_iff];simp [Prod.ext_iff]
theorem AB (x:Z2):dep (de x)=1:=by simp [de,dep,bE]
theorem AO {x y:Z2} {Q:D→Prop}:sT (de x) (de y) Q=Q (.bl (!decide (x=y))):=by
 unfold sT kz;rw [AB,AB,FU];simp
end L2.L3
namespace L2.L3
open PySem
def G2 (P:D→D→(D→Prop)→(Str→Prop)→Prop):BS:=fun ds Q R=>∃x y,ds=[x,y]∧P x y Q R
theorem HG {P}:∀ds (Q:D→Prop) (R:Str→Prop),G2 P ds Q R→ds.length=2:=by rintro ds Q R ⟨x,y,rfl,_⟩;rfl
theorem Im {P} {x y:D} {Q R}:G2 P [x,y] Q R=P x y Q R:=by
 unfold G2;apply propext;constructor
 ·rintro⟨x',y',e,h⟩;cases e;exact h
 ·intro h;exact⟨_,_,rfl,h⟩
end L2.L3
namespace L2.L3
open PySem
theorem rT {m k:M4} (h1:m.a=k.a) (h2:m.b=k.b) (h3:m.c=k.c) (h4:m.d=k.d):m=k:=by cases m;cases k;simp_all
theorem uK (m k:M4):m.neg.mul k=(m.mul k).neg:=by apply rT <;> simp only [M4.mul,M4.neg] <;> grind
theorem uT (m k:M4):m.mul k.neg=(m.mul k).neg:=by apply rT <;> simp only [M4.mul,M4.neg] <;> grind
theorem fw (m k l:M4):(m.mul k).mul l=m.mul (k.mul l):=by apply rT <;> simp only [M4.mul] <;> grind
theorem jd (m:M4):M4.one.mul m=m:=by apply rT <;> simp only [M4.mul,M4.one] <;> grind
theorem uM (m:M4):m.mul M4.one=m:=by apply rT <;> simp only [M4.mul,M4.one] <;> grind
theorem jB (m:M4):m.neg.neg=m:=by apply rT <;> simp [M4.neg]
def Eqv (m k:M4):Prop:=m=k∨m=k.neg
theorem Eqv.refl (m:M4):Eqv m m:=.inl rfl
theorem Eqv.symm {m k:M4} (h:Eqv m k):Eqv k m:=by
 rcases h with rfl | rfl
 ·exact .inl rfl
 ·exact .inr (jB k).symm
theorem Eqv.trans {m k l:M4} (h:Eqv m k) (g:Eqv k l):Eqv m l:=by
 rcases h with rfl | rfl
 ·exact g
 ·rcases g with rfl | rfl
  ·exact .inr rfl
  ·rw [jB];exact .inl rfl
theorem Eqv.mul {m m' k k':M4} (h:Eqv m m') (g:Eqv k k'):Eqv (m.mul k) (m'.mul k'):=by
 rcases h with rfl | rfl <;> rcases g with rfl | rfl
 ·exact .inl rfl
 ·exact .inr (uT _ _)
 ·exact .inr (uK _ _)
 ·rw [uK,uT,jB];exact .inl rfl
theorem Eqv.up (m:M4):Eqv m.up m:=uC m
def aw:List Nat→M4
 | []=>M4.one
 | c :: r=>(aF c).mul (aw r)
theorem dM (cs:List Nat) (c:Nat):aw (cs ++ [c])=(aw cs).mul (aF c):=by
 induction cs with
 | nil=>show (aF c).mul M4.one=M4.one.mul (aF c);rw [uM,jd]
 | cons x r ih=>show (aF x).mul (aw (r ++ [c]))=((aF x).mul (aw r)).mul (aF c);rw [ih,fw]
theorem zW (cs:List Nat):Eqv (gQ cs) (aw cs):=by
 refine snoc_ind (P:=fun cs=>Eqv (gQ cs) (aw cs)) (.refl _) (fun r c ih=>?_) cs
 rw [iN,dM]
 exact (Eqv.up _).trans (ih.mul (.refl _))
def Cy (m:M4):Prop:=1≤m.a∧1≤m.d∧m.b≤0∧m.c≤0∧m.det=1
def Ff (m:M4):Prop:=∃t:M4,Cy t∧(Eqv m t∨Eqv m (t.mul (aF 115)))
def bf (cs:List Nat):Prop:=pb cs∧∀c∈cs,isLet c
theorem bf.tail {c:Nat} {r:List Nat} (h:bf (c :: r)):bf r:=by
 refine⟨?_,fun x hx=>h.2 x (K4 _ hx)⟩
 cases r with
 | nil=>trivial
 | cons y s=>exact h.1.2
theorem EC {t:M4} (h:Cy t):Cy ((⟨1,-1,0,1⟩:M4).mul t)∧((⟨1,-1,0,1⟩:M4).mul t).b < 0:=by
 obtain⟨h1,h2,h3,h4,h5⟩:=h
 have hd:((⟨1,-1,0,1⟩:M4).mul t).det=1:=by rw [M4.dD,h5];rfl
 refine⟨⟨?_,?_,?_,?_,hd⟩,?_⟩ <;> simp only [M4.mul] <;> omega
theorem Eh {t:M4} (h:Cy t):Cy ((⟨1,0,-1,1⟩:M4).mul t)∧((⟨1,0,-1,1⟩:M4).mul t).c < 0:=by
 obtain⟨h1,h2,h3,h4,h5⟩:=h
 have hd:((⟨1,0,-1,1⟩:M4).mul t).det=1:=by rw [M4.dD,h5];rfl
 refine⟨⟨?_,?_,?_,?_,hd⟩,?_⟩ <;> simp only [M4.mul] <;> omega
theorem J6:Eqv ((aF 115).mul (aF 114)) ⟨1,-1,0,1⟩:=.inr (by decide)
theorem Ka:Eqv ((aF 115).mul (aF 113)) ⟨1,0,-1,1⟩:=.inr (by decide)
def p9 (m:M4):Prop:=∃t:M4,Cy t∧((Eqv m t∧(t.b < 0∨t.c < 0))∨Eqv m (t.mul (aF 115)))
theorem p9.KC {m:M4} (h:p9 m):Ff m:=by
 obtain⟨t,p,h⟩:=h
 exact⟨t,p,h.imp (·.1) id⟩
theorem yE:Cy M4.one:=by unfold Cy;decide
theorem yF:Ff M4.one:=⟨M4.one,yE,.inl (.refl _)⟩
theorem qS {u m:M4} (hu:∀t,Cy t→Cy (u.mul t)∧((u.mul t).b < 0∨(u.mul t).c < 0)) (h:Ff m):p9 (u.mul m):=by
 obtain⟨t,p,h⟩:=h
 refine⟨u.mul t,(hu t p).1,?_⟩
 rcases h with h | h
 ·exact .inl ⟨(Eqv.refl u).mul h,(hu t p).2⟩
 ·right;rw [fw];exact (Eqv.refl u).mul h
theorem p9.eqv {m k:M4} (h:p9 k) (e:Eqv m k):p9 m:=by
 obtain⟨t,p,h⟩:=h
 exact⟨t,p,h.imp (fun z=>⟨e.trans z.1,z.2⟩) fun z=>e.trans z⟩
theorem Aa:p9 (aF 115):=⟨M4.one,yE,.inr (by rw [jd];exact .refl _)⟩
theorem pR:∀(cs:List Nat),bf cs→(cs=[]→Ff (aw cs))∧(∀r,cs=115 :: r→p9 (aw cs))∧∀c r,cs=c :: r→c≠115→Ff (aw r)
 | [],_=>⟨fun _=>yF,fun r h=>by simp at h,fun c r h=>by simp at h⟩
 | [c],h=>by
  refine⟨fun e=>by simp at e,fun r e=>?_,fun x r e _=>?_⟩
  ·cases e;show p9 ((aF 115).mul M4.one);rw [uM];exact Aa
  ·cases e;exact yF
 | c :: y :: r,h=>by
  have ih:=pR (y :: r) h.tail
  have ih2:=pR r h.tail.tail
  refine⟨fun e=>by simp at e,fun r' e=>?_,fun x r' e hx=>?_⟩
  ·cases e
   have hy:y≠115:=h.1.1.mp rfl
   have hb:=ih.2.2 y r rfl hy
   have hl:isLet y:=h.2 y (by simp)
   show p9 ((aF 115).mul ((aF y).mul (aw r)))
   rw [← fw]
   rcases hl with z | z | z
   ·exact absurd z hy
   ·subst z
    exact (qS (fun t p=>⟨(EC p).1,.inl (EC p).2⟩) hb).eqv (J6.mul (.refl _))
   ·subst z
    exact (qS (fun t p=>⟨(Eh p).1,.inr (Eh p).2⟩) hb).eqv (Ka.mul (.refl _))
  ·cases e
   have hy:y=115:=by
    rcases Nat.decEq y 115 with z | z
    ·exact absurd (h.1.1.mpr z) hx
    ·exact z
   subst hy
   exact (ih.2.1 r rfl).KC
def kR (p q:Int):Prop:=(p < 0∧0 < q)∨(q < 0∧0 < p)
instance (p q:Int):Decidable (kR p q):=inferInstanceAs (Decidable (_∨_))
def upper (m:M4):Nat:=m.a.natAbs + m.b.natAbs
def lower (m:M4):Nat:=m.c.natAbs + m.d.natAbs
def wY (m:M4):Nat:=if upper m=lower m∨kR m.a m.c∨kR m.b m.d then 115 else if upper m < lower m then 114 else 113
theorem Dw (m:M4):wY m.neg=wY m:=by
 have e1:upper m.neg=upper m:=by unfold upper M4.neg;simp
 have e2:lower m.neg=lower m:=by unfold lower M4.neg;simp
 have d1:kR m.neg.a m.neg.c↔kR m.a m.c:=by unfold kR M4.neg;simp only;omega
 have d2:kR m.neg.b m.neg.d↔kR m.b m.d:=by unfold kR M4.neg;simp only;omega
 unfold wY
 rw [e1,e2]
 simp only [d1,d2]
theorem iA {m k:M4} (h:Eqv m k):wY m=wY k:=by
 rcases h with rfl | rfl
 ·rfl
 ·exact Dw k
theorem iL {m k:M4} (h:Eqv m k):(m.b≠0∨m.c≠0)↔(k.b≠0∨k.c≠0):=by
 rcases h with rfl | rfl
 ·exact Iff.rfl
 ·unfold M4.neg;simp only;omega
theorem J1 {m:M4} (h:p9 m):wY m=115∧(m.b≠0∨m.c≠0):=by
 obtain⟨t,⟨h1,h2,h3,h4,h5⟩,h⟩:=h
 rcases h with ⟨e,hn⟩ | e
 ·rw [iA e,iL e]
  refine⟨?_,by omega⟩
  unfold wY
  rw [KS]
  unfold kR
  right
  omega
 ·rw [iA e,iL e]
  have ee:t.mul (aF 115)=⟨t.b,-t.a,t.d,-t.c⟩:=by apply rT <;> simp [M4.mul,aF]
  rw [ee]
  refine⟨?_,by simp only;omega⟩
  unfold wY upper lower kR
  rw [KS]
  simp only
  by_cases hb:t.b < 0
  ·right;left;left;omega
  ·by_cases hc:t.c < 0
   ·right;right;left;omega
   ·left
    have b0:t.b=0:=by omega
    have c0:t.c=0:=by omega
    unfold M4.det at h5
    rw [b0,c0,Int.mul_zero,Int.sub_zero] at h5
    have ha:t.a=1:=Int.eq_one_of_dvd_one (by omega) ⟨t.d,h5.symm⟩
    rw [ha,Int.one_mul] at h5
    rw [ha,h5,b0,c0]
    decide
theorem JK {m:M4} (h:Ff m):wY ((aF 114).mul m)=114∧(((aF 114).mul m).b≠0∨((aF 114).mul m).c≠0):=by
 obtain⟨t,⟨h1,h2,h3,h4,h5⟩,h⟩:=h
 rcases h with e | e
 ·have e':=(Eqv.refl (aF 114)).mul e
  rw [iA e',iL e']
  have ee:(aF 114).mul t=⟨-t.c,-t.d,t.a - t.c,t.b - t.d⟩:=by apply rT <;> simp [M4.mul,aF] <;> omega
  rw [ee]
  unfold wY upper lower kR
  simp only
  refine⟨?_,by omega⟩
  rw [KQ (by omega),KS (by omega)]
 ·have e':=(Eqv.refl (aF 114)).mul e
  rw [iA e',iL e']
  have ee:(aF 114).mul (t.mul (aF 115))=⟨-t.d,t.c,t.b - t.d,t.c - t.a⟩:=by apply rT <;> simp [M4.mul,aF] <;> omega
  rw [ee]
  unfold wY upper lower kR
  simp only
  refine⟨?_,by omega⟩
  rw [KQ (by omega),KS (by omega)]
theorem Kg {m:M4} (h:Ff m):wY ((aF 113).mul m)=113∧(((aF 113).mul m).b≠0∨((aF 113).mul m).c≠0):=by
 obtain⟨t,⟨h1,h2,h3,h4,h5⟩,h⟩:=h
 rcases h with e | e
 ·have e':=(Eqv.refl (aF 113)).mul e
  rw [iA e',iL e']
  have ee:(aF 113).mul t=⟨t.a - t.c,t.b - t.d,t.a,t.b⟩:=by apply rT <;> simp [M4.mul,aF] <;> omega
  rw [ee]
  unfold wY upper lower kR
  simp only
  refine⟨?_,by omega⟩
  rw [KQ (by omega),KQ (by omega)]
 ·have e':=(Eqv.refl (aF 113)).mul e
  rw [iA e',iL e']
  have ee:(aF 113).mul (t.mul (aF 115))=⟨t.b - t.d,t.c - t.a,t.b,-t.a⟩:=by apply rT <;> simp [M4.mul,aF] <;> omega
  rw [ee]
  unfold wY upper lower kR
  simp only
  refine⟨?_,by omega⟩
  rw [KQ (by omega),KQ (by omega)]
theorem oF {c:Nat} {r:List Nat} {m:M4} (h:bf (c :: r)) (e:Eqv m (aw (c :: r))):wY m=c∧(m.b≠0∨m.c≠0):=by
 rw [iA e,iL e]
 have w:=pR (c :: r) h
 rcases h.2 c (by simp) with z | z | z
 ·subst z;exact J1 (w.2.1 r rfl)
 ·subst z;exact JK (w.2.2 _ r rfl (by decide))
 ·subst z;exact Kg (w.2.2 _ r rfl (by decide))
def tH (c:Nat) (m:M4):M4:=if c=115 then ⟨-m.c,-m.d,m.a,m.b⟩ else if c=114 then ⟨m.a - m.c,m.b - m.d,m.a,m.b⟩ else ⟨-m.c,-m.d,m.a - m.c,m.b - m.d⟩
theorem v5 (c:Nat) (hc:isLet c) (k:M4):Eqv (tH c ((aF c).mul k)) k:=by
 rcases hc with z | z | z <;> subst z
 ·right;apply rT <;> simp [tH,M4.mul,aF,M4.neg]
 ·right;apply rT <;> simp [tH,M4.mul,aF,M4.neg] <;> omega
 ·right;apply rT <;> simp [tH,M4.mul,aF,M4.neg] <;> omega
theorem AI (c:Nat) (m:M4):tH c m.neg=(tH c m).neg:=by
 unfold tH;split
 ·simp [M4.neg]
 ·split
  ·apply rT <;> simp [M4.neg] <;> omega
  ·apply rT <;> simp [M4.neg] <;> omega
theorem rW {c:Nat} {r:List Nat} {m:M4} (hc:isLet c) (e:Eqv m (aw (c :: r))):Eqv (tH c m) (aw r):=by
 rcases e with rfl | rfl
 ·exact v5 c hc _
 ·rw [AI]
  rcases v5 c hc (aw r) with z | z
  ·exact .inr (congrArg M4.neg z)
  ·left;show ((tH c ((aF c).mul (aw r))).neg)=_;rw [z,jB]
theorem vQ {m:M4} (e:Eqv m M4.one):m.b=0∧m.c=0:=by
 rcases e with rfl | rfl <;> decide
def iH (c:Nat):Str:=⟨#[c]⟩
theorem ya (x y:Str):x ++ y=⟨x.cps ++ y.cps⟩:=rfl
theorem o3:∀cs:List Nat,Str.join (Str.ofString "") (cs.map iH)=⟨cs.toArray⟩
 | []=>rfl
 | [c]=>rfl
 | c :: y :: r=>by
  have ih:=o3 (y :: r)
  show iH c ++ Str.ofString "" ++ Str.join (Str.ofString "") ((y :: r).map iH)=_
  rw [ih,ya,ya]
  show (⟨#[c] ++ (Str.ofString "").cps ++ (y :: r).toArray⟩:Str)=⟨(c :: y :: r).toArray⟩
  rw [show (Str.ofString "").cps=#[] from rfl]
  simp
theorem qj (cs:List Nat):Txt.join (Str.ofString "") (cs.map iH)=⟨cs.toArray⟩:=(StrLaws.glued_eq_join _ _).trans (o3 cs)
theorem oQ:∀cs:List Nat,((cs.map iH).map (·.length)).sum=cs.length
 | []=>rfl
 | c :: r=>by
  have:=oQ r
  simp only [Ll,List.sum_cons,List.length_cons,this]
  rw [show (iH c).length=1 from rfl];omega
theorem u4 {xs:List D} {x:D}:kn (xs ++ [x]) (-1)=some x:=by
 unfold kn ux
 rw [KQ (by decide),KS (by simp;omega)]
 have e:((-1:Int) + ((xs ++ [x]).length:Nat)).toNat=xs.length:=by simp;omega
 show (xs ++ [x])[((-1:Int) + ((xs ++ [x]).length:Nat)).toNat]?=some x
 rw [e];simp
def dI (c:Nat):D:=.str (iH c)
end L2.L3
namespace L2.L3
open PySem
theorem rn:∀(u v:List Nat),bf u→bf v→Eqv (aw u) (aw v)→u=v
 | [],[],_,_,_=>rfl
 | [],d :: s,_,hv,e=>by
  have h:=(oF hv (m:=aw []) e).2
  obtain⟨hb,hc⟩:=vQ (Eqv.refl M4.one)
  rcases h with h | h
  ·exact absurd hb h
  ·exact absurd hc h
 | c :: r,[],hu,_,e=>by
  have h:=(oF hu (m:=aw []) e.symm).2
  obtain⟨hb,hc⟩:=vQ (Eqv.refl M4.one)
  rcases h with h | h
  ·exact absurd hb h
  ·exact absurd hc h
 | c :: r,d :: s,hu,hv,e=>by
  have h1:=(oF hu (Eqv.refl _)).1
  have h2:=(oF hv e).1
  have hcd:c=d:=h1.symm.trans h2
  subst hcd
  have hc:isLet c:=hu.2 c K9
  have e1:=rW hc (Eqv.refl (aw (c :: r)))
  have e2:=rW hc e
  rw [rn r s hu.tail hv.tail (e1.symm.trans e2)]
theorem qi:∀(r:List Nat) (c:Nat),pb (r ++ [c])→pb r∧∀x,r.getLast?=some x→((x=115)↔¬ (c=115))
 | [],_,_=>⟨trivial,fun x hx=>by simp at hx⟩
 | [x],c,a=>⟨trivial,fun y hy=>by simp at hy;subst hy;exact a.1⟩
 | x :: y :: r,c,a=>by
  have ih:=qi (y :: r) c a.2
  exact⟨⟨a.1,ih.1⟩,fun z hz=>ih.2 z (by simpa [List.getLast?_cons_cons] using hz)⟩
theorem zm {r:List Nat} {c:Nat} (h:bf (r ++ [c])):bf r∧(∀x,r.getLast?=some x→((x=115)↔¬ (c=115)))∧isLet c :=
 ⟨⟨(qi r c h.1).1,fun x hx=>h.2 x (List.mem_append_left _ hx)⟩,(qi r c h.1).2,h.2 c (by simp)⟩
theorem nH {r:List Nat} {c:Nat} (h:bf r) (hc:isLet c) (hl:∀x,r.getLast?=some x→((x=115)↔¬ (c=115))):bf (r ++ [c]):=by
 refine⟨rq r c h.1 hl,fun x hx=>?_⟩
 rcases Lf.mp hx with hx | hx
 ·exact h.2 x hx
 ·rw [Le.mp hx];exact hc
def fz (x c:Nat):Option (List Nat) :=
 if x=115∧c=115 then some [] else if x=114∧c=114 then some [113] else if x=113∧c=113 then some [114] else if (x=114∧c=113)∨(x=113∧c=114) then some [] else none
theorem BE {x c:Nat} {w:List Nat} (h:fz x c=some w):Eqv ((aF x).mul (aF c)) (aw w)∧w.length≤1∧(w=[]∨∃y,w=[y]∧isLet y∧y≠115∧x≠115):=by
 unfold fz at h
 split at h
 ·rename_i z;obtain⟨rfl,rfl⟩:=z;cases h;exact⟨.inr (by decide),by decide,.inl rfl⟩
 ·split at h
  ·rename_i z;obtain⟨rfl,rfl⟩:=z;cases h;exact⟨by rw [show aw [113]=aF 113 from by decide];exact .inr (by decide),by decide,.inr ⟨113,rfl,by unfold isLet;decide,by decide,by decide⟩⟩
  ·split at h
   ·rename_i z;obtain⟨rfl,rfl⟩:=z;cases h;exact⟨by rw [show aw [114]=aF 114 from by decide];first | exact .inr (by decide) | exact .inl (by decide),by decide,.inr ⟨114,rfl,by unfold isLet;decide,by decide,by decide⟩⟩
   ·split at h
    ·rename_i z;cases h
     rcases z with ⟨rfl,rfl⟩ | ⟨rfl,rfl⟩
     ·exact⟨.inr (by decide),by decide,.inl rfl⟩
     ·exact⟨.inr (by decide),by decide,.inl rfl⟩
    ·cases h
theorem zT {x c:Nat} (hx:isLet x) (hc:isLet c) (h:fz x c=none):(x=115↔¬ (c=115)):=by
 rcases hx with z | z | z <;> rcases hc with y | y | y <;> subst z <;> subst y <;> first | (exact absurd h (by decide)) | decide
def dP (ls:List Nat) (c:Nat):List Nat:=match ls.getLast? with
 | none=>[c]
 | some x=>match fz x c with
  | some w=>ls.dropLast ++ w
  | none=>ls ++ [c]
theorem pw {ls:List Nat} {c:Nat} (h:bf ls) (hc:isLet c):bf (dP ls c)∧Eqv (aw (dP ls c)) (aw (ls ++ [c]))∧(dP ls c).length≤ls.length + 1:=by
 rcases Lr ls with e | ⟨r,x,e⟩
 ·subst e
  exact⟨⟨trivial,fun y hy=>by rw [Le.mp hy];exact hc⟩,.refl _,by simp [dP]⟩
 ·rw [Lq] at e
  subst e
  obtain⟨hr,ha,hx⟩:=zm h
  unfold dP
  rw [LO]
  simp only
  cases q:fz x c with
  | none =>
   simp only
   refine⟨nH h hc fun y hy=>?_,.refl _,by simp⟩
   rw [LO] at hy;cases hy
   exact zT hx hc q
  | some w =>
   simp only
   rw [List.dropLast_concat]
   obtain⟨e1,e2,e3⟩:=BE q
   refine⟨?_,?_,by simp;omega⟩
   ·rcases e3 with rfl | ⟨y,rfl,hy,hy5,hx5⟩
    ·rw [Lu];exact hr
    ·refine nH hr hy fun z hz=>?_
     have:=ha z hz
     constructor
     ·intro _;exact hy5
     ·intro _;exact this.mpr hx5
   ·rw [dM,dM,fw]
    have app:∀u v:List Nat,aw (u ++ v)=(aw u).mul (aw v):=fun u v=>by
     induction u with
     | nil=>show aw v=M4.one.mul (aw v);rw [jd]
     | cons a s ih=>show (aF a).mul (aw (s ++ v))=((aF a).mul (aw s)).mul (aw v);rw [ih,fw]
    rw [app]
    exact (Eqv.refl _).mul e1.symm
end L2.L3
namespace L2.L3
open PySem
theorem DN {α:Type} (l:List α) (m:α) (j i:Nat) (hj:j≤l.length):(l.take j ++ m :: l.drop j)[i]?=if i < j then l[i]? else if i=j then some m else l[i - 1]?:=by
 have hl:(l.take j).length=j:=by rw [List.length_take];omega
 by_cases h1:i < j
 ·rw [KS h1,Lb (by omega),List.getElem?_take_of_lt h1]
 ·rw [KQ h1,Lc (by omega),hl]
  by_cases h2:i=j
  ·rw [KS h2,h2,Nat.sub_self];rfl
  ·rw [KQ h2,show i - j=(i - j - 1) + 1 by omega,List.getElem?_cons_succ,List.getElem?_drop]
   congr 1;omega
structure vU (k:Nat) (row:List Z2):Prop where
 len:row.length=k + 3
 first:row[0]?=some (-1,0)
 last:row[k + 2]?=some (1,0)
 det:∀(i:Nat) (p r:Z2),row[i]?=some p→row[i + 1]?=some r→p.1 * r.2 - p.2 * r.1 = -1
 low:∀(i:Nat) (p:Z2),row[i]?=some p→0 < i→i < k + 2→1≤p.2
 nought:∃i,0 < i∧i < k + 2∧row[i]?=some (0,1)
 bits:∀p∈row,B2 (k + 2) p
theorem JY:vU 0 [(-1,0),(0,1),(1,0)] where
 len:=rfl
 first:=rfl
 last:=rfl
 det:=fun i p r h1 h2=>by
  match i with
  | 0=>cases h1;cases h2;decide
  | 1=>cases h1;cases h2;decide
  | 2=>cases h2
  | i + 3=>cases h1
 low:=fun i p h h0 h1=>by
  have:i=1:=by omega
  subst this;cases h;decide
 nought:=⟨1,by decide,by decide,rfl⟩
 bits:=fun p hp=>by
  simp only [Ld,Lm,or_false] at hp
  rcases hp with rfl | rfl | rfl <;> exact⟨dR _ _ (by decide),dR _ _ (by decide)⟩
theorem GJ {k:Nat} {row:List Z2} (h:vU k row) {at_:Nat} (ha:at_ < k + 2) {p r:Z2} (hp:row[at_]?=some p) (hr:row[at_ + 1]?=some r) :
  vU (k + 1) (row.take (at_ + 1) ++ (p.1 + r.1,p.2 + r.2) :: row.drop (at_ + 1)):=by
 have hl:=h.len
 have g:=fun i=>DN row (p.1 + r.1,p.2 + r.2) (at_ + 1) i (by omega)
 have hd:=h.det at_ p r hp hr
 have pl:0≤p.2:=by
  by_cases z:at_=0
  ·subst z;rw [h.first] at hp;cases hp;decide
  ·have:=h.low at_ p hp (by omega) ha;omega
 have rl:0≤r.2:=by
  by_cases z:at_ + 1=k + 2
  ·rw [z,h.last] at hr;cases hr;decide
  ·have:=h.low (at_ + 1) r hr (by omega) (by omega);omega
 have ne:¬ (p.2=0∧r.2=0):=fun⟨a,b⟩=>by rw [a,b] at hd;simp at hd
 refine⟨by simp;omega,?_,?_,fun i x y h1 h2=>?_,fun i x h1 h0 h2=>?_,?_,fun x hx=>?_⟩
 ·rw [g,KS (by omega)];exact h.first
 ·rw [g,KQ (by omega),KQ (by omega)];exact h.last
 ·rw [g] at h1 h2
  by_cases c1:i < at_
  ·rw [KS (by omega)] at h1 h2;exact h.det i x y h1 h2
  ·by_cases c2:i=at_
   ·subst c2
    rw [KS (by omega),hp] at h1
    rw [KQ (by omega),KS rfl] at h2
    cases h1;cases h2
    show p.1 * (p.2 + r.2) - p.2 * (p.1 + r.1) = -1
    grind
   ·by_cases c3:i=at_ + 1
    ·subst c3
     rw [KQ (by omega),KS rfl] at h1
     rw [KQ (by omega),KQ (by omega),Nat.add_sub_cancel,hr] at h2
     cases h1;cases h2
     show (p.1 + r.1) * r.2 - (p.2 + r.2) * r.1 = -1
     grind
    ·rw [KQ (by omega),KQ c3] at h1
     rw [KQ (by omega),KQ (by omega)] at h2
     exact h.det (i - 1) x y h1 (by rw [show i - 1 + 1=i + 1 - 1 by omega];exact h2)
 ·rw [g] at h1
  by_cases c1:i < at_ + 1
  ·rw [KS c1] at h1;exact h.low i x h1 h0 (by omega)
  ·rw [KQ c1] at h1
   by_cases c2:i=at_ + 1
   ·rw [KS c2] at h1;cases h1
    show 1≤p.2 + r.2
    omega
   ·rw [KQ c2] at h1;exact h.low (i - 1) x h1 (by omega) (by omega)
 ·obtain⟨i,h0,h1,h2⟩:=h.nought
  by_cases c1:i < at_ + 1
  ·exact⟨i,h0,by omega,by rw [g,KS c1];exact h2⟩
  ·exact⟨i + 1,by omega,by omega,by rw [g,KQ (by omega),KQ (by omega),Nat.add_sub_cancel];exact h2⟩
 ·have hm:∀y∈row,B2 (k + 1 + 2) y:=fun y hy=>B5 (h.bits y hy) (by omega)
  rcases Lf.mp hx with hx | hx
  ·exact hm x (List.mem_of_mem_take hx)
  ·rcases Ld.mp hx with rfl | hx
   ·have b1:=h.bits p (K6 hp)
    have b2:=h.bits r (K6 hr)
    have e:∀{x y:Int},aU (k + 2) x→aU (k + 2) y→aU (k + 1 + 2) (x + y):=fun hx hy=>by
     have:=bits_add hx hy
     rw [Nat.max_self] at this
     exact bits_le this (by omega)
    exact⟨e b1.1 b2.1,e b1.2 b2.2⟩
   ·exact hm x (List.mem_of_mem_drop hx)
structure bQ (n:Nat) (fs:List Z2):Prop where
 len:fs.length=n
 two:2≤n
 most:n≤22
 first:fs[0]?=some (1,0)
 det0:∀p,fs[1]?=some p→p.2=1
 det:∀(i:Nat) (p r:Z2),0 < i→fs[i]?=some p→fs[i + 1]?=some r→p.1 * r.2 - p.2 * r.1 = -1
 last:∀p,fs[n - 1]?=some p→p.2=1
 low:∀(i:Nat) (p:Z2),fs[i]?=some p→0 < i→1≤p.2
 nought:(0,1)∈fs
 bits:∀p∈fs,B2 30 p
theorem B6 {k:Nat} {row:List Z2} (h:vU k row) (hk:k≤20):bQ (k + 2) ((1,0) :: (row.drop 1).take (k + 1)):=by
 have hl:=h.len
 have g:∀i,0 < i→i < k + 2→((1,0) :: (row.drop 1).take (k + 1))[i]?=row[i]?:=fun i h0 h1=>by
  rw [show i=(i - 1) + 1 by omega,List.getElem?_cons_succ,List.getElem?_take_of_lt (by omega),List.getElem?_drop]
  congr 1;omega
 have len:((1,0) :: (row.drop 1).take (k + 1)).length=k + 2:=by simp;omega
 have lt:∀(i:Nat) (p:Z2),((1,0) :: (row.drop 1).take (k + 1))[i]?=some p→i < k + 2:=fun i p hp=>by
  have:=(KL.mp hp).1
  omega
 refine⟨len,by omega,by omega,rfl,fun p hp=>?_,fun i p r h0 h1 h2=>?_,fun p hp=>?_,fun i p hp h0=>?_,?_,fun p hp=>?_⟩
 ·rw [g 1 (by omega) (by omega)] at hp
  have:=h.det 0 _ p h.first hp
  simp at this;omega
 ·rw [g i h0 (lt _ _ h1)] at h1
  rw [g (i + 1) (by omega) (lt _ _ h2)] at h2
  exact h.det i p r h1 h2
 ·rw [show k + 2 - 1=k + 1 by omega,g (k + 1) (by omega) (by omega)] at hp
  have:=h.det (k + 1) p _ hp h.last
  simp at this;omega
 ·have:=lt _ _ hp
  rw [g i h0 this] at hp
  exact h.low i p hp h0 this
 ·obtain⟨i,h0,h1,h2⟩:=h.nought
  exact K6 (i:=i) (by rw [g i h0 h1];exact h2)
 ·rcases Ld.mp hp with rfl | hp
  ·exact B5 Ib (by decide)
  ·exact B5 (h.bits p (List.mem_of_mem_drop (List.mem_of_mem_take hp))) (by omega)
theorem gL {α:Type} (f:α→D) (l:List α) (i:Nat) (x:α) (h:l[i]?=some x):kn (l.map f) (i:Int)=some (f x):=by
 rw [oJ (by omega) (by have:=(KL.mp h).1;simp;omega)]
 simp [h]
def Fc (x y:D) (Q:D→Prop):Prop:=∃(n:Nat) (b:Int),x=.int n∧2≤n∧n≤22∧CU 22 b y∧∀fs,bQ n fs→Q (.tup (fs.map de))
def cg:Fw:=F2 Fc
theorem yw {x:Z2} {Q:D→Prop}:cR (de x) (.int 0) Q=Q (.int x.1):=by
 apply propext;constructor
 ·rintro⟨v,e,h⟩;cases e;exact h
 ·intro h;exact⟨_,rfl,h⟩
theorem yq {x:Z2} {Q:D→Prop}:cR (de x) (.int 1) Q=Q (.int x.2):=by
 apply propext;constructor
 ·rintro⟨v,e,h⟩;cases e;exact h
 ·intro h;exact⟨_,rfl,h⟩
def fI:bH:=(aG (bF 2 (kE (af (bD (af (lq fK (cC (.int 1))) (af (cC (.int 0)) av))) (af (bD (af (cC (.int 0)) (af (cC (.int 1)) av))) (af (bD (af (cC (.int 1)) (af (cC (.int 0)) av))) av))))) (aG (ib m6 (af (aC gr (ag 0) (cC (.int 2))) av) (aM 3) (aG (a7 4 (aC gz (aC cR (ag 1) (ag 3)) (aC gr (dE 2) (cC (.int 1))))) (oG 2 (aC bO (ag 4) (cC (.int 1))) (bD (af (aC bO (aC cR (cF 2 (ag 4)) (cC (.int 0))) (aC cR (cF 2 (aC bO (ag 4) (cC (.int 1)))) (cC (.int 0)))) (af (aC bO (aC cR (cF 2 (ag 4)) (cC (.int 1))) (aC cR (cF 2 (aC bO (ag 4) (cC (.int 1)))) (cC (.int 1)))) av)))))) (cv 2 (bc (aB g8 (af (aC bO (eY (af (bD (af (cC (.int 1)) (af (cC (.int 0)) av))) av)) (BP (ag 2) (fv (cC (.int 1))) (fv (aC gr (aB kL (af (ag 2) av)) (cC (.int 1)))))) av))))))
theorem me:∀ds Q,cg ds Q→ds.length=2:=jg
theorem mR:∀ds (Q:D→Prop),cg ds Q→fI { nx:=fun _=>Q .non,rt:=Q } (aE ["_law_many","_law_digits_here","_law_row_here","_law_k","_law_at"] ds):=by
 rintro ds Q ⟨x,y,rfl,n,b,rfl,h2,h22,hd,h⟩
 simp_arith only [fI]
 refine⟨by omega,by omega,?_⟩
 refine bX (fun i e=>∃(row:List Z2) (k1 k2:Option Lo),e=[some (.d (.int n)),some (.d y),some (.own (row.map de)),k1,k2]∧vU i row) ?_ ?_ ⟨[(-1,0),(0,1),(1,0)],_,_,rfl,JY⟩
 ·rintro i x env N hx ⟨row,k1,k2,rfl,hr⟩ hN
  have hi:i < n - 2:=by
   have:=(KL.mp hx).1
   simp [a8] at this;omega
  have hxe:x=.int (i:Int):=by
   unfold a8 at hx
   rw [KU,Lw (by omega)] at hx
   cases hx;simp
  subst hxe
  have hl:=hr.len
  simp_arith only [KZ]
  refine wI hd (by omega) (by omega) fun v v0 v1=>?_
  have hk:((row.length:Int) - 1)=((i + 2:Nat):Int):=by omega
  rw [hk]
  simp_arith only [and_true]
  refine⟨by show ((i + 2:Nat):Int)≠0;omega,?_⟩
  have f:=bL (a:=v) (b:=((i + 2:Nat):Int)) (by omega)
  obtain⟨a,ea⟩:∃a:Nat,v.fmod ((i + 2:Nat):Int)=(a:Int):=⟨_,(LP f.1).symm⟩
  rw [ea] at f ⊢
  have ha:a < i + 2:=by omega
  have hp:row[a]?=some row[a]:=KP (by omega)
  have hq:row[a + 1]?=some row[a + 1]:=KP (by omega)
  have e1:kn (row.map de) (a:Int)=some (de row[a]):=gL _ _ _ _ hp
  have e2:kn (row.map de) ((a:Int) + 1)=some (de row[a + 1]):=gL _ _ (a + 1) _ hq
  refine⟨_,_,rfl,e1,?_⟩
  rw [yw]
  refine⟨_,_,rfl,e2,?_⟩
  rw [yw]
  refine⟨_,_,rfl,e1,?_⟩
  rw [yq]
  refine⟨_,_,rfl,e2,?_⟩
  rw [yq]
  refine⟨by omega,by omega,by omega,hN _ ⟨row.take (a + 1) ++ (row[a].1 + row[a + 1].1,row[a].2 + row[a + 1].2) :: row.drop (a + 1),some (.d (.int i)),some (.d (.int a)),?_,GJ hr ha hp hq⟩⟩
  rw [show ((a:Int) + 1).toNat=a + 1 by omega,List.map_append,Ll,List.map_take,List.map_drop]
  rfl
 ·rintro env ⟨row,k1,k2,rfl,hr⟩
  simp_arith only [and_true]
  have el:(a8 0 ((n:Int) - 2).toNat).length=n - 2:=by simp [a8];omega
  rw [el] at hr
  have hl:=hr.len
  have ec:cutD (row.map de) (some 1) (some (((row.map de).length:Int) - 1))=((row.drop 1).take (n - 2 + 1)).map de:=by
   unfold cutD
   rw [KZ,show ((row.length:Int) - 1)=((row.length - 1:Nat):Int) by omega,show (1:Int)=((1:Nat):Int) from rfl,HT.oC,HT.oC]
   rw [List.map_take,List.map_drop]
   congr 1
   ·omega
   ·congr 1;omega
  rw [ec]
  refine⟨by simp;omega,?_⟩
  have:=h _ (by have:=B6 hr (by omega);rw [show n - 2 + 2=n by omega] at this;exact this)
  exact this
inductive Mk where
 | half | aZ | gap (j:Nat)
 deriving DecidableEq
def ko:Mk→D
 | .half=>.str "half"
 | .aZ=>.str "third"
 | .gap j=>.int j
structure pz (n:Nat) (ms:List Mk):Prop where
 len:ms.length=n
 pair:∀(i j:Nat),ms[i]?=some (Mk.gap j)→j≠i∧ms[j]?=some (Mk.gap i)
 few:n=2→Mk.aZ∈ms∧∀(i j:Nat),ms[i]?≠some (Mk.gap j)
structure gd (n:Nat) (left:List Nat) (ms:List Mk):Prop where
 len:ms.length=n
 nd:left.Nodup
 lt:∀i∈left,i < n
 free:∀i∈left,ms[i]?=some Mk.half
 pair:∀(i j:Nat),ms[i]?=some (Mk.gap j)→j≠i∧ms[j]?=some (Mk.gap i)
theorem gd.aZ {n g:Nat} {left:List Nat} {ms:List Mk} (h:gd n (g :: left) ms):gd n left (ms.set g .aZ):=by
 have hg:=h.free g K9
 have hnd:=LC.mp h.nd
 refine⟨by rw [List.length_set];exact h.len,hnd.2,fun i hi=>h.lt i (K4 _ hi),fun i hi=>?_,fun i j hij=>?_⟩
 ·rw [KN (fun z=>by subst z;exact hnd.1 hi)];exact h.free i (K4 _ hi)
 ·have hig:g≠i:=fun z=>by
   subst z
   rw [KW (by rw [h.len];exact h.lt _ K9)] at hij;cases hij
  rw [KN hig] at hij
  obtain⟨h1,h2⟩:=h.pair i j hij
  refine⟨h1,?_⟩
  have:g≠j:=fun z=>by subst z;rw [hg] at h2;cases h2
  rw [KN this];exact h2
theorem gd.skip {n g:Nat} {left:List Nat} {ms:List Mk} (h:gd n (g :: left) ms):gd n left ms :=
 ⟨h.len,(LC.mp h.nd).2,fun i hi=>h.lt i (K4 _ hi),fun i hi=>h.free i (K4 _ hi),h.pair⟩
theorem gd.two {n g o k:Nat} {left:List Nat} {ms:List Mk} (h:gd n (g :: left) ms) (ho:left[k]?=some o):gd n (left.eraseIdx k) ((ms.set g (.gap o)).set o (.gap g)):=by
 have hg:=h.free g K9
 have hnd:=LC.mp h.nd
 have om:o∈left:=K6 ho
 have hoh:=h.free o (K4 _ om)
 have ne:g≠o:=fun z=>hnd.1 (z▸om)
 have gl:g < ms.length:=by rw [h.len];exact h.lt _ K9
 have ol:o < ms.length:=by rw [h.len];exact h.lt _ (K4 _ om)
 have sub:∀i∈left.eraseIdx k,i∈left∧i≠o:=fun i hi=>by
  refine⟨List.mem_of_mem_eraseIdx hi,fun z=>?_⟩
  subst z
  obtain⟨j,hj1,hj2⟩:=List.mem_eraseIdx_iff_getElem?.mp hi
  obtain⟨hk,ek⟩:=KL.mp ho
  obtain⟨hj,ej⟩:=KL.mp hj2
  exact hj1 ((List.getElem_inj (h₀:=hj) (h₁:=hk) hnd.2).mp (by rw [ej,ek]))
 have get:∀i,((ms.set g (.gap o)).set o (.gap g))[i]?=if i=o then some (.gap g) else if i=g then some (.gap o) else ms[i]?:=fun i=>by
  by_cases c1:i=o
  ·subst c1;rw [KS rfl,KW (by rw [List.length_set];exact ol)]
  ·rw [KQ c1,KN (Ne.symm c1)]
   by_cases c2:i=g
   ·subst c2;rw [KS rfl,KW gl]
   ·rw [KQ c2,KN (Ne.symm c2)]
 refine⟨by rw [List.length_set,List.length_set];exact h.len,hnd.2.eraseIdx k,fun i hi=>h.lt i (K4 _ (sub i hi).1),fun i hi=>?_,fun i j hij=>?_⟩
 ·obtain⟨h1,h2⟩:=sub i hi
  rw [get,KQ h2,KQ (fun z=>by subst z;exact hnd.1 h1)]
  exact h.free i (K4 _ h1)
 ·rw [get] at hij
  by_cases c1:i=o
  ·rw [KS c1] at hij;cases hij
   subst c1
   exact⟨ne,by rw [get,KQ ne,KS rfl]⟩
  ·rw [KQ c1] at hij
   by_cases c2:i=g
   ·rw [KS c2] at hij;cases hij
    subst c2
    exact⟨Ne.symm ne,by rw [get,KS rfl]⟩
   ·rw [KQ c2] at hij
    obtain⟨h1,h2⟩:=h.pair i j hij
    refine⟨h1,?_⟩
    rw [get,KQ (fun z=>by subst z;rw [hoh] at h2;cases h2),KQ (fun z=>by subst z;rw [hg] at h2;cases h2)]
    exact h2
theorem An {α β:Type} (f:α→β):∀(l:List α) (k:Nat),(l.map f).eraseIdx k=(l.eraseIdx k).map f
 | [],_=>rfl
 | _ :: _,0=>rfl
 | a :: l,k + 1=>by show f a :: (l.map f).eraseIdx k=f a :: (l.eraseIdx k).map f;rw [An f l k]
theorem yB (ms:List Mk):bE (ms.map ko)=0:=by
 induction ms with
 | nil=>rfl
 | cons m r ih=>rw [Ll];simp only [bE,ih];cases m <;> rfl
theorem rd (l:List Nat):bE (l.map fun (i:Nat)=>D.int i)=0:=by
 induction l with
 | nil=>rfl
 | cons m r ih=>rw [Ll];simp only [bE,ih,dep];rfl
theorem zX (ms:List Mk):((ms.map ko).any fun e=>a5 e (.str "third"))=decide (Mk.aZ∈ms):=by
 induction ms with
 | nil=>rfl
 | cons m r ih =>
  rw [Ll,List.any_cons,ih]
  cases m with
  | half =>
   rw [show a5 (ko .half) (.str "third")=false by decide]
   simp
  | aZ=>rw [show a5 (ko .aZ) (.str "third")=true by decide];simp
  | gap j=>rw [show a5 (ko (.gap j)) (.str "third")=false from rfl];simp
def Ha (x y:D) (Q:D→Prop):Prop:=∃(n dm:Nat) (b:Int),x=.int n∧2≤n∧n≤22∧44≤dm∧CU dm b y∧∀ms,pz n ms→Q (.tup (ms.map ko))
def aV (l:List Nat):List D:=l.map fun (i:Nat)=>D.int i
structure ky (fs:List Z2) (ms:List Mk):Prop where
 fr:bQ fs.length fs
 mar:pz fs.length ms
def nY (fs:List Z2) (ms:List Mk):D:=.tup [.tup (fs.map de),.tup (ms.map ko)]
end L2.L3
namespace L2.L3
open PySem
theorem getD_some {α:Type} {l:List α} {i:Nat} {d:α} (h:i < l.length):l[i]?=some (l.getD i d):=by
 rw [Lv,KP h];rfl
section
variable {fs:List Z2} {n:Nat} {g:Nat}
end
theorem BZ {α:Type} {f:α→D} {l:List α} {i:Nat} {x:α} {Q:D→Prop} (h:l[i]?=some x) (q:Q (f x)):cR (.tup (l.map f)) (.int (i:Int)) Q:=⟨_,gL f l i x h,q⟩
end L2.L3
namespace L2.L3
open PySem
def EM (x:D) (Q:D→Prop):Prop:=∃m:M4,x=m.toD∧m.T∧Q m.con.up.toD
def cw:Fw:=F1 EM
def gb:bH:=(aG (gT (ag 0) (fQ 4 (aR (aM 1) (aR (aM 2) (aR (aM 3) (aR (aM 4) fR)))))) (aG (hV (zw (aK (aC DA (ag 3) (cC (.int 0)))) (kc (aK (aC ja (ag 3) (cC (.int 0)))) (aK (aC wm (ag 1) (cC (.int 0)))))) (bc (bD (af (aC gr (cC (.int 0)) (ag 4)) (af (ag 2) (af (ag 3) (af (aC gr (cC (.int 0)) (ag 1)) av)))))) br) (bc (bD (af (ag 4) (af (aC gr (cC (.int 0)) (ag 2)) (af (aC gr (cC (.int 0)) (ag 3)) (af (ag 1) av))))))))
theorem mj:∀ds Q,cw ds Q→ds.length=1:=gH
theorem oh:∀ds (Q:D→Prop),cw ds Q→gb { nx:=fun _=>Q .non,rt:=Q } (aE ["_law_one","_law_a","_law_b","_law_c","_law_d"] ds):=by
 rintro ds Q ⟨x,rfl,m,rfl,hT,h⟩
 simp_arith! only [gb,M4.toD]
 rcases hT.2 with z | ⟨z,w⟩
 ·rw [KS z]
  rw [M4.kM (show m.con.oi from .inl (by show -m.c < 0;omega))] at h
  simpa [M4.toD,M4.con,M4.neg,Int.zero_sub] using h
 ·have ha:¬ m.a < 0:=by
   have:=hT.1
   unfold M4.det at this
   rw [z,w] at this
   omega
  rw [KQ (by omega),KS z,KQ ha]
  rw [M4.kH (show ¬ m.con.oi from by unfold M4.oi M4.con;simp only;omega)] at h
  simpa [M4.toD,M4.con,Int.zero_sub] using h
end L2.L3
namespace L2.L3
open PySem L2
def eM (u v:Z2):Int:=u.1 * v.2 - u.2 * v.1
theorem vI (u v w:Z2):eM u w * v.2=eM u v * w.2 + eM v w * u.2:=by unfold eM;grind
theorem uF {a b:Int} (h:a * b < 0) (hb:0 < b):a < 0:=by
 by_cases c:a < 0
 ·exact c
 ·have:=Int.mul_nonneg (show 0≤a by omega) (Int.le_of_lt hb)
  omega
theorem pV {a b:Int} (h:a * b = -1) (hb:0 < b):b=1 :=
 Int.eq_one_of_dvd_one (Int.le_of_lt hb) ⟨-a,by rw [Int.mul_neg,Int.mul_comm,h];rfl⟩
theorem bQ.lt {n:Nat} {fs:List Z2} (h:bQ n fs):∀(k i:Nat) (u w:Z2),0 < i→fs[i]?=some u→fs[i + k + 1]?=some w→eM u w < 0
 | 0,i,u,w,h0,hu,hw=>by
  have:=h.det i u w h0 hu hw
  unfold eM;omega
 | k + 1,i,u,w,h0,hu,hw=>by
  have hl:=(KL.mp hw).1
  obtain⟨v,hv⟩:∃v,fs[i + k + 1]?=some v:=⟨fs[i + k + 1]'(by omega),KP _⟩
  have h1:=bQ.lt h k i u v h0 hu hv
  have h2:eM v w = -1:=h.det (i + k + 1) v w (by omega) hv hw
  have qu:=h.low i u hu h0
  have qv:=h.low _ v hv (by omega)
  have qw:=h.low _ w hw (by omega)
  have e:=vI u v w
  rw [h2] at e
  have a1:eM u v * w.2 < 0:=Int.mul_neg_of_neg_of_pos h1 (by omega)
  have a2:eM u w * v.2 < 0:=by rw [e];omega
  exact uF a2 (by omega)
theorem bQ.inj {n:Nat} {fs:List Z2} (h:bQ n fs) {i j:Nat} {u:Z2} (hi:fs[i]?=some u) (hj:fs[j]?=some u):i=j:=by
 have self:eM u u=0:=by unfold eM;rw [Int.mul_comm];omega
 have top:∀k:Nat,0 < k→fs[k]?≠some (1,0):=fun k hk e=>by have:=h.low k _ e hk;simp at this
 rcases Nat.lt_trichotomy i j with c | c | c
 ·exfalso
  by_cases z:0 < i
  ·have:=h.lt (j - i - 1) i u u z hi (by rw [show i + (j - i - 1) + 1=j by omega];exact hj)
   omega
  ·have z':i=0:=by omega
   subst z'
   rw [h.first] at hi;cases hi
   exact top j (by omega) hj
 ·exact c
 ·exfalso
  by_cases z:0 < j
  ·have:=h.lt (i - j - 1) j u u z hj (by rw [show j + (i - j - 1) + 1=i by omega];exact hi)
   omega
  ·have z':j=0:=by omega
   subst z'
   rw [h.first] at hj;cases hj
   exact top i (by omega) hi
structure Hj (n:Nat) (fs:List Z2) (i:Nat) (u v w:Z2):Prop where
 i0:0 < i
 il:i < n
 near:fs[i - 1]?=some u
 mid:fs[i]?=some v
 far:fs[(i + 1) % n]?=some w
 ne:v≠(0,1)
 one:(eM u w).natAbs=1
theorem yx {n:Nat} {fs:List Z2} (h:bQ n fs) (m:Nat):∀k,k≤n→0 < k→(∀i,0 < i→i < k→∀p,fs[i]?=some p→p.2≤m)∨∃i p,0 < i∧i < k∧fs[i]?=some p∧(m:Int) < p.2∧∀j,0 < j→j < k→∀r,fs[j]?=some r→r.2≤p.2
 | 0,_,h0=>absurd h0 (by decide)
 | 1,_,_=>.inl fun i hi h1=>by omega
 | k + 2,hk,_=>by
  have hl:=h.len
  obtain⟨p,hp⟩:∃p,fs[k + 1]?=some p:=⟨fs[k + 1]'(by omega),KP _⟩
  rcases yx h m (k + 1) (by omega) (by omega) with a | ⟨i,r,i0,il,hr,hm,a⟩
  ·by_cases c:p.2≤m
   ·refine .inl fun i h0 h1 r hr=>?_
    rcases Lg.mp h1 with z | z
    ·exact a i h0 z r hr
    ·subst z;rw [hp] at hr;cases hr;exact c
   ·refine .inr ⟨k + 1,p,by omega,by omega,hp,by omega,fun j h0 h1 r hr=>?_⟩
    rcases Lg.mp h1 with z | z
    ·have:=a j h0 z r hr;omega
    ·subst z;rw [hp] at hr;cases hr;exact Int.le_refl _
  ·by_cases c:p.2≤r.2
   ·refine .inr ⟨i,r,i0,by omega,hr,hm,fun j h0 h1 q hq=>?_⟩
    rcases Lg.mp h1 with z | z
    ·exact a j h0 z q hq
    ·subst z;rw [hp] at hq;cases hq;exact c
   ·refine .inr ⟨k + 1,p,by omega,by omega,hp,by omega,fun j h0 h1 q hq=>?_⟩
    rcases Lg.mp h1 with z | z
    ·have:=a j h0 z q hq;omega
    ·subst z;rw [hp] at hq;cases hq;exact Int.le_refl _
theorem GZ {n:Nat} {fs:List Z2} (h:bQ n fs) (hn:2 < n):∃i u v w,Hj n fs i u v w:=by
 have hl:=h.len
 have at_:∀i,i < n→∃p,fs[i]?=some p:=fun i hi=>⟨fs[i]'(by omega),KP _⟩
 rcases yx h 1 n (K0 _) (by omega) with a | ⟨i,v,i0,il,hv,hm,a⟩
 ·
  obtain⟨p1,h1⟩:=at_ 1 (by omega)
  obtain⟨p2,h2⟩:=at_ 2 hn
  obtain⟨pl,hpl⟩:=at_ (n - 1) (by omega)
  obtain⟨pk,hpk⟩:=at_ (n - 2) (by omega)
  have q2:p2.2=1:=by have:=a 2 (by omega) hn p2 h2;have:=h.low 2 p2 h2 (by omega);omega
  have qk:pk.2=1:=by have:=a (n - 2) (by omega) (by omega) pk hpk;have:=h.low _ pk hpk (by omega);omega
  by_cases c:p1=(0,1)
  ·have cl:pl≠(0,1):=fun e=>by
    have:=h.inj (i:=1) (j:=n - 1) (u:=(0,1)) (by rw [h1,c]) (by rw [hpl,e])
    omega
   refine⟨n - 1,pk,pl,(1,0),by omega,by omega,by rw [show n - 1 - 1=n - 2 by omega];exact hpk,hpl,?_,cl,?_⟩
   ·rw [show n - 1 + 1=n by omega,Nat.mod_self];exact h.first
   ·unfold eM;show (pk.1 * 0 - pk.2 * 1).natAbs=1;rw [qk];simp
  ·refine⟨1,(1,0),p1,p2,by omega,by omega,h.first,h1,?_,c,?_⟩
   ·rw [Nat.mod_eq_of_lt (by omega)];exact h2
   ·unfold eM;show (1 * p2.2 - 0 * p2.1).natAbs=1;rw [q2];simp
 ·
  have i1:1 < i:=by
   rcases LG 1 i with c | c
   ·exact c
   ·have:i=1:=by omega
    subst this
    have:=h.det0 v hv;omega
  have i2:i + 1 < n:=by
   rcases LG (i + 1) n with c | c
   ·exact c
   ·have:i=n - 1:=by omega
    subst this
    have:=h.last v hv;omega
  obtain⟨u,hu⟩:=at_ (i - 1) (by omega)
  obtain⟨w,hw⟩:=at_ (i + 1) i2
  have d1:eM u v = -1:=h.det (i - 1) u v (by omega) hu (by rw [show i - 1 + 1=i by omega];exact hv)
  have d2:eM v w = -1:=h.det i v w i0 hv hw
  have qu:=h.low _ u hu (by omega)
  have qw:=h.low _ w hw (by omega)
  have mu:=a (i - 1) (by omega) (by omega) u hu
  have mw:=a (i + 1) (by omega) i2 w hw
  have e:=vI u v w
  rw [d1,d2] at e
  refine⟨i,u,v,w,i0,il,hu,hv,by rw [Nat.mod_eq_of_lt i2];exact hw,fun z=>by rw [z] at hm;simp at hm,?_⟩
  have nu:u.2≠v.2:=fun z=>by
   unfold eM at d1
   rw [z,Int.mul_comm v.2] at d1
   have:(u.1 - v.1) * v.2 = -1:=by rw [Int.sub_mul];exact d1
   have:=pV this (by omega)
   omega
  have nw:w.2≠v.2:=fun z=>by
   unfold eM at d2
   rw [z,Int.mul_comm v.2] at d2
   have:(v.1 - w.1) * v.2 = -1:=by rw [Int.sub_mul];exact d2
   have:=pV this (by omega)
   omega
  have lo:eM u w * v.2 < 0:=by rw [e];omega
  have hi:-(2 * v.2) < eM u w * v.2:=by rw [e];omega
  have l1:eM u w < 0:=uF lo (by omega)
  have l2:-2 < eM u w:=by
   by_cases c:-2 < eM u w
   ·exact c
   ·have:=Int.mul_le_mul_of_nonneg_right (show eM u w≤-2 by omega) (show 0≤v.2 by omega)
    omega
  omega
theorem tS {α:Type} (l:List α) (i j:Nat):(l.eraseIdx i)[j]?=if j < i then l[j]? else l[j + 1]?:=List.getElem?_eraseIdx ..
theorem bQ.cut {n:Nat} {fs:List Z2} (h:bQ n fs) (hn:2 < n) {i:Nat} {u v w:Z2} (e:Hj n fs i u v w):bQ (n - 1) (fs.eraseIdx i):=by
 have hl:=h.len
 have i0:=e.i0
 have il:=e.il
 have hu:=e.near
 have hw:=e.far
 have one:=e.one
 have g:=fun j=>tS fs i j
 have sub:∀p,p∈fs.eraseIdx i→p∈fs:=fun p hp=>List.mem_of_mem_eraseIdx hp
 refine⟨by rw [List.length_eraseIdx,KS (by omega)];omega,by omega,by have:=h.most;omega,?_,fun p hp=>?_,fun j p r j0 hp hr=>?_,fun p hp=>?_,fun j p hp j0=>?_,?_,fun p hp=>h.bits p (sub p hp)⟩
 ·rw [g,KS i0];exact h.first
 ·rw [g] at hp
  by_cases c:1 < i
  ·rw [KS c] at hp;exact h.det0 p hp
  ·have:i=1:=by omega
   subst this
   rw [KQ c] at hp
   rw [Nat.mod_eq_of_lt (by omega)] at hw
   rw [hw] at hp;cases hp
   rw [h.first] at hu;cases hu
   have:=h.low _ w hw (by omega)
   unfold eM at one
   simp at one;omega
 ·rw [g] at hp hr
  by_cases c:j + 1 < i
  ·rw [KS (by omega)] at hp
   rw [KS c] at hr
   exact h.det j p r j0 hp hr
  ·rw [KQ c] at hr
   by_cases c2:j + 1=i
   ·rw [KS (by omega)] at hp
    rw [show i - 1=j by omega,hp] at hu;cases hu
    have:=(KL.mp hr).1
    rw [Nat.mod_eq_of_lt (by omega),← c2,hr] at hw;cases hw
    have:=h.lt 1 j _ _ j0 hp hr
    show eM _ _ = -1
    omega
   ·rw [KQ (by omega)] at hp
    exact h.det (j + 1) p r (by omega) hp hr
 ·rw [g] at hp
  by_cases c:i=n - 1
  ·rw [KS (by omega),show n - 1 - 1=i - 1 by omega,hu] at hp;cases hp
   rw [c,show n - 1 + 1=n by omega,Nat.mod_self,h.first] at hw;cases hw
   have:=h.low _ u hu (by omega)
   unfold eM at one
   simp at one;omega
  ·rw [KQ (by omega),show n - 1 - 1 + 1=n - 1 by omega] at hp
   exact h.last p hp
 ·rw [g] at hp
  by_cases c:j < i
  ·rw [KS c] at hp;exact h.low j p hp j0
  ·rw [KQ c] at hp;exact h.low (j + 1) p hp (by omega)
 ·obtain⟨k,hk⟩:=Ln h.nought
  have hk':=(KL.mp hk).1
  have ne:k≠i:=fun z=>by rw [z,e.mid] at hk;exact e.ne (K3 hk)
  by_cases c:k < i
  ·exact K6 (i:=k) (by rw [g,KS c];exact hk)
  ·exact K6 (i:=k - 1) (by rw [g,KQ (by omega),show k - 1 + 1=k by omega];exact hk)
abbrev se:=Z2×Z2
def nx (n i:Nat):Nat:=if i + 1=n then 0 else i + 1
def Bd (row:List Z2) (e:se):Prop:=∃i,row[i]?=some e.1∧row[nx row.length i]?=some e.2
def Inj (row:List Z2):Prop:=∀(i j:Nat) (u:Z2),row[i]?=some u→row[j]?=some u→i=j
theorem BI {n i:Nat} (h:i < n):(i + 1) % n=nx n i:=by
 unfold nx
 by_cases c:i + 1=n
 ·rw [KS c,c,Nat.mod_self]
 ·rw [KQ c,Nat.mod_eq_of_lt (by omega)]
theorem Bn {row:List Z2} (hi:Inj row) {i:Nat} {u v w:Z2} (i0:0 < i) (h2:2 < row.length)
  (hu:row[i - 1]?=some u) (hv:row[i]?=some v) (hw:row[nx row.length i]?=some w) (e:se) :
  Bd (row.eraseIdx i) e↔e=(u,w)∨(Bd row e∧e.1≠v∧e.2≠v):=by
 have il:=(KL.mp hv).1
 have hl:(row.eraseIdx i).length=row.length - 1:=by rw [List.length_eraseIdx,KS il]
 have g:=fun j=>tS row i j
 have gap:(row.eraseIdx i)[i - 1]?=some u∧(row.eraseIdx i)[nx (row.length - 1) (i - 1)]?=some w:=by
  refine⟨by rw [g,KS (by omega)];exact hu,?_⟩
  rw [g]
  by_cases c:i + 1=row.length
  ·have e1:nx (row.length - 1) (i - 1)=0:=by unfold nx;rw [KS (by omega)]
   have e2:nx row.length i=0:=by unfold nx;rw [KS c]
   rw [e2] at hw
   rw [e1,KS i0];exact hw
  ·have e1:nx (row.length - 1) (i - 1)=i:=by unfold nx;rw [KQ (by omega)];omega
   have e2:nx row.length i=i + 1:=by unfold nx;rw [KQ c]
   rw [e2] at hw
   rw [e1,KQ (by omega)];exact hw
 have nv:∀j x,row[j]?=some x→j≠i→x≠v:=fun j x hj hne z=>hne (hi j i v (z▸hj) hv)
 constructor
 ·rintro⟨j,ha,hb⟩
  rw [hl] at hb
  by_cases c1:j + 1=i
  ·have:j=i - 1:=by omega
   subst this
   left
   rw [gap.1] at ha;rw [gap.2] at hb
   exact Prod.ext (K3 ha).symm (K3 hb).symm
  ·right
   rw [g] at ha hb
   by_cases c2:j < i
   ·have e1:nx (row.length - 1) j=j + 1:=by unfold nx;rw [KQ (by omega)]
    have e2:nx row.length j=j + 1:=by unfold nx;rw [KQ (by omega)]
    rw [KS c2] at ha
    rw [e1,KS (by omega)] at hb
    exact⟨⟨j,ha,by rw [e2];exact hb⟩,nv j _ ha (by omega),nv (j + 1) _ hb (by omega)⟩
   ·rw [KQ c2] at ha
    by_cases c3:j + 1=row.length - 1
    ·have e1:nx (row.length - 1) j=0:=by unfold nx;rw [KS c3]
     have e2:nx row.length (j + 1)=0:=by unfold nx;rw [KS (by omega)]
     rw [e1,KS i0] at hb
     exact⟨⟨j + 1,ha,by rw [e2];exact hb⟩,nv _ _ ha (by omega),nv 0 _ hb (by omega)⟩
    ·have e1:nx (row.length - 1) j=j + 1:=by unfold nx;rw [KQ c3]
     have e2:nx row.length (j + 1)=j + 2:=by unfold nx;rw [KQ (by omega)]
     rw [e1,KQ (by omega)] at hb
     exact⟨⟨j + 1,ha,by rw [e2];exact hb⟩,nv _ _ ha (by omega),nv _ _ hb (by omega)⟩
 ·rintro (rfl | ⟨⟨j,ha,hb⟩,h1,h2'⟩)
  ·exact⟨i - 1,gap.1,by rw [hl];exact gap.2⟩
  ·have j1:j≠i:=fun z=>h1 (by rw [z,hv] at ha;exact (K3 ha).symm)
   have j2:nx row.length j≠i:=fun z=>h2' (by rw [z,hv] at hb;exact (K3 hb).symm)
   have jl:=(KL.mp ha).1
   by_cases c:j < i
   ·have e2:nx row.length j=j + 1:=by unfold nx;rw [KQ (by omega)]
    rw [e2] at hb j2
    refine⟨j,by rw [g,KS c];exact ha,?_⟩
    have e1:nx (row.length - 1) j=j + 1:=by unfold nx;rw [KQ (by omega)]
    rw [hl,e1,g,KS (by omega)];exact hb
   ·refine⟨j - 1,by rw [g,KQ (by omega),show j - 1 + 1=j by omega];exact ha,?_⟩
    rw [hl,g]
    by_cases c3:j + 1=row.length
    ·have e1:nx (row.length - 1) (j - 1)=0:=by unfold nx;rw [KS (by omega)]
     have e2:nx row.length j=0:=by unfold nx;rw [KS c3]
     rw [e2] at hb
     rw [e1,KS i0];exact hb
    ·have e1:nx (row.length - 1) (j - 1)=j:=by unfold nx;rw [KQ (by omega)];omega
     have e2:nx row.length j=j + 1:=by unfold nx;rw [KQ c3]
     rw [e2] at hb
     rw [e1,KQ (by omega)];exact hb
end L2.L3
namespace L2.L3
open PySem L2
abbrev fD:=Z2×Z2×Z2
def te (t:fD):List se:=[(t.1,t.2.1),(t.2.1,t.2.2),(t.2.2,t.1)]
def eL (ts:List fD):List se:=ts.flatMap te
def rv (e:se):se:=(e.2,e.1)
def nQ:se:=((1,0),(0,1))
def wt:se:=((0,1),(1,0))
inductive fj:List Z2→List fD→Prop
 | done {row:List Z2}:row.length=2→fj row []
 | cut {row:List Z2} {i:Nat} {u v w:Z2} {ts:List fD}:2 < row.length→Hj row.length row i u v w→fj (row.eraseIdx i) ts→fj row ((u,v,w) :: ts)
theorem bS {t:fD} {ts:List fD} {e:se}:e∈eL (t :: ts)↔e=(t.1,t.2.1)∨e=(t.2.1,t.2.2)∨e=(t.2.2,t.1)∨e∈eL ts:=by
 unfold eL te
 simp only [List.flatMap_cons,Lf,Ld,Lm,or_false,or_assoc]
theorem Bd.next {row:List Z2} (hi:Inj row) {a b c:Z2} (h1:Bd row (a,b)) (h2:Bd row (a,c)):b=c:=by
 obtain⟨i,a1,b1⟩:=h1
 obtain⟨j,a2,b2⟩:=h2
 have:=hi i j a a1 a2
 subst this
 rw [b1] at b2
 exact K3 b2
theorem Bd.back {row:List Z2} (hi:Inj row) (hl:2 < row.length) {a b:Z2} (h1:Bd row (a,b)) (h2:Bd row (b,a)):False:=by
 obtain⟨i,a1,b1⟩:=h1
 obtain⟨j,b2,a2⟩:=h2
 have e1:=hi _ _ _ b1 b2
 have e2:=hi _ _ _ a1 a2
 have l1:=(KL.mp a1).1
 have l2:=(KL.mp b2).1
 unfold nx at e1 e2
 split at e1 <;> split at e2 <;> omega
theorem Bd.mem {row:List Z2} {e:se} (h:Bd row e):e.1∈row∧e.2∈row:=by
 obtain⟨i,a,b⟩:=h
 exact⟨K6 a,K6 b⟩
structure Cut (row row':List Z2) (u v w:Z2):Prop where
 inj:Inj row
 inj':Inj row'
 more:2 < row.length
 one:Bd row (u,v)
 two:Bd row (v,w)
 bd:∀e,Bd row' e↔e=(u,w)∨(Bd row e∧e.1≠v∧e.2≠v)
 off:v∉row'
 ne0:v≠(0,1)
 ne1:v≠(1,0)
 uv:u≠v
 vw:v≠w
 uw:u≠w
 sub:∀p∈row',p∈row
 mu:u∈row
 mv:v∈row
 mw:w∈row
theorem bQ.Ja {row:List Z2} (h:bQ row.length row) (hn:2 < row.length) {i:Nat} {u v w:Z2} (e:Hj row.length row i u v w):Cut row (row.eraseIdx i) u v w:=by
 have i0:=e.i0
 have il:=e.il
 have hi:Inj row:=fun _ _ _=>h.inj
 have hw:=e.far
 rw [BI il] at hw
 have hc:=h.cut hn e
 have n1:nx row.length (i - 1)=i:=by unfold nx;rw [KQ (by omega)];omega
 have b1:Bd row (u,v):=⟨i - 1,e.near,by rw [n1];exact e.mid⟩
 have b2:Bd row (v,w):=⟨i,e.mid,hw⟩
 have uv:u≠v:=fun z=>by
  have:=hi _ _ _ e.near (z▸e.mid);omega
 refine⟨hi,fun _ _ _=>hc.inj,hn,b1,b2,Bn hi i0 hn e.near e.mid hw,fun hm=>?_,e.ne,fun z=>?_,uv,fun z=>?_,fun z=>?_,fun p hp=>List.mem_of_mem_eraseIdx hp,b1.mem.1,b1.mem.2,b2.mem.2⟩
 ·obtain⟨j,hj⟩:=Ln hm
  rw [tS] at hj
  by_cases c:j < i
  ·rw [KS c] at hj
   have:=hi _ _ _ hj e.mid;omega
  ·rw [KQ c] at hj
   have:=hi _ _ _ hj e.mid;omega
 ·have:=hi _ _ _ h.first (z▸e.mid);omega
 ·have:=hi _ _ _ (z▸e.mid) hw
  unfold nx at this;split at this <;> omega
 ·have:=hi _ _ _ (z▸e.near) hw
  unfold nx at this;split at this <;> omega
theorem bQ.pair {row:List Z2} (h:bQ row.length row) (h2:row.length=2):row=[(1,0),(0,1)]:=by
 match row,h2,h.first,h.nought with
 | [a,b],_,f,m =>
  cases (K3 f:a=(1,0))
  simp at m
  rw [← m]
theorem uo (e:se):Bd [(1,0),(0,1)] e↔e=nQ∨e=wt:=by
 constructor
 ·rintro⟨i,a,b⟩
  match i with
  | 0=>exact .inl (Prod.ext (K3 a).symm (K3 b).symm)
  | 1=>exact .inr (Prod.ext (K3 a).symm (K3 b).symm)
  | i + 2=>cases a
 ·rintro (rfl | rfl)
  ·exact⟨0,rfl,rfl⟩
  ·exact⟨1,rfl,rfl⟩
structure eD (row:List Z2) (ts:List fD):Prop where
 inn:∀e∈eL ts,e.1∈row∧e.2∈row
 ne:∀e∈eL ts,e.1≠e.2
 none:∀e,Bd row e→rv e∉eL ts
 dif:(eL ts).Nodup
 a:nQ∈eL ts↔¬ Bd row wt
 b:wt∈eL ts↔¬ Bd row nQ
 c:∀e,Bd row e→e≠nQ→e≠wt→e∈eL ts
 d:∀e∈eL ts,¬ Bd row e→e≠nQ→e≠wt→rv e∈eL ts
 e:∀S:se→Prop,(∀t∈ts,(S (t.1,t.2.1)→S (t.2.1,t.2.2))∧(S (t.2.1,t.2.2)→S (t.2.2,t.1))∧(S (t.2.2,t.1)→S (t.1,t.2.1)))→(∀e∈eL ts,¬ Bd row e→S e→S (rv e))→(nQ∈eL ts→S nQ)→(wt∈eL ts→S wt)→∀e∈eL ts,S e
theorem zu:eD [(1,0),(0,1)] [] where
 inn:=fun e h=>by cases h
 ne:=fun e h=>by cases h
 none:=fun e _ h=>by cases h
 dif:=List.nodup_nil
 a:=⟨fun h=>absurd h (by simp [eL]),fun h=>absurd ((uo _).mpr (.inr rfl)) h⟩
 b:=⟨fun h=>absurd h (by simp [eL]),fun h=>absurd ((uo _).mpr (.inl rfl)) h⟩
 c:=fun e h h1 h2=>((uo e).mp h).elim (fun z=>absurd z h1) (fun z=>absurd z h2)
 d:=fun e h=>by cases h
 e:=fun S _ _ _ _ e h=>by cases h
theorem rH {row row':List Z2} {u v w:Z2} {ts:List fD} (k:Cut row row' u v w) (h:eD row' ts) {x y:se} (hr:rv x=y) (hx:x.1≠v∧x.2≠v)
  (h':x∈eL ts↔¬ Bd row' y):x∈eL ((u,v,w) :: ts)↔¬ Bd row y:=by
 subst hr
 rw [bS]
 by_cases c:x=(w,u)
 ·subst c
  refine⟨fun _ hb=>?_,fun _=>.inr (.inr (.inl rfl))⟩
  exact k.vw (Bd.next k.inj k.one hb)
 ·have:Bd row' (rv x)↔Bd row (rv x):=by
   rw [k.bd]
   refine⟨?_,fun hb=>.inr ⟨hb,hx.2,hx.1⟩⟩
   rintro (z | z)
   ·exact absurd (by have:=congrArg rv z;exact this) c
   ·exact z.1
  rw [← this,← h']
  refine⟨?_,fun m=>.inr (.inr (.inr m))⟩
  rintro (z | z | z | z)
  ·exact absurd (by rw [z]) hx.2
  ·exact absurd (by rw [z]) hx.1
  ·exact absurd z c
  ·exact z
theorem Ay {row row':List Z2} {u v w:Z2} {ts:List fD} (k:Cut row row' u v w) (h:eD row' ts):eD row ((u,v,w) :: ts):=by
 have novert:∀e∈eL ts,e.1≠v∧e.2≠v:=fun e he=>⟨fun z=>k.off (z▸(h.inn e he).1),fun z=>k.off (z▸(h.inn e he).2)⟩
 have buw:Bd row' (u,w):=(k.bd _).mpr (.inl rfl)
 have nuw:¬ Bd row (u,w):=fun hb=>k.vw (Bd.next k.inj k.one hb)
 have nwu:(w,u)∉eL ts:=h.none (u,w) buw
 refine⟨fun e he=>?_,fun e he=>?_,fun e hb he=>?_,?_,rH k h rfl ⟨fun z=>k.ne1 z.symm,fun z=>k.ne0 z.symm⟩ h.a,rH k h rfl ⟨fun z=>k.ne0 z.symm,fun z=>k.ne1 z.symm⟩ h.b,fun e hb n1 n2=>?_,fun e he hb n1 n2=>?_,fun S hr hv h1 h2=>?_⟩
 ·rcases bS.mp he with rfl | rfl | rfl | m
  ·exact⟨k.mu,k.mv⟩
  ·exact⟨k.mv,k.mw⟩
  ·exact⟨k.mw,k.mu⟩
  ·exact⟨k.sub _ (h.inn e m).1,k.sub _ (h.inn e m).2⟩
 ·rcases bS.mp he with rfl | rfl | rfl | m
  ·exact k.uv
  ·exact k.vw
  ·exact fun z=>k.uw z.symm
  ·exact h.ne e m
 ·rcases bS.mp he with z | z | z | m
  ·have:e=(v,u):=congrArg rv z
   exact Bd.back k.inj k.more k.one (this▸hb)
  ·have:e=(w,v):=congrArg rv z
   exact Bd.back k.inj k.more k.two (this▸hb)
  ·have:e=(u,w):=congrArg rv z
   exact nuw (this▸hb)
  ·have nv:=novert _ m
   exact h.none e ((k.bd e).mpr (.inr ⟨hb,nv.2,nv.1⟩)) m
 ·show (te (u,v,w) ++ eL ts).Nodup
  refine LN.mpr ⟨?_,h.dif,?_⟩
  ·unfold te
   simp only [LC,Ld,Lm,or_false,not_or,Prod.mk.injEq,not_and,not_false_eq_true,List.nodup_nil,and_true]
   exact⟨⟨fun z=>absurd z k.uv,fun z=>absurd z k.uw⟩,fun z=>absurd z k.vw⟩
  ·intro a ha b hb z
   subst z
   have nv:=novert _ hb
   unfold te at ha
   simp only [Ld,Lm,or_false] at ha
   rcases ha with rfl | rfl | rfl
   ·exact nv.2 rfl
   ·exact nv.1 rfl
   ·exact nwu hb
 ·by_cases c:e.1=v
  ·have:e=(v,w):=Prod.ext c (Bd.next k.inj (show Bd row (v,e.2) by rw [← c];exact hb) k.two)
   exact bS.mpr (.inr (.inl this))
  ·by_cases c2:e.2=v
   ·obtain⟨i,a1,b1⟩:=hb
    obtain⟨j,a2,b2⟩:=k.one
    have il:=(KL.mp a1).1
    have jl:=(KL.mp a2).1
    have:=k.inj _ _ v (c2▸b1) b2
    have ij:i=j:=by unfold nx at this;split at this <;> split at this <;> omega
    subst ij
    rw [a1] at a2
    exact bS.mpr (.inl (Prod.ext (K3 a2) c2))
   ·exact bS.mpr (.inr (.inr (.inr (h.c e ((k.bd e).mpr (.inr ⟨hb,c,c2⟩)) n1 n2))))
 ·rcases bS.mp he with z | z | z | m
  ·exact absurd (z▸k.one) hb
  ·exact absurd (z▸k.two) hb
  ·have:rv e=(u,w):=congrArg rv z
   rw [this]
   refine bS.mpr (.inr (.inr (.inr (h.c _ buw (fun q=>n2 ?_) (fun q=>n1 ?_)))))
   ·rw [z];exact congrArg rv q
   ·rw [z];exact congrArg rv q
  ·by_cases c:Bd row' e
   ·rcases (k.bd e).mp c with rfl | ⟨q,_⟩
    ·exact bS.mpr (.inr (.inr (.inl rfl)))
    ·exact absurd q hb
   ·exact bS.mpr (.inr (.inr (.inr (h.d e m c n1 n2))))
 ·have old:∀e∈eL ts,S e:=h.e S (fun t ht=>hr t (K4 _ ht)) (fun e he hb=>by
    refine hv e (bS.mpr (.inr (.inr (.inr he)))) fun q=>hb ?_
    have nv:=novert e he
    exact (k.bd e).mpr (.inr ⟨q,nv.1,nv.2⟩)) (fun m=>h1 (bS.mpr (.inr (.inr (.inr m))))) (fun m=>h2 (bS.mpr (.inr (.inr (.inr m)))))
  have r:=hr (u,v,w) (K9 ..)
  have last:S (w,u):=by
   by_cases c1:(u,w)=nQ
   ·have:(w,u)=wt:=congrArg rv c1
    rw [this];exact h2 (bS.mpr (.inr (.inr (.inl this.symm))))
   ·by_cases c2:(u,w)=wt
    ·have:(w,u)=nQ:=congrArg rv c2
     rw [this];exact h1 (bS.mpr (.inr (.inr (.inl this.symm))))
    ·have m:=h.c _ buw c1 c2
     exact hv (u,w) (bS.mpr (.inr (.inr (.inr m)))) nuw (old _ m)
  intro e he
  rcases bS.mp he with rfl | rfl | rfl | m
  ·exact r.2.2 last
  ·exact r.1 (r.2.2 last)
  ·exact last
  ·exact old e m
theorem uQ {row:List Z2} {ts:List fD} (t:fj row ts):bQ row.length row→eD row ts:=by
 induction t with
 | done h2=>intro h;rw [h.pair h2];exact zu
 | cut hn e _ ih =>
  rename_i row i u v w ts _
  intro h
  have hc:=h.cut hn e
  have hl:(row.eraseIdx i).length=row.length - 1:=by rw [List.length_eraseIdx,KS e.il]
  exact Ay (h.Ja hn e) (ih (by rw [hl];exact hc))
end L2.L3
namespace L2.L3
open PySem L2
inductive ba where
 | gap (i:Nat) | edge (e:se)
 deriving DecidableEq
def bg (fs:List Z2) (i:Nat):se:=(fs.getD i (1,0),fs.getD (nx fs.length i) (1,0))
theorem Ct {n i:Nat} (h:i < n):nx n i < n:=by unfold nx;split <;> omega
section
variable {fs:List Z2} {ms:List Mk} {ts:List fD} {ha th:ba→Option ba}
theorem l9 {l:List Z2} {i:Nat} (h:i < l.length):l[i]?=some (l.getD i (1,0)):=by
 rw [Lv,KP h];rfl
theorem xZ {i:Nat} (h:i < fs.length):Bd fs (bg fs i):=⟨i,l9 h,l9 (Ct h)⟩
theorem tQ {e:se} (h:Bd fs e):∃i,i < fs.length∧e=bg fs i:=by
 obtain⟨i,h1,h2⟩:=h
 have hi:=(KL.mp h1).1
 rw [l9 hi] at h1
 rw [l9 (Ct hi)] at h2
 exact⟨i,hi,Prod.ext (K3 h1).symm (K3 h2).symm⟩
theorem pL (h:bQ fs.length fs) {i j:Nat} (hi:i < fs.length) (hj:j < fs.length) (e:bg fs i=bg fs j):i=j :=
 h.inj (l9 hi) (by rw [l9 hj];exact congrArg some (congrArg Prod.fst e).symm)
structure Links (fs:List Z2) (ms:List Mk) (ts:List fD) (ha th:ba→Option ba):Prop where
 rot:∀t∈ts,th (.edge (t.1,t.2.1))=some (.edge (t.2.1,t.2.2))∧th (.edge (t.2.1,t.2.2))=some (.edge (t.2.2,t.1))∧th (.edge (t.2.2,t.1))=some (.edge (t.1,t.2.1))
 thg:∀i,ms[i]?=some Mk.aZ→th (.gap i)=some (.gap i)
 hag:∀i,ms[i]?=some Mk.aZ→ha (.gap i)=some (.edge (bg fs i))∧ha (.edge (bg fs i))=some (.gap i)
 hah:∀i,ms[i]?=some Mk.half→ha (.edge (bg fs i))=some (.edge (bg fs i))
 ham:∀i j,ms[i]?=some (Mk.gap j)→ha (.edge (bg fs i))=some (.edge (bg fs j))
 hai:∀e∈eL ts,¬ Bd fs e→ha (.edge e)=some (.edge (rv e))
def qB (ms:List Mk) (ts:List fD):ba→Prop
 | .gap i=>ms[i]?=some Mk.aZ
 | .edge e=>e∈eL ts
theorem mi {e:se} (h:e∈eL ts):∃t∈ts,e∈te t:=List.mem_flatMap.mp h
theorem AE {t:fD} (h:t∈ts) {e:se} (he:e∈te t):e∈eL ts:=List.mem_flatMap.mpr ⟨t,h,he⟩
theorem kX (h:bQ fs.length fs) (hn:2 < fs.length) (k:eD fs ts) {i:Nat} (hi:i < fs.length):bg fs i∈eL ts:=by
 have hb:=xZ hi
 have inj:Inj fs:=fun _ _ _=>h.inj
 by_cases c1:bg fs i=nQ
 ·rw [c1] at hb ⊢
  exact k.a.mpr fun h2=>Bd.back inj hn hb h2
 ·by_cases c2:bg fs i=wt
  ·rw [c2] at hb ⊢
   exact k.b.mpr fun h2=>Bd.back inj hn h2 hb
  ·exact k.c _ hb c1 c2
theorem Ie (k:eD fs ts) {e:se} (he:e∈eL ts) (hb:¬ Bd fs e):rv e∈eL ts:=by
 by_cases c1:e=nQ
 ·subst c1;exact k.b.mpr hb
 ·by_cases c2:e=wt
  ·subst c2;exact k.a.mpr hb
  ·exact k.d e he hb c1 c2
theorem sd (m:pz fs.length ms) {i:Nat} (hi:i < fs.length):ms[i]?=some Mk.half∨ms[i]?=some Mk.aZ∨∃j,j < fs.length∧ms[i]?=some (Mk.gap j):=by
 have hl:=m.len
 have:ms[i]?=some (ms[i]'(by omega)):=KP _
 cases e:ms[i]'(by omega) with
 | half=>rw [e] at this;exact .inl this
 | aZ=>rw [e] at this;exact .inr (.inl this)
 | gap j =>
  rw [e] at this
  have q:=(KL.mp (m.pair i j this).2).1
  exact .inr (.inr ⟨j,by omega,this⟩)
theorem dJ (m:pz fs.length ms) {i:Nat} {x:Mk} (h:ms[i]?=some x):i < fs.length:=by
 have:=(KL.mp h).1;have:=m.len;omega
theorem jH (h:ky fs ms) (hn:2 < fs.length) (k:eD fs ts) (l:Links fs ms ts ha th) {p:ba} (hp:qB ms ts p):∃q,ha p=some q∧qB ms ts q∧ha q=some p:=by
 cases p with
 | gap i =>
  have hp':ms[i]?=some Mk.aZ:=hp
  exact⟨_,(l.hag i hp').1,kX h.fr hn k (dJ h.mar hp'),(l.hag i hp').2⟩
 | edge e =>
  have he:e∈eL ts:=hp
  by_cases hb:Bd fs e
  ·obtain⟨i,hi,rfl⟩:=tQ hb
   rcases sd h.mar hi with c | c | ⟨j,hj,c⟩
   ·exact⟨_,l.hah i c,he,l.hah i c⟩
   ·exact⟨_,(l.hag i c).2,c,(l.hag i c).1⟩
   ·exact⟨_,l.ham i j c,kX h.fr hn k hj,l.ham j i (h.mar.pair i j c).2⟩
  ·have r:=Ie k he hb
   refine⟨_,l.hai e he hb,r,?_⟩
   have nb:¬ Bd fs (rv e):=fun q=>k.none _ q he
   exact l.hai (rv e) r nb
theorem vG (l:Links fs ms ts ha th) {p:ba} (hp:qB ms ts p):∃q,th p=some q∧qB ms ts q:=by
 cases p with
 | gap i=>exact⟨_,l.thg i hp,hp⟩
 | edge e =>
  obtain⟨t,ht,he⟩:=mi hp
  have r:=l.rot t ht
  have m:∀x∈te t,x∈eL ts:=fun x hx=>AE ht hx
  unfold te at he m
  simp only [Ld,Lm,or_false] at he
  rcases he with rfl | rfl | rfl
  ·exact⟨_,r.1,m _ (by simp)⟩
  ·exact⟨_,r.2.1,m _ (by simp)⟩
  ·exact⟨_,r.2.2,m _ (by simp)⟩
theorem Gg (h:ky fs ms) (hn:2 < fs.length) (k:eD fs ts) (l:Links fs ms ts ha th) {p:ba} (hp:qB ms ts p):ha p=some p↔∃i,ms[i]?=some Mk.half∧p=.edge (bg fs i):=by
 constructor
 ·intro hf
  cases p with
  | gap i=>rw [(l.hag i hp).1] at hf;cases hf
  | edge e =>
   have he:e∈eL ts:=hp
   by_cases hb:Bd fs e
   ·obtain⟨i,hi,rfl⟩:=tQ hb
    rcases sd h.mar hi with c | c | ⟨j,hj,c⟩
    ·exact⟨i,c,rfl⟩
    ·rw [(l.hag i c).2] at hf;cases hf
    ·rw [l.ham i j c] at hf
     have:=pL h.fr hj hi (by injection hf with q;injection q)
     exact absurd this (h.mar.pair i j c).1
   ·rw [l.hai e he hb] at hf
    have q:rv e=e:=by injection hf with q;injection q
    exact absurd (congrArg Prod.fst q).symm (k.ne e he)
 ·rintro⟨i,c,rfl⟩
  exact l.hah i c
theorem E2 (k:eD fs ts) (l:Links fs ms ts ha th) {p:ba} (hp:qB ms ts p):th p=some p↔∃i,ms[i]?=some Mk.aZ∧p=.gap i:=by
 constructor
 ·intro hf
  cases p with
  | gap i=>exact⟨i,hp,rfl⟩
  | edge e =>
   exfalso
   have hp':e∈eL ts:=hp
   obtain⟨t,ht,he⟩:=mi hp'
   have r:=l.rot t ht
   have ne:=k.ne e hp'
   unfold te at he
   simp only [Ld,Lm,or_false] at he
   rcases he with rfl | rfl | rfl
   ·rw [r.1] at hf;injection hf with q;injection q with q;exact ne (congrArg Prod.fst q).symm
   ·rw [r.2.1] at hf;injection hf with q;injection q with q;exact ne (congrArg Prod.fst q).symm
   ·rw [r.2.2] at hf;injection hf with q;injection q with q;exact ne (congrArg Prod.fst q).symm
 ·rintro⟨i,c,rfl⟩
  exact l.thg i c
def sY (fs:List Z2) (ts:List fD) (ha:ba→Option ba) (f:ba):Prop:=(nQ∈eL ts∧f=.edge nQ)∨(nQ∉eL ts∧ha (.edge (bg fs (fs.length - 1)))=some f)
theorem Bt (h:bQ fs.length fs) (hb:Bd fs wt):bg fs (fs.length - 1)=wt:=by
 obtain⟨i,hi,e⟩:=tQ hb
 have h2:fs[nx fs.length i]?=some (1,0):=by
  rw [l9 (Ct hi)]
  exact congrArg some (congrArg Prod.snd e).symm
 have:=h.inj h2 h.first
 unfold nx at this
 split at this
 ·have:i=fs.length - 1:=by omega
  rw [← this];exact e.symm
 ·omega
theorem Bo (h:ky fs ms) (hn:2 < fs.length) (k:eD fs ts) (l:Links fs ms ts ha th) {f:ba} (hf:sY fs ts ha f):qB ms ts f:=by
 rcases hf with ⟨a,rfl⟩ | ⟨_,b⟩
 ·exact a
 ·obtain⟨q,h1,h2,_⟩:=jH (p:=.edge (bg fs (fs.length - 1))) h hn k l (kX h.fr hn k (by omega))
  rw [b] at h1;cases h1;exact h2
theorem reach (h:ky fs ms) (hn:2 < fs.length) (k:eD fs ts) (l:Links fs ms ts ha th) {f:ba} (hf:sY fs ts ha f) {S:ba→Prop} (s0:S f) (s1:∀p q,S p→ha p=some q→S q) (s2:∀p q,S p→th p=some q→S q):∀p,qB ms ts p→S p:=by
 have both:(nQ∈eL ts→S (.edge nQ))∧(wt∈eL ts→S (.edge wt)):=by
  rcases hf with ⟨a,rfl⟩ | ⟨na,b⟩
  ·refine⟨fun _=>s0,fun m=>?_⟩
   exact s1 _ _ s0 (l.hai nQ a (k.b.mp m))
  ·refine⟨fun m=>absurd m na,fun _=>?_⟩
   have hb:Bd fs wt:=Classical.byContradiction fun q=>na (k.a.mpr q)
   obtain⟨q,h1,h2,h3⟩:=jH (p:=.edge (bg fs (fs.length - 1))) h hn k l (kX h.fr hn k (by omega))
   rw [b] at h1;cases h1
   rw [Bt h.fr hb] at h3
   exact s1 _ _ s0 h3
 have edges:∀e∈eL ts,S (.edge e):=k.e (fun e=>S (.edge e)) (fun t ht=>⟨fun q=>s2 _ _ q (l.rot t ht).1,fun q=>s2 _ _ q (l.rot t ht).2.1,fun q=>s2 _ _ q (l.rot t ht).2.2⟩) (fun e he hb q=>s1 _ _ q (l.hai e he hb)) both.1 both.2
 intro p hp
 cases p with
 | edge e=>exact edges e hp
 | gap i =>
  have hp':ms[i]?=some Mk.aZ:=hp
  exact s1 _ _ (edges _ (kX h.fr hn k (dJ h.mar hp'))) (l.hag i hp').2
end
theorem zD {α β:Type} [DecidableEq α] {met:List α} {is:List β} {g:β→α} (P:α→Bool) (nd:met.Nodup) (gi:∀i∈is,∀j∈is,g i=g j→i=j) (ni:is.Nodup) (hP:∀p∈met,P p=true↔∃i∈is,p=g i) (hm:∀i∈is,g i∈met):(met.filter P).length=is.length:=by
 have n1:(met.filter P).Nodup:=nd.filter P
 have n2:(is.map g).Nodup:=by
  rw [List.nodup_iff_pairwise_ne,List.pairwise_map]
  exact (List.nodup_iff_pairwise_ne.mp ni).imp_of_mem fun ha hb ne e=>ne (gi _ ha _ hb e)
 have perm:(met.filter P).Perm (is.map g):=(List.perm_ext_iff_of_nodup n1 n2).mpr fun a=>by
  rw [List.mem_filter,Ls]
  constructor
  ·rintro⟨h1,h2⟩
   obtain⟨i,hi,e⟩:=(hP a h1).mp h2
   exact⟨i,hi,e.symm⟩
  ·rintro⟨i,hi,rfl⟩
   exact⟨hm i hi,(hP _ (hm i hi)).mpr ⟨i,hi,rfl⟩⟩
 rw [perm.length_eq,KZ]
end L2.L3
namespace K55
open PySem L2 L2.L3
def Jg (t:fD):D:=.tup [de t.1,de t.2.1,de t.2.2]
theorem zP {α β:Type} (f:α→β) (l:List α) (i:Nat):(l.map f).eraseIdx i=(l.eraseIdx i).map f:=by
 apply List.ext_getElem?
 intro j
 simp only [tS,KU]
 split <;> rfl
def Cn (x:D) (Q:D→Prop):Prop:=∃fs,x=.tup (fs.map de)∧bQ fs.length fs∧∀ts,fj fs ts→ts.length≤fs.length→Q (.lst (ts.map Jg))
def dW:Fw:=F1 Cn
def iR:bH:=(ib C4 (af (cC (.int 1)) (af (dE 1) av)) (aM 3) (aG (a7 4 (cF 1 (aC gr (ag 3) (cC (.int 1))))) (aG (a7 5 (cF 1 (aC gz (aC bO (ag 3) (cC (.int 1))) (dE 1)))) (hV (kc (aK (aC sT (cF 1 (ag 3)) (bD (af (cC (.int 0)) (af (cC (.int 1)) av))))) (aK (aC ja (aB vt (af (aC gr (aC cQ (aC cR (ag 4) (cC (.int 0))) (aC cR (ag 5) (cC (.int 1)))) (aC cQ (aC cR (ag 4) (cC (.int 1))) (aC cR (ag 5) (cC (.int 0))))) av)) (cC (.int 1))))) (aG (cP 2 (bD (af (ag 4) (af (cF 1 (ag 3)) (af (ag 5) av))))) (aG (vV 1 (ag 3)) jk)) br))))
def jO:bH:=(aG (bF 1 (jT (af (ag 0) av))) (aG (bF 2 (kE av)) (aG (eR (aK (aC DA (dE 1) (cC (.int 2)))) iR) (cv 2 (bc (ag 2))))))
theorem qM:∀ds Q,dW ds Q→ds.length=1:=gH
theorem tE:∀ds (Q:D→Prop),dW ds Q→jO { nx:=fun _=>Q .non,rt:=Q } (aE ["_law_fractions_here","_law_row_here","_law_tiles_here","_law_i","_law_near","_law_far"] ds):=by
 rintro ds Q ⟨x,rfl,fs,rfl,hf,h⟩
 simp_arith only [jO,eR,vV]
 refine⟨fun e=>∃(row:List Z2) (acc:List fD) (k3 k4 k5:Option Lo),e=[some (.d (.tup (fs.map de))),some (.own (row.map de)),some (.own (acc.map Jg)),k3,k4,k5]∧bQ row.length row∧(∀rest,fj row rest→fj fs (acc ++ rest))∧acc.length + row.length=fs.length,
  Gd 1,⟨fs,[],none,none,none,rfl,hf,fun rest t=>t,by simp⟩,?_⟩
 rintro env ⟨row,acc,k3,k4,k5,rfl,hr,ht,hlen⟩
 have two:=hr.two
 have most:=hf.most
 refine⟨_,rfl,?_⟩
 by_cases c:2 < row.length
 ·rw [KS (by rw [KZ];omega)]
  simp_arith only [iR,vV,KZ]
  refine⟨by omega,by omega,?_⟩
  refine bX (fun i e=>∃k3 k4 k5:Option Lo,e=[some (.d (.tup (fs.map de))),some (.own (row.map de)),some (.own (acc.map Jg)),k3,k4,k5]∧∀j u v w,j < i + 1→¬ Hj row.length row j u v w) ?_ ?_ ⟨k3,k4,k5,rfl,fun j u v w hj e=>by have:=e.i0;omega⟩
  ·rintro i x env N hx ⟨k3,k4,k5,rfl,hno⟩ hN
   have hi:i < row.length - 1:=by
    have:=(KL.mp hx).1
    simp [a8] at this;omega
   have hxe:x=.int ((i + 1:Nat):Int):=by
    unfold a8 at hx
    rw [KU,Lw (by omega)] at hx
    cases hx;simp
    try omega
   subst hxe
   have hu:row[i]?=some row[i]:=KP (by omega)
   have hv:row[i + 1]?=some row[i + 1]:=KP (by omega)
   have hm:(i + 1 + 1) % row.length < row.length:=Nat.mod_lt _ (by omega)
   have hw:row[(i + 1 + 1) % row.length]?=some (row[(i + 1 + 1) % row.length]):=KP hm
   generalize row[i]=u at hu
   generalize row[i + 1]=v at hv
   generalize row[(i + 1 + 1) % row.length]=w at hw
   have e1:kn (row.map de) (((i + 1:Nat):Int) - 1)=some (de u):=by rw [show ((i + 1:Nat):Int) - 1=(i:Int) by omega];exact gL _ _ i _ hu
   have e2:kn (row.map de) ((i + 1:Nat):Int)=some (de v):=gL _ _ (i + 1) _ hv
   have e3:kn (row.map de) ((((i + 1:Nat):Int) + 1).fmod (row.length:Int))=some (de w):=by
    have:(((i + 1:Nat):Int) + 1).fmod (row.length:Int)=(((i + 1 + 1) % row.length:Nat):Int):=by
     rw [Int.fmod_eq_emod_of_nonneg _ (by omega),Int.natCast_emod,show (((i + 1 + 1:Nat)):Int)=((i + 1:Nat):Int) + 1 by omega]
    rw [this];exact gL _ _ _ _ hw
   have bu:=hr.bits u (K6 hu)
   have bw:=hr.bits w (K6 hw)
   simp_arith only [vV,KZ]
   refine⟨_,_,rfl,e1,by show (row.length:Int)≠0;omega,_,_,rfl,e3,_,_,rfl,e2,?_⟩
   rw [show (D.tup [D.int 0,D.int 1])=de (0,1) from rfl,AO]
   refine⟨_,rfl,?_⟩
   by_cases c0:v=(0,1)
   ·rw [decide_eq_true c0]
    refine hN _ ⟨_,_,_,rfl,fun j a b d hj e=>?_⟩
    rcases Lg.mp hj with z | z
    ·exact hno j a b d z e
    ·subst z
     have:=e.mid
     rw [hv] at this
     exact e.ne ((K3 this).symm.trans c0)
   ·rw [decide_eq_false c0]
    show cR (de u) (.int 0) _
    rw [yw,yq]
    simp_arith only [and_true]
    refine⟨bK bu.1 bw.2 (by decide),?_⟩
    rw [yq,yw]
    simp_arith only [and_true]
    refine⟨bK bu.2 bw.1 (by decide),?_⟩
    by_cases c1:((u.1 * w.2 - u.2 * w.1).natAbs:Int)=1
    ·rw [KS c1]
     have ear:Hj row.length row (i + 1) u v w:=⟨by omega,by omega,by rw [show i + 1 - 1=i by omega];exact hu,hv,hw,c0,by show (u.1 * w.2 - u.2 * w.1).natAbs=1;omega⟩
     have cut:=hr.cut c ear
     have hle:(row.eraseIdx (i + 1)).length=row.length - 1:=by rw [List.length_eraseIdx,KS (by omega)]
     refine⟨by omega,_,_,rfl,e2,i + 1,rfl,by omega,by omega,⟨row.eraseIdx (i + 1),acc ++ [(u,v,w)],_,_,_,zP .. ,by rw [List.map_append];rfl,rfl,rfl,rfl,by rw [hle];exact cut,fun rest t=>?_,?_⟩,?_⟩
     ·have:=ht ((u,v,w) :: rest) (.cut c ear t)
      rw [List.append_assoc];exact this
     ·rw [hle,Lh];simp;omega
     ·show ((row.map de).eraseIdx (i + 1)).length < (row.map de).length
      rw [List.length_eraseIdx,KS (by simp;omega),KZ];omega
    ·rw [KQ c1]
     refine hN _ ⟨_,_,_,rfl,fun j a b d hj e=>?_⟩
     rcases Lg.mp hj with z | z
     ·exact hno j a b d z e
     ·subst z
      have q1:=e.near
      have q2:=e.far
      rw [show i + 1 - 1=i by omega,hu] at q1
      rw [hw] at q2
      cases q1;cases q2
      have:=e.one
      unfold eM at this
      exact c1 (by omega)
  ·rintro env ⟨k3,k4,k5,rfl,hno⟩
   exfalso
   obtain⟨i,u,v,w,e⟩:=GZ hr c
   have el:(a8 1 ((row.length:Int) - 1).toNat).length=row.length - 1:=by simp [a8] <;> omega
   rw [el] at hno
   exact hno i u v w (by have:=e.il;omega) e
 ·rw [KQ (by rw [KZ];omega)]
  refine⟨_,rfl,_,rfl,?_⟩
  have t:=ht [] (.done (by omega))
  rw [Lu] at t
  exact h acc t (by omega)
def cq:ba→D
 | .gap i=>.int i
 | .edge e=>.tup [de e.1,de e.2]
theorem bq (p:ba):a0 (cq p)=true∧dep (cq p)≤8:=by
 cases p with
 | gap i=>exact⟨rfl,by simp [cq,dep]⟩
 | edge e=>exact⟨by simp [cq,de,a0,iW],by simp [cq,de,dep,bE]⟩
theorem ym {x y:Z2} (h:de x=de y):x=y:=by
 unfold de at h
 simp only [D.tup.injEq,List.cons.injEq,D.int.injEq,and_true] at h
 exact Prod.ext h.1 h.2
theorem sV {p q:ba} (h:cq p=cq q):p=q:=by
 cases p with
 | gap i=>cases q with
  | gap j=>simp only [cq,D.int.injEq] at h;rw [show i=j by omega]
  | edge e=>simp only [cq] at h;cases h
 | edge e=>cases q with
  | gap j=>simp only [cq] at h;cases h
  | edge d =>
   simp only [cq,D.tup.injEq,List.cons.injEq,and_true] at h
   rw [show e=d from Prod.ext (ym h.1) (ym h.2)]
theorem qb (p q:ba):a5 (cq p) (cq q)=decide (p=q):=by
 rw [Bool.eq_iff_iff,DL (bq p).1 (bq q).1,decide_eq_true_eq]
 exact⟨sV,fun h=>h▸rfl⟩
structure fU (kvs:List (D×D)) (f:ba→Option ba):Prop where
 ok:dj kvs
 get:∀p,i8 kvs (cq p)=(f p).map cq
 key:∀kv∈kvs,∃p,kv.1=cq p
def qP (f:ba→Option ba) (p q:ba):ba→Option ba:=fun x=>if x=p then some q else f x
theorem bW {f:ba→Option ba} {p q:ba}:qP f p q p=some q:=KS rfl
theorem bB {f:ba→Option ba} {p q x:ba} (h:x≠p):qP f p q x=f x:=KQ h
theorem fU.nil:fU [] (fun _=>none):=⟨dj.nil,fun _=>rfl,fun kv h=>absurd h Lm⟩
theorem fU.put {kvs:List (D×D)} {f:ba→Option ba} (h:fU kvs f) (p q:ba):fU (putN kvs (cq p) (cq q)) (qP f p q):=by
 refine⟨h.ok.put (bq p).1 (bq p).2,fun x=>?_,fun kv m=>?_⟩
 ·rw [Br h.ok (bq p).1 (bq x).1,qb,h.get]
  unfold qP
  by_cases c:p=x
  ·rw [KS (decide_eq_true c),KS c.symm];rfl
  ·rw [KQ (by simpa using c),KQ (fun z=>c z.symm)]
 ·unfold putN at m
  split at m
  ·obtain⟨kw,m',rfl⟩:=Ls.mp m
   obtain⟨z,hz⟩:=h.key kw m'
   refine⟨z,?_⟩
   split <;> exact hz
  ·rcases Lf.mp m with m | m
   ·exact h.key kv m
   ·rw [Le] at m;subst m;exact⟨p,rfl⟩
theorem fU.any {kvs:List (D×D)} {f:ba→Option ba} (h:fU kvs f) (p:ba):(kvs.any fun kv=>a5 kv.1 (cq p))=(f p).isSome:=by
 rw [Bl,h.get,Option.isSome_map]
theorem fU.mem {kvs:List (D×D)} {f:ba→Option ba} (h:fU kvs f) (p:ba):cq p∈kvs.map (·.1)↔(f p).isSome=true:=by
 rw [← h.any,List.any_eq_true,Ls]
 constructor
 ·rintro⟨kv,m,e⟩;exact⟨kv,m,by rw [e];exact fX _ (bq p).1⟩
 ·rintro⟨kv,m,e⟩
  obtain⟨z,hz⟩:=h.key kv m
  rw [hz,qb,decide_eq_true_eq] at e
  exact⟨kv,m,by rw [hz,e]⟩
def oU (fs:List Z2) (ms:List Mk) (ha th:ba→Option ba) (f:ba):Prop :=
 (2 < fs.length∧∃ts,eD fs ts∧fj fs ts∧ts.length≤fs.length∧Links fs ms ts ha th∧sY fs ts ha f) ∨
 (fs.length=2∧(∀i,ms[i]?=some Mk.aZ→th (.gap i)=some (.gap i)∧ha (.gap i)=some (.gap (if ms[1 - i]?=some Mk.aZ then 1 - i else i)))∧f=.gap (if ms[1]?=some Mk.aZ then 1 else 0))
def Cm (x:D) (Q:D→Prop):Prop:=∃fs ms,x=nY fs ms∧ky fs ms∧∀hk tk ha th f,fU hk ha→fU tk th→oU fs ms ha th f→Q (.tup [.obj (mr hk),.obj (mr tk),cq f])
def dN:Fw:=F1 Cm
structure vO (ts:List fD) (th:ba→Option ba):Prop where
 rot:∀t∈ts,th (.edge (t.1,t.2.1))=some (.edge (t.2.1,t.2.2))∧th (.edge (t.2.1,t.2.2))=some (.edge (t.2.2,t.1))∧th (.edge (t.2.2,t.1))=some (.edge (t.1,t.2.1))
 only:∀e,(th (.edge e)).isSome=true→e∈eL ts
 gaps:∀i,th (.gap i)=none
theorem vO.nil:vO [] (fun _=>none):=⟨fun t h=>absurd h Lm,fun e h=>(by cases h),fun _=>rfl⟩
theorem vi (ts:List fD) (t:fD):eL (ts ++ [t])=eL ts ++ te t:=by unfold eL;simp
theorem vO.snoc {ts:List fD} {th:ba→Option ba} (h:vO ts th) {t:fD} (nd:(eL (ts ++ [t])).Nodup) :
  vO (ts ++ [t]) (qP (qP (qP th (.edge (t.1,t.2.1)) (.edge (t.2.1,t.2.2))) (.edge (t.2.1,t.2.2)) (.edge (t.2.2,t.1))) (.edge (t.2.2,t.1)) (.edge (t.1,t.2.1))):=by
 rw [vi,LN] at nd
 obtain⟨n1,n2,n3⟩:=nd
 unfold te at n2 n3
 simp only [LC,Ld,Lm,or_false,not_or] at n2
 obtain⟨⟨a12,a13⟩,a23,_⟩:=n2
 have e12:(ba.edge (t.1,t.2.1))≠.edge (t.2.1,t.2.2):=fun z=>a12 (by injection z)
 have e13:(ba.edge (t.1,t.2.1))≠.edge (t.2.2,t.1):=fun z=>a13 (by injection z)
 have e23:(ba.edge (t.2.1,t.2.2))≠.edge (t.2.2,t.1):=fun z=>a23 (by injection z)
 have old:∀e∈eL ts,qP (qP (qP th (.edge (t.1,t.2.1)) (.edge (t.2.1,t.2.2))) (.edge (t.2.1,t.2.2)) (.edge (t.2.2,t.1))) (.edge (t.2.2,t.1)) (.edge (t.1,t.2.1)) (.edge e)=th (.edge e):=fun e he=>by
  have q:=fun x hx (z:ba.edge e=.edge x)=>n3 e he x hx (by injection z)
  rw [bB (q _ (by simp)),bB (q _ (by simp)),bB (q _ (by simp))]
 refine⟨fun u hu=>?_,fun e he=>?_,fun i=>?_⟩
 ·rcases Lf.mp hu with hu | hu
  ·have m:∀x∈te u,x∈eL ts:=fun x hx=>AE hu hx
   unfold te at m
   have r:=h.rot u hu
   exact⟨by rw [old _ (m _ (by simp))];exact r.1,by rw [old _ (m _ (by simp))];exact r.2.1,by rw [old _ (m _ (by simp))];exact r.2.2⟩
  ·rw [Le] at hu;subst hu
   exact⟨by rw [bB e13,bB e12,bW],by rw [bB e23,bW],bW⟩
 ·rw [vi]
  by_cases c:e∈te t
  ·exact Lf.mpr (.inr c)
  ·refine Lf.mpr (.inl (h.only e ?_))
   unfold te at c
   simp only [Ld,Lm,or_false,not_or] at c
   have q:∀x,e≠x→ba.edge e≠.edge x:=fun x hx z=>hx (by injection z)
   rw [bB (q _ c.2.2),bB (q _ c.2.1),bB (q _ c.1)] at he
   exact he
 ·rw [bB (by simp),bB (by simp),bB (by simp)];exact h.gaps i
structure BA (fs:List Z2) (ms:List Mk) (ts:List fD) (j:Nat) (ha th:ba→Option ba):Prop where
 rot:∀t∈ts,th (.edge (t.1,t.2.1))=some (.edge (t.2.1,t.2.2))∧th (.edge (t.2.1,t.2.2))=some (.edge (t.2.2,t.1))∧th (.edge (t.2.2,t.1))=some (.edge (t.1,t.2.1))
 only:∀e,(th (.edge e)).isSome=true→e∈eL ts
 thg:∀i,i < j→ms[i]?=some Mk.aZ→th (.gap i)=some (.gap i)
 hag:∀i,i < j→ms[i]?=some Mk.aZ→ha (.gap i)=some (.edge (bg fs i))∧ha (.edge (bg fs i))=some (.gap i)
 hah:∀i,i < j→ms[i]?=some Mk.half→ha (.edge (bg fs i))=some (.edge (bg fs i))
 ham:∀i k,i < j→ms[i]?=some (Mk.gap k)→ha (.edge (bg fs i))=some (.edge (bg fs k))
 hai:∀e∈eL ts,(∀i,i < j→e≠bg fs i)→ha (.edge e)=some (.edge (rv e))
theorem BA.more {fs:List Z2} {ms:List Mk} {ts:List fD} {j:Nat} {ha th ha' th':ba→Option ba} (hf:bQ fs.length fs) (hj:j < fs.length) (h:BA fs ms ts j ha th)
  (h1:∀x,x≠.gap j→x≠.edge (bg fs j)→ha' x=ha x) (h2:∀x,x≠.gap j→th' x=th x)
  (h3:ms[j]?=some Mk.aZ→th' (.gap j)=some (.gap j)∧ha' (.gap j)=some (.edge (bg fs j))∧ha' (.edge (bg fs j))=some (.gap j))
  (h4:ms[j]?=some Mk.half→ha' (.edge (bg fs j))=some (.edge (bg fs j))) (h5:∀k,ms[j]?=some (Mk.gap k)→ha' (.edge (bg fs j))=some (.edge (bg fs k))):BA fs ms ts (j + 1) ha' th':=by
 have ne:∀i,i < j→ba.edge (bg fs i)≠.edge (bg fs j):=fun i hi z=>by
  have:=pL (i:=i) (j:=j) hf (by omega) hj (by injection z);omega
 have ng:∀i,i < j→ba.gap i≠.gap j:=fun i hi z=>by injection z with z;omega
 refine⟨fun t ht=>?_,fun e he=>?_,fun i hi hm=>?_,fun i hi hm=>?_,fun i hi hm=>?_,fun i k hi hm=>?_,fun e he hn=>?_⟩
 ·rw [h2 _ (by simp),h2 _ (by simp),h2 _ (by simp)];exact h.rot t ht
 ·rw [h2 _ (by simp)] at he;exact h.only e he
 ·rcases Lg.mp hi with z | z
  ·rw [h2 _ (ng i z)];exact h.thg i z hm
  ·subst z;exact (h3 hm).1
 ·rcases Lg.mp hi with z | z
  ·rw [h1 _ (ng i z) (by simp),h1 _ (by simp) (ne i z)];exact h.hag i z hm
  ·subst z;exact (h3 hm).2
 ·rcases Lg.mp hi with z | z
  ·rw [h1 _ (by simp) (ne i z)];exact h.hah i z hm
  ·subst z;exact h4 hm
 ·rcases Lg.mp hi with z | z
  ·rw [h1 _ (by simp) (ne i z)];exact h.ham i k z hm
  ·subst z;exact h5 k hm
 ·rw [h1 _ (by simp) (fun z=>hn j (by omega) (by injection z))]
  exact h.hai e he fun i hi=>hn i (by omega)
theorem ra {fs:List Z2} {i:Nat} (h:i < fs.length) {Q:D→Prop} (q:Q (cq (.edge (bg fs i)))):cR (.lst ((List.range fs.length).map fun i=>cq (.edge (bg fs i)))) (.int (i:Int)) Q :=
 ⟨_,gL (fun i=>cq (.edge (bg fs i))) (List.range fs.length) i i (by rw [Lw h]),q⟩
section
variable {a b:D} {Q:D→Prop}
theorem zp:cR (.tup [a,b]) (.int 0) Q=Q a:=propext ⟨fun⟨v,e,q⟩=>by have:some a=some v:=e;cases this;exact q,fun q=>⟨a,rfl,q⟩⟩
theorem zj:cR (.tup [a,b]) (.int 1) Q=Q b:=propext ⟨fun⟨v,e,q⟩=>by have:some b=some v:=e;cases this;exact q,fun q=>⟨b,rfl,q⟩⟩
theorem Fv:cR (.lst [a,b]) (.int 0) Q=Q a:=propext ⟨fun⟨v,e,q⟩=>by have:some a=some v:=e;cases this;exact q,fun q=>⟨a,rfl,q⟩⟩
theorem GL:cR (.lst [a,b]) (.int 1) Q=Q b:=propext ⟨fun⟨v,e,q⟩=>by have:some b=some v:=e;cases this;exact q,fun q=>⟨b,rfl,q⟩⟩
end
theorem wL {z z':Str} {Q:D→Prop}:sT (.str z) (.str z') Q=Q (.bl (!(z == z'))):=by
 unfold sT kz;simp only [dep,a5,Lp,and_self,true_and]
theorem FO {i:Int} {z:Str} {Q:D→Prop}:ja (.int i) (.str z) Q=Q (.bl false):=by
 unfold ja kz
 simp [dep,a5]
def vE (fs:List Z2):List D:=(List.range fs.length).map fun i=>cq (.edge (bg fs i))
def g9:bH:=(aG (a7 11 (bD (af (bD (af (cC (.int 1)) (af (cC (.int 0)) av))) (af (bD (af (cC (.int 0)) (af (cC (.int 1)) av))) av)))) (aG (gu 4 (hV (aK (aC ja (aB kL (af (ag 1) av)) (cC (.int 2)))) (aG (a7 11 (aC cR (eY (af (cC (.int 1)) (af (cC (.int 0)) av))) (aB o6 (af (aC sT (aC cR (ag 2) (cC (.int 1))) (cC (.str "third"))) av)))) (kd (eY (af (cC (.int 0)) (af (cC (.int 1)) av))) (aM 9) (hV (aK (aC ja (aC cR (ag 2) (ag 9)) (cC (.str "third")))) (bN 8 (ag 9) (aC cR (eY (af (ag 9) (af (aC gr (cC (.int 1)) (ag 9)) av))) (aB o6 (af (aC ja (aC cR (ag 2) (aC gr (cC (.int 1)) (ag 9))) (cC (.str "third"))) av)))) br))) (hV (aK (aC (Je true) (ag 11) (ag 4))) (a7 11 (oA 8 (aC cR (ag 3) (lq fK (cC (.int 1)))))) br))) (gu 8 (bc (bD (af (ag 8) (af (ag 4) (af (ag 11) av))))))))
def gZ:bH:=(aG (vq (af (ag 2) av) (fQ 2 (aR (aM 9) (aR (aM 10) fR))) (hV (aK (aC ja (ag 10) (cC (.str "third")))) (aG (bN 4 (ag 9) (ag 9)) (aG (bN 8 (ag 9) (aC cR (ag 3) (ag 9))) (bN 8 (aC cR (ag 3) (ag 9)) (ag 9)))) (hV (aK (aC ja (ag 10) (cC (.str "half")))) (bN 8 (aC cR (ag 3) (ag 9)) (aC cR (ag 3) (ag 9))) (bN 8 (aC cR (ag 3) (ag 9)) (aC cR (ag 3) (ag 10)))))) g9)
def gW:bH:=(aG (ma 8) (aG (tV 4 (fQ 2 (aR (aM 5) (aR (aM 7) fR))) (bN 8 (bD (af (ag 5) (af (ag 7) av))) (bD (af (ag 7) (af (ag 5) av))))) gZ))
def jI:bH:=(aG (gT (ag 0) (fQ 2 (aR (aM 1) (aR (aM 2) fR)))) (aG (a7 3 (d5 (gY m6 [1] (af (aB kL (af (ag 1) av)) av) dU (bD (af (aC cR (ag 1) (ag 0)) (af (aC cR (ag 1) (aC gz (aC bO (ag 0) (cC (.int 1))) (aB kL (af (ag 1) av)))) av)))))) (aG (ma 4) (aG (kd (aB dW (af (ag 1) av)) (fQ 3 (aR (aM 5) (aR (aM 6) (aR (aM 7) fR)))) (aG (bN 4 (bD (af (ag 5) (af (ag 6) av))) (bD (af (ag 6) (af (ag 7) av)))) (aG (bN 4 (bD (af (ag 6) (af (ag 7) av))) (bD (af (ag 7) (af (ag 5) av)))) (bN 4 (bD (af (ag 7) (af (ag 5) av))) (bD (af (ag 5) (af (ag 6) av))))))) gW))))
theorem xx {fs:List Z2} {ms:List Mk} {Q:D→Prop} (hf:ky fs ms) (h:∀hk tk ha th f,fU hk ha→fU tk th→oU fs ms ha th f→Q (.tup [.obj (mr hk),.obj (mr tk),cq f])) :
  ∀(ts:List fD) (tk:List (D×D)) (th:ba→Option ba) (k5 k6 k7:Option Lo),fj fs ts→ts.length≤fs.length→fU tk th→vO ts th→tk.length≤3 * ts.length →
  gW { nx:=fun _=>Q .non,rt:=Q } [some (.d (nY fs ms)),some (.d (.tup (fs.map de))),some (.d (.tup (ms.map ko))),some (.d (.lst (vE fs))),some (.dic tk),k5,k6,k7,none,none,none,none]:=by
 have two:=hf.fr.two
 have most:=hf.fr.most
 intro ts tk th k5 k6 k7 htl hlen hd ht hl
 have ok:=uQ htl hf.fr
 have rest6:∀(hk:List (D×D)) (ha:ba→Option ba) (k5 k7:Option Lo),fU hk ha→(∀e∈eL ts,ha (.edge e)=some (.edge (rv e)))→(∀i,ha (.gap i)=none)→hk.length≤tk.length →
   gZ { nx:=fun _=>Q .non,rt:=Q } [some (.d (nY fs ms)),some (.d (.tup (fs.map de))),some (.d (.tup (ms.map ko))),some (.d (.lst (vE fs))),some (.dic tk),k5,k6,k7,some (.dic hk),none,none,none]:=by
  intro hk ha k5 k7 hd2 hrv hg hl2
  have rest7:∀(hk tk:List (D×D)) (ha th:ba→Option ba) (k9 k10:Option Lo),fU hk ha→fU tk th→BA fs ms ts fs.length ha th→hk.length≤1000 →
    g9 { nx:=fun _=>Q .non,rt:=Q } [some (.d (nY fs ms)),some (.d (.tup (fs.map de))),some (.d (.tup (ms.map ko))),some (.d (.lst (vE fs))),some (.dic tk),k5,k6,k7,some (.dic hk),k9,k10,none]:=by
   intro hk tk ha th k9 k10 e1 e2 hh hl
   have ed:(D.tup [D.tup [D.int 1,D.int 0],D.tup [D.int 0,D.int 1]])=cq (.edge nQ):=rfl
   simp_arith only [g9,gu,Lo.dic.injEq,KZ]
   rw [ed]
   by_cases c:fs.length=2
   ·rw [KS (by omega)]
    obtain⟨t3,ngap⟩:=hf.mar.few c
    have ml:=hf.mar.len
    have at_:∀i,i < 2→ms[i]?=some Mk.aZ∨ms[i]?=some Mk.half:=fun i hi=>by
     rcases sd hf.mar (i:=i) (by omega) with z | z | ⟨j,_,z⟩
     ·exact .inr z
     ·exact .inl z
     ·exact absurd z (ngap i j)
    have sz2:=PySem.sizeLine_eq
    have kg0:=bq (.gap 0)
    have kg1:=bq (.gap 1)
    obtain⟨m0,m1,rfl⟩:∃m0 m1,ms=[m0,m1]:=by
     match ms,(show ms.length=2 by omega) with
     | [a,b],_=>exact⟨a,b,rfl⟩
    have b0:=at_ 0 (by omega)
    have b1:=at_ 1 (by omega)
    simp only [List.getElem?_cons_zero,List.getElem?_cons_succ,Option.some.injEq] at b0 b1
    have q1:(Str.ofString "half" == Str.ofString "third")=false:=by decide
    have q2:(Str.ofString "third" == Str.ofString "third")=true:=by decide
    rcases b0 with rfl | rfl <;> rcases b1 with rfl | rfl
    ·have a1:=e1.put (.gap 0) (.gap 1)
     have a2:=a1.put (.gap 1) (.gap 0)
     have n1:=di (kvs:=hk) (k:=cq (.gap 0)) (v:=cq (.gap 1))
     simp_arith only [turns,ko,wL,q1,q2,bN,gu,Lo.dic.injEq,zp,zj,Fv,GL]
     refine⟨kg0.1,kg0.2,e1.ok,by omega,kg1.1,kg1.2,a1.ok,Nat.lt_of_le_of_lt n1 (by omega),h _ _ _ _ (.gap 1) a2 e2 (.inr ⟨c,fun i hi=>⟨hh.thg i (dJ hf.mar hi) hi,?_⟩,rfl⟩)⟩
     match i,hi with
     | 0,_=>rw [bB (by simp),bW];rfl
     | 1,_=>rw [bW];rfl
    ·have a1:=e1.put (.gap 0) (.gap 0)
     simp_arith only [turns,ko,wL,q1,q2,bN,gu,Lo.dic.injEq,zp,zj,Fv,GL]
     refine⟨kg0.1,kg0.2,e1.ok,by omega,h _ _ _ _ (.gap 0) a1 e2 (.inr ⟨c,fun i hi=>⟨hh.thg i (dJ hf.mar hi) hi,?_⟩,rfl⟩)⟩
     match i,hi with
     | 0,_=>rw [bW];rfl
     | 1,hi=>simp at hi
    ·have a1:=e1.put (.gap 1) (.gap 1)
     simp_arith only [turns,ko,wL,q1,q2,bN,gu,Lo.dic.injEq,zp,zj,Fv,GL]
     refine⟨kg1.1,kg1.2,e1.ok,by omega,h _ _ _ _ (.gap 1) a1 e2 (.inr ⟨c,fun i hi=>⟨hh.thg i (dJ hf.mar hi) hi,?_⟩,rfl⟩)⟩
     match i,hi with
     | 0,hi=>simp at hi
     | 1,_=>rw [bW];rfl
    ·simp at t3
   ·rw [KQ (by omega)]
    have hn:2 < fs.length:=by omega
    have lk:Links fs ms ts ha th:=⟨hh.rot,fun i hi=>hh.thg i (dJ hf.mar hi) hi,fun i hi=>hh.hag i (dJ hf.mar hi) hi,fun i hi=>hh.hah i (dJ hf.mar hi) hi,fun i k hi=>hh.ham i k (dJ hf.mar hi) hi,fun e he hb=>hh.hai e he fun i hi z=>hb (z▸xZ hi)⟩
    have in1:(th (.edge nQ)).isSome=true↔nQ∈eL ts:=⟨hh.only nQ,fun m=>by
     obtain⟨q,hq,_⟩:=vG (p:=.edge nQ) lk m
     rw [hq];rfl⟩
    simp only [Je]
    have ke:=bq (.edge nQ)
    refine⟨tk,rfl,ke.1,ke.2,e2.ok,_,rfl,?_⟩
    rw [KS trivial,e2.any]
    by_cases m:nQ∈eL ts
    ·rw [in1.mpr m]
     exact h hk tk ha th _ e1 e2 (.inl ⟨hn,ts,ok,htl,hlen,lk,.inl ⟨m,rfl⟩⟩)
    ·have nm:(th (.edge nQ)).isSome=false:=by
      cases z:(th (.edge nQ)).isSome with
      | false=>rfl
      | true=>exact absurd (in1.mp z) m
     rw [nm]
     obtain⟨f,hf1,hf2,hf3⟩:=jH (p:=.edge (bg fs (fs.length - 1))) hf hn ok lk (kX hf.fr hn ok (by omega))
     have kl:=bq (.edge (bg fs (fs.length - 1)))
     have al:kn (vE fs) (-1)=some (cq (.edge (bg fs (fs.length - 1)))):=by
      have lg:(vE fs).length=fs.length:=by simp [vE]
      have ix:ux (vE fs).length (-1)=some (fs.length - 1):=by
       unfold ux
       rw [lg,KQ (by decide),KS (by omega)]
       congr 1;omega
      unfold kn
      rw [ix]
      show (vE fs)[fs.length - 1]?=_
      unfold vE
      rw [KU,Lw (by omega)];rfl
     show oA 8 _ _ _
     simp_arith only [oA,Lo.dic.injEq]
     refine⟨_,al,cq f,kl.1,kl.2,e1.ok,by rw [e1.get,hf1];rfl,?_⟩
     exact h hk tk ha th f e1 e2 (.inl ⟨hn,ts,ok,htl,hlen,lk,.inr ⟨m,hf1⟩⟩)
  simp_arith only [gZ,vq,Lo.dic.injEq]
  refine⟨_,_,rfl,rfl,?_⟩
  have ml:=hf.mar.len
  have sz:=PySem.sizeLine_eq
  refine bX (fun j e=>∃(hk tk:List (D×D)) (ha th:ba→Option ba) (k9 k10:Option Lo),e=[some (.d (nY fs ms)),some (.d (.tup (fs.map de))),some (.d (.tup (ms.map ko))),some (.d (.lst (vE fs))),some (.dic tk),k5,k6,k7,some (.dic hk),k9,k10,none]∧fU hk ha∧fU tk th∧BA fs ms ts j ha th∧hk.length≤100 + 2 * j∧tk.length≤100 + j) ?_ ?_ ⟨hk,tk,ha,th,none,none,rfl,hd2,hd,⟨ht.rot,ht.only,fun i hi=>absurd hi (LF _),fun i hi=>absurd hi (LF _),fun i hi=>absurd hi (LF _),fun i k hi=>absurd hi (LF _),fun e he _=>hrv e he⟩,by omega,by omega⟩
  ·rintro j x env N hx ⟨hk,tk,ha,th,k9,k10,rfl,e1,e2,hh,l1,l2⟩ hN
   obtain⟨m,hm,rfl⟩:∃m,ms[j]?=some m∧x=.tup [.int (j:Int),ko m]:=by
    obtain⟨y,hy,rfl⟩:=wd hx
    rw [KU] at hy
    obtain⟨m,hm,rfl⟩:=Lz.mp hy
    exact⟨m,hm,rfl⟩
   have hj:=dJ hf.mar hm
   have kg:=bq (.gap j)
   have ke:=bq (.edge (bg fs j))
   cases m with
   | aZ =>
    have a1:=e2.put (.gap j) (.gap j)
    have a2:=e1.put (.gap j) (.edge (bg fs j))
    have a3:=a2.put (.edge (bg fs j)) (.gap j)
    have n1:=di (kvs:=tk) (k:=cq (.gap j)) (v:=cq (.gap j))
    have n2:=di (kvs:=hk) (k:=cq (.gap j)) (v:=cq (.edge (bg fs j)))
    have n3:=di (kvs:=putN hk (cq (.gap j)) (cq (.edge (bg fs j)))) (k:=cq (.edge (bg fs j))) (v:=cq (.gap j))
    simp_arith only [ko,bN,Lo.dic.injEq,vE]
    rw [KS (beq_self_eq_true _)]
    refine⟨kg.1,kg.2,e2.ok,by omega,ra hj ⟨kg.1,kg.2,e1.ok,by omega,ra hj ⟨ke.1,ke.2,a2.ok,Nat.lt_of_le_of_lt n2 (by omega),hN _ ⟨_,_,_,_,_,_,rfl,a3,a1,?_,LA n3 (by omega),LA n1 (by omega)⟩⟩⟩⟩
    refine hh.more hf.fr hj (fun x x1 x2=>by rw [bB x2,bB x1]) (fun x x1=>bB x1) (fun _=>⟨bW,by rw [bB (by simp),bW],bW⟩) (fun z=>by rw [hm] at z;cases z) (fun k z=>by rw [hm] at z;cases z)
   | half =>
    have a1:=e1.put (.edge (bg fs j)) (.edge (bg fs j))
    have n1:=di (kvs:=hk) (k:=cq (.edge (bg fs j))) (v:=cq (.edge (bg fs j)))
    simp_arith only [ko,bN,Lo.dic.injEq,vE]
    rw [KQ (by decide),KS (beq_self_eq_true _)]
    refine ra hj (ra hj ⟨ke.1,ke.2,e1.ok,by omega,hN _ ⟨_,_,_,_,_,_,rfl,a1,e2,?_,LA n1 (by omega),by omega⟩⟩)
    exact hh.more hf.fr hj (fun x x1 x2=>bB x2) (fun x x1=>rfl) (fun z=>by rw [hm] at z;cases z) (fun _=>bW) (fun k z=>by rw [hm] at z;cases z)
   | gap k =>
    have hk':k < fs.length:=dJ hf.mar (hf.mar.pair j k hm).2
    have a1:=e1.put (.edge (bg fs j)) (.edge (bg fs k))
    have n1:=di (kvs:=hk) (k:=cq (.edge (bg fs j))) (v:=cq (.edge (bg fs k)))
    simp_arith only [ko,bN,Lo.dic.injEq,vE,FO]
    refine ra hk' (ra hj ⟨ke.1,ke.2,e1.ok,by omega,hN _ ⟨_,_,_,_,_,_,rfl,a1,e2,?_,LA n1 (by omega),by omega⟩⟩)
    exact hh.more hf.fr hj (fun x x1 x2=>bB x2) (fun x x1=>rfl) (fun z=>by rw [hm] at z;cases z) (fun z=>by rw [hm] at z;cases z) (fun k' z=>by rw [hm] at z;cases z;exact bW)
  ·rintro env ⟨hk,tk,ha,th,k9,k10,rfl,e1,e2,hh,l1,l2⟩
   have el:(nF (ms.map ko)).length=fs.length:=by rw [m7,KZ,ml]
   rw [el] at hh l1
   exact rest7 hk tk ha th k9 k10 e1 e2 hh (by omega)
 simp_arith only [gW,ma,tV,Lo.dic.injEq]
 intro p
 have sz:=PySem.sizeLine_eq
 refine bX (fun i e=>∃(hk:List (D×D)) (ha:ba→Option ba) (k5 k7:Option Lo),e=[some (.d (nY fs ms)),some (.d (.tup (fs.map de))),some (.d (.tup (ms.map ko))),some (.d (.lst (vE fs))),some (.d (.obj (Fy p))),k5,k6,k7,some (.dic hk),none,none,none]∧fU hk ha∧(∀e,cq (.edge e)∈(tk.map (·.1)).take i→ha (.edge e)=some (.edge (rv e)))∧(∀i,ha (.gap i)=none)∧hk.length≤i) ?_ ?_ ⟨[],_,k5,k7,rfl,fU.nil,fun e he=>by simp at he,fun _=>rfl,by simp⟩
 ·rintro i x env N hx ⟨hk,ha,k5,k7,rfl,hd2,hr,hg,hl2⟩ hN
  have hi:i < tk.length:=by have:=(KL.mp hx).1;simpa using this
  have hm:=K6 hx
  obtain⟨kv,hkv,rfl⟩:=Ls.mp hm
  obtain⟨q,hq⟩:=hd.key kv hkv
  rw [hq] at hm hx ⊢
  have hs:=(hd.mem q).mp hm
  cases q with
  | gap g=>rw [ht.gaps g] at hs;cases hs
  | edge e =>
   have k1:=bq (.edge e)
   have d1:=hd2.put (.edge e) (.edge (rv e))
   have l1:=di (kvs:=hk) (k:=cq (.edge e)) (v:=cq (.edge (rv e)))
   have tke:(tk.map (·.1)).take (i + 1)=(tk.map (·.1)).take i ++ [cq (.edge e)]:=by rw [LJ,hx];rfl
   simp only [cq,rv] at l1
   simp_arith only [cq,bN,Lo.dic.injEq]
   refine⟨k1.1,k1.2,hd2.ok,by omega,hN _ ⟨_,_,_,_,rfl,d1,fun d hdm=>?_,fun g=>?_,by omega⟩⟩
   ·by_cases c:d=e
    ·subst c;exact bW
    ·rw [bB (fun z=>c (by injection z))]
     rw [tke] at hdm
     rcases Lf.mp hdm with z | z
     ·exact hr d z
     ·rw [Le] at z
      exact absurd (by have:=sV z;injection this) c
   ·rw [bB (by simp)];exact hg g
 ·rintro env ⟨hk,ha,k5,k7,rfl,hd2,hr,hg,hl2⟩
  refine⟨rfl,?_⟩
  rw [KZ] at hr hl2
  refine rest6 hk ha k5 k7 hd2 (fun e he=>hr e ?_) hg hl2
  rw [LB (by simp),hd.mem]
  obtain⟨t,htt,het⟩:=mi he
  have r:=ht.rot t htt
  unfold te at het
  simp only [Ld,Lm,or_false] at het
  rcases het with rfl | rfl | rfl
  ·rw [r.1];rfl
  ·rw [r.2.1];rfl
  ·rw [r.2.2];rfl
theorem qJ:∀ds Q,dN ds Q→ds.length=1:=gH
theorem sA:∀ds (Q:D→Prop),dN ds Q→jI { nx:=fun _=>Q .non,rt:=Q } (aE ["_law_fan_here","_law_fractions_here","_law_marks_here","_law_gaps","_law_thirds","_law_one","_law_mid","_law_other","_law_halves","_law_i","_law_mark","_law_first"] ds):=by
 rintro ds Q ⟨x,rfl,fs,ms,rfl,hf,h⟩
 have two:=hf.fr.two
 have most:=hf.fr.most
 have rest4:=xx hf h
 simp_arith only [jI,nY,dW,iS,Cn,ma]
 refine⟨by omega,by simp;omega,?_⟩
 refine ia (fun x=>match x with | .int i=>cq (.edge (bg fs i.toNat)) | _=>.non) _ _ (fun x hx N hN=>?_) (by simp [a8,PySem.sizeLine_eq];omega) ?_
 ·obtain⟨i,hi,rfl⟩:∃i:Nat,i < fs.length∧x=.int (i:Int):=by
   unfold a8 at hx
   obtain⟨i,hi,rfl⟩:=Ls.mp hx
   exact⟨i,by simpa using hi,by simp⟩
  simp_arith only [fA,KZ]
  have hm:(i + 1) % fs.length < fs.length:=Nat.mod_lt _ (by omega)
  have e2:((i:Int) + 1).fmod (fs.length:Int)=(((i + 1) % fs.length:Nat):Int):=by
   rw [Int.fmod_eq_emod_of_nonneg _ (by omega),Int.natCast_emod,show (((i + 1:Nat)):Int)=(i:Int) + 1 by omega]
  refine BZ (l9 hi) ⟨by show (fs.length:Int)≠0;omega,?_⟩
  rw [e2]
  refine BZ (l9 hm) ?_
  rw [BI hi]
  exact hN
 ·have eg:[] ++ (a8 0 ((fs.map de).length:Int).toNat).map (fun x=>match x with | .int i=>cq (.edge (bg fs i.toNat)) | _=>.non)=vE fs:=by
   unfold vE a8
   simp
  rw [eg]
  refine⟨fs,rfl,hf.fr,fun ts htl hlen=>?_⟩
  have ok:=uQ htl hf.fr
  refine bX (fun i e=>∃(tk:List (D×D)) (th:ba→Option ba) (k5 k6 k7:Option Lo),e=[some (.d (nY fs ms)),some (.d (.tup (fs.map de))),some (.d (.tup (ms.map ko))),some (.d (.lst (vE fs))),some (.dic tk),k5,k6,k7,none,none,none,none]∧fU tk th∧vO (ts.take i) th∧tk.length≤3 * i) ?_ ?_ ⟨[],_,none,none,none,rfl,fU.nil,by simpa using vO.nil,by simp⟩
  ·rintro i x env N hx ⟨tk,th,k5,k6,k7,rfl,hd,ht,hl⟩ hN
   have hi:i < ts.length:=by have:=(KL.mp hx).1;simpa using this
   obtain⟨t,hti⟩:∃t,ts[i]?=some t:=⟨ts[i],KP hi⟩
   rw [KU,hti] at hx
   cases hx
   have tke:ts.take (i + 1)=ts.take i ++ [t]:=by rw [LJ,hti];rfl
   have nd:(eL (ts.take i ++ [t])).Nodup:=by
    rw [← tke]
    have q:=ok.dif
    rw [← List.take_append_drop (i + 1) ts] at q
    unfold eL at q ⊢
    rw [List.flatMap_append,LN] at q
    exact q.1
   have d1:=hd.put (.edge (t.1,t.2.1)) (.edge (t.2.1,t.2.2))
   have d2:=d1.put (.edge (t.2.1,t.2.2)) (.edge (t.2.2,t.1))
   have d3:=d2.put (.edge (t.2.2,t.1)) (.edge (t.1,t.2.1))
   have l1:=di (kvs:=tk) (k:=cq (.edge (t.1,t.2.1))) (v:=cq (.edge (t.2.1,t.2.2)))
   have l2:=di (kvs:=putN tk (cq (.edge (t.1,t.2.1))) (cq (.edge (t.2.1,t.2.2)))) (k:=cq (.edge (t.2.1,t.2.2))) (v:=cq (.edge (t.2.2,t.1)))
   have l3:=di (kvs:=putN (putN tk (cq (.edge (t.1,t.2.1))) (cq (.edge (t.2.1,t.2.2)))) (cq (.edge (t.2.1,t.2.2))) (cq (.edge (t.2.2,t.1)))) (k:=cq (.edge (t.2.2,t.1))) (v:=cq (.edge (t.1,t.2.1)))
   have sz:=PySem.sizeLine_eq
   have k1:=bq (.edge (t.1,t.2.1))
   have k2:=bq (.edge (t.2.1,t.2.2))
   have k3:=bq (.edge (t.2.2,t.1))
   simp only [cq] at l1 l2 l3
   simp_arith only [Jg,bN,Lo.dic.injEq]
   refine⟨k1.1,k1.2,hd.ok,by omega,k2.1,k2.2,d1.ok,by omega,k3.1,k3.2,d2.ok,by omega,?_⟩
   exact hN _ ⟨_,_,_,_,_,rfl,d3,by rw [tke];exact ht.snoc nd,by omega⟩
  ·rintro env ⟨tk,th,k5,k6,k7,rfl,hd,ht,hl⟩
   rw [KZ,List.take_length] at ht
   rw [KZ] at hl
   exact rest4 ts tk th k5 k6 k7 htl hlen hd ht hl
end K55
namespace K55
open PySem L2 L2.L3
def kept (a:List Nat):List Nat:=(List.range a.length).filter fun i=>decide (a[i]?=some i)
end K55
namespace K55
open PySem L2 L2.L3
def dZ:Fw:=F2 Ha
def dG:bH:=(a7 5 (aC bO (ag 5) (cC (.int 1))))
def kC:bH:=(aG (cv 2 (hV (kc (aK (aC ja (ag 0) (cC (.int 2)))) (aK (aC (uH true) (cC (.str "third")) (ag 2)))) (a7 2 (eY (af (cC (.str "third")) (af (cC (.str "half")) av)))) br)) (bc (aB g8 (af (ag 2) av))))
def dq:bH:=(aG (hV (kc (aK (aC DA (ag 7) (cC (.int 1)))) (pB 3)) (aG (lL 8 3 (aC gz (aC cR (ag 1) (aC bO (ag 5) (cC (.int 22)))) (dE 3))) (aG (qy 2 (ag 6) (ag 8)) (qy 2 (ag 8) (ag 6)))) br) dG)
def jh:bH:=(aG (bF 2 (gY m6 [] (af (ag 0) av) dU (cC (.str "half")))) (aG (bF 3 (sJ (af (ag 0) av))) (aG (a7 4 (aC gr (cC (.int 66)) (aC cQ (cC (.int 3)) (ag 0)))) (aG (a7 5 (cC (.int 0))) (aG (eR (pB 3) (aG (lL 6 3 (cC (.int 0))) (aG (a7 7 (aC gz (aC cR (ag 1) (ag 5)) (cC (.int 4)))) (aG (hV (kc (aK (aC ja (ag 7) (cC (.int 1)))) (aK (aC wm (mD 2 (cC (.str "third"))) (ag 4)))) (qy 2 (ag 6) (cC (.str "third"))) br) dq)))) kC)))))
theorem qE:∀ds Q,dZ ds Q→ds.length=2:=jg
theorem tJ:∀ds (Q:D→Prop),dZ ds Q→jh { nx:=fun _=>Q .non,rt:=Q } (aE ["_law_many","_law_digits_here","_law_marks_here","_law_left","_law_most","_law_k","_law_gap","_law_way","_law_other"] ds):=by
 rintro ds Q ⟨x,y,rfl,n,dm,b,rfl,h2,h22,h44,hd,h⟩
 simp_arith only [jh,eR]
 refine⟨by omega,by omega,?_⟩
 refine ia (fun _=>.str "half") _ _ (fun x hx N hN=>by simp_arith only [fA];exact hN) (by simp [a8,PySem.sizeLine_eq];omega) ?_
 refine⟨by omega,by omega,?_⟩
 have ints_nats:a8 0 (n:Int).toNat=aV (List.range n):=by
  unfold a8 aV
  rw [show (n:Int).toNat=n by omega]
  refine List.map_congr_left fun i _=>?_
  rw [Int.zero_add]
 refine⟨eJ (by decide) (by decide),?_⟩
 refine⟨fun e=>∃(left:List Nat) (ms:List Mk) (k:Nat) (k5 k6 k7:Option Lo),e=[some (.d (.int n)),some (.d y),some (.own (ms.map ko)),some (.own (aV left)),some (.d (.int (66 - 3 * (n:Int)))),some (.d (.int k)),k5,k6,k7]∧gd n left ms∧k + left.length≤n,
  fun e=>match e with | [_,_,_,some (.own l),_,_,_,_,_]=>l.length | _=>0,⟨List.range n,List.replicate n .half,0,none,none,none,?_,?_,by simp⟩,?_⟩
 ·rw [ints_nats]
  have e:[] ++ (aV (List.range n)).map (fun _=>D.str (Str.ofString "half"))=(List.replicate n Mk.half).map ko:=by
   unfold aV
   rw [List.nil_append,List.map_map,List.map_replicate]
   apply List.ext_getElem?
   intro i
   by_cases hi:i < n
   ·rw [KU,Lw hi,Lk,KS hi];rfl
   ·rw [K7 (by simp;omega),K7 (by simp;omega)]
  rw [e];rfl
 ·refine⟨by simp,List.nodup_range,fun i hi=>LD.mp hi,fun i hi=>?_,fun i j hij=>?_⟩
  ·rw [Lk,KS (LD.mp hi)]
  ·rw [Lk] at hij;split at hij <;> cases hij
 rintro env ⟨left,ms,k,k5,k6,k7,rfl,hm,hk⟩
 refine⟨aV left,rfl,by rw [aV,rd];decide,?_⟩
 cases left with
 | nil =>
  rw [KQ (by simp [aV])]
  simp_arith only [kC]
  have fin:∀ms:List Mk,pz n ms→Q (.tup (ms.map ko)):=h
  by_cases e2:(n:Int)=2
  ·rw [KS e2]
   have en:n=2:=by omega
   refine⟨ms.map ko,rfl,by rw [yB];decide,by decide,_,rfl,?_⟩
   rw [KS rfl,zX]
   by_cases ht:Mk.aZ∈ms
   ·rw [decide_eq_true ht]
    simp_arith only [and_true]
    refine fin ms ⟨hm.len,hm.pair,fun _=>⟨ht,fun i j hij=>?_⟩⟩
    obtain⟨h1,h2⟩:=hm.pair i j hij
    have l1:=(KL.mp hij).1
    have l2:=(KL.mp h2).1
    rw [hm.len] at l1 l2
    obtain⟨q,hq,eq⟩:=List.getElem_of_mem ht
    rw [hm.len] at hq
    have hqi:q=i∨q=j:=by omega
    rcases hqi with z | z
    ·subst z;rw [KP (by rw [hm.len];exact hq),eq] at hij;cases hij
    ·subst z;rw [KP (by rw [hm.len];exact hq),eq] at h2;cases h2
   ·rw [decide_eq_false ht]
    simp_arith only [and_true]
    refine fin [.aZ,.half] ⟨by rw [en];rfl,fun i j hij=>?_,fun _=>⟨by simp,fun i j hij=>?_⟩⟩
    ·match i with
     | 0=>cases hij
     | 1=>cases hij
     | i + 2=>cases hij
    ·match i with
     | 0=>cases hij
     | 1=>cases hij
     | i + 2=>cases hij
  ·rw [KQ e2]
   exact fin ms ⟨hm.len,hm.pair,fun z=>absurd (by omega) e2⟩
 | cons g left =>
  rw [KS (by simp [aV])]
  have hg:=hm.lt g K9
  simp only [List.length_cons] at hk
  refine⟨_,rfl,0,.int g,rfl,rfl,by decide,?_⟩
  have eE:(aV (g :: left)).eraseIdx 0=aV left:=rfl
  rw [eE]
  simp_arith only [and_true]
  refine wI hd (by omega) (by omega) fun v v0 v1=>?_
  simp_arith only [and_true]
  refine⟨by (first | exact tT _ (by decide) | exact vm _ _ (by decide) | exact kU _ (by first | decide | omega) | exact eJ (by decide) (by decide) | exact eF (by decide) (by decide) | omega | decide),?_⟩
  have f:=bL (a:=v) (b:=4) (by decide)
  generalize v.fmod 4=w at *
  have hml:(ms.map ko).length=n:=by rw [KZ,hm.len]
  have ixg:∀(l:List D) (j:Nat),l.length=n→j < n→ux l.length (j:Int)=some j:=fun l j hl hj=>by
   unfold ux
   rw [KS (by omega),KS (by omega)];rfl
  have mset:∀(j:Nat) (m:Mk),(ms.map ko).set j (ko m)=(ms.set j m).map ko:=fun j m=>by rw [List.map_set]
  have less:(aV left).length < (aV (g :: left)).length:=by simp [aV]
  by_cases c1:w=1
  ·rw [KS c1]
   subst c1
   simp_arith only [mD]
   refine⟨by rw [yB];decide,by decide,?_⟩
   by_cases cc:(((ms.map ko).countP (fun d=>a5 d (D.str (Str.ofString "third"))):Nat):Int) < 66 - 3 * (n:Int)
   ·rw [KS cc]
    refine⟨_,g,rfl,ixg _ _ hml hg,?_⟩
    simp_arith only [dq,dG]
    exact⟨⟨left,ms.set g .aZ,k + 1,_,_,_,mset g .aZ,rfl,by omega,rfl,rfl,rfl,hm.aZ,by omega⟩,less⟩
   ·rw [KQ cc]
    simp_arith only [dq,dG]
    exact⟨⟨left,ms,k + 1,_,_,_,rfl,rfl,by omega,rfl,rfl,rfl,hm.skip,by omega⟩,less⟩
  ·rw [KQ c1]
   simp_arith only [dq,dG]
   have skip:(∃left_1 ms_1 k_1 k5 k6 k7_1,ms.map ko=List.map ko ms_1∧aV left=aV left_1∧(k:Int) + 1=((k_1:Nat):Int)∧some (Lo.d (D.int g))=k5∧some (Lo.d (D.int w))=k6∧k7=k7_1∧gd n left_1 ms_1∧k_1 + left_1.length≤n)∧(aV left).length < (aV (g :: left)).length :=
    ⟨⟨left,ms,k + 1,_,_,_,rfl,rfl,by omega,rfl,rfl,rfl,hm.skip,by omega⟩,less⟩
   by_cases c2:1 < w
   ·rw [KS c2]
    refine⟨by rw [aV,rd];decide,?_⟩
    by_cases c3:(aV left).isEmpty=false
    ·rw [KS c3]
     have hl0:0 < left.length:=by
      cases left with
      | nil=>cases c3
      | cons _ _=>simp
     refine wI hd (by omega) (by omega) fun u u0 u1=>?_
     have hll:(aV left).length=left.length:=by simp [aV]
     rw [hll]
     simp_arith only [and_true]
     refine⟨by show ((left.length:Nat):Int)≠0;omega,?_⟩
     have f2:=bL (a:=u) (b:=((left.length:Nat):Int)) (by omega)
     obtain⟨a,ea⟩:∃a:Nat,u.fmod ((left.length:Nat):Int)=(a:Int):=⟨_,(LP f2.1).symm⟩
     rw [ea] at f2 ⊢
     have ha:a < left.length:=by omega
     have ho:left[a]?=some left[a]:=KP ha
     have hol:left[a] < n:=hm.lt _ (K4 _ (LI ha))
     refine⟨a,.int left[a],rfl,by unfold aV;rw [KU,ho];rfl,by omega,_,g,rfl,ixg _ _ hml hg,_,left[a],rfl,ixg _ _ (by rw [List.length_set];exact hml) hol,?_⟩
     refine⟨⟨left.eraseIdx a,(ms.set g (.gap left[a])).set left[a] (.gap g),k + 1,_,_,_,?_,?_,by omega,rfl,rfl,rfl,hm.two ho,?_⟩,?_⟩
     ·rw [List.map_set,List.map_set];rfl
     ·unfold aV;rw [An]
     ·rw [List.length_eraseIdx,KS ha];omega
     ·unfold aV;rw [List.length_eraseIdx,KZ,KS ha];simp;omega
    ·rw [KQ c3];exact skip
   ·rw [KQ c2];exact skip
def HE (x:D) (Q:D→Prop):Prop:=∃c:Int,x=.int c∧∀fs ms,ky fs ms→Q (nY fs ms)
def f6:Fw:=F1 HE
def jE:bH:=(aG (a7 2 (aB c5 (af (aC jN (ag 0) (cC (.int 1008))) (af (cC (.int 24)) (af (cC (.int 66)) av))))) (bc (bD (af (aB cg (af (ag 1) (af (BP (ag 2) c8 (fv (cC (.int 22)))) av))) (af (aB dZ (af (ag 1) (af (BP (ag 2) (fv (cC (.int 22))) c8) av))) av)))))
def nA:bH:=(aG (a7 1 (aC bO (cC (.int 2)) (aC gz (ag 0) (cC (.int 6))))) (aG (hV (aK (aC ja (aC gz (aC jN (ag 0) (cC (.int 6))) (cC (.int 8))) (cC (.int 1)))) (a7 1 (aC bO (cC (.int 2)) (aC gz (aC jN (ag 0) (cC (.int 48))) (cC (.int 21))))) br) jE))
theorem v3:∀ds Q,f6 ds Q→ds.length=1:=gH
theorem xn:∀ds (Q:D→Prop),f6 ds Q→nA { nx:=fun _=>Q .non,rt:=Q } (aE ["_law_cell_here","_law_many","_law_digits_here"] ds):=by
 rintro ds Q ⟨x,rfl,c,rfl,h⟩
 simp_arith only [nA]
 repeat (refine And.intro (by (first | exact tT _ (by decide) | exact vm _ _ (by decide) | exact kU _ (by first | decide | omega) | exact eJ (by decide) (by decide) | exact eF (by decide) (by decide) | omega | decide)) ?_)
 have r1:=bL (a:=c) (b:=6) (by decide)
 have r2:=bL (a:=c.fdiv 48) (b:=21) (by decide)
 have go:∀(m:Int) (k:Option Lo),2≤m→m≤22→jE { nx:=fun _=>Q .non,rt:=Q } [some (.d (.int c)),some (.d (.int m)),k]:=fun m k h1 h2=>by
  simp_arith only [jE,c5,cg,dZ,jt,rJ,yO]
  repeat (refine And.intro (by (first | exact tT _ (by decide) | exact vm _ _ (by decide) | exact kU _ (by first | decide | omega) | exact eJ (by decide) (by decide) | exact eF (by decide) (by decide) | omega | decide)) ?_)
  refine⟨_,24,66,rfl,rfl,rfl,by decide,bits_le (n:=100) (by unfold aU;decide) (by decide),by decide,fun d hd=>?_⟩
  obtain⟨xs,rfl,hl,hb⟩:=hd
  have e1:cutD (xs.map D.int) none (some 22)=(xs.take 22).map D.int:=by
   rw [vd];rw [show (22:Int)=((22:Nat):Int) from rfl,HT.oC]
   show (((xs.drop 0).take _).map D.int)=_
   rw [List.drop_zero,hl];rfl
  have e2:cutD (xs.map D.int) (some 22) none=(xs.drop 22).map D.int:=by
   rw [vd];rw [show (22:Int)=((22:Nat):Int) from rfl,HT.oC,hl]
   show (((xs.drop 22).take (66 - 22)).map D.int)=_
   rw [LB (by simp [hl])]
  simp_arith only [e1,e2]
  obtain⟨n,rfl⟩:∃n:Nat,m=n:=⟨m.toNat,by omega⟩
  refine⟨n,24,rfl,by omega,by omega,⟨_,rfl,by simp [hl],fun x hx=>hb x (List.mem_of_mem_take hx)⟩,fun fs hf=>?_⟩
  refine⟨n,44,24,rfl,by omega,by omega,by decide,⟨_,rfl,by simp [hl],fun x hx=>hb x (List.mem_of_mem_drop hx)⟩,fun ms hm=>?_⟩
  have:=hf.len
  subst this
  exact h fs ms ⟨hf,hm⟩
 have g1:=go (2 + (c.fdiv 48).fmod 21) none (by omega) (by omega)
 have g2:=go (2 + c.fmod 6) none (by omega) (by omega)
 split
 ·exact⟨by (first | exact tT _ (by decide) | exact vm _ _ (by decide) | exact kU _ (by first | decide | omega) | exact eJ (by decide) (by decide) | exact eF (by decide) (by decide) | omega | decide),by (first | exact tT _ (by decide) | exact vm _ _ (by decide) | exact kU _ (by first | decide | omega) | exact eJ (by decide) (by decide) | exact eF (by decide) (by decide) | omega | decide),g1⟩
 ·exact g2
end K55
namespace K55
open PySem L2 L2.L3
theorem pI {α:Type} [DecidableEq α]:∀(l m:List α),l.Nodup→(∀x∈l,x∈m)→l.length≤m.length
 | [],m,_,_=>Lp _
 | x :: l,m,nd,h=>by
  rw [LC] at nd
  have hx:=h x K9
  have ih:=pI l (m.erase x) nd.2 fun y hy=>(List.mem_erase_of_ne (a:=y) (b:=x) (fun e=>nd.1 (by rw [← e];exact hy))).mpr (h y (K4 _ hy))
  rw [List.length_erase_of_mem hx] at ih
  have:0 < m.length:=List.length_pos_of_mem hx
  simp only [List.length_cons];omega
structure Sys (ha th:ba→Option ba) (f:ba) (isP:ba→Prop) (all:List ba):Prop where
 f0:isP f
 h1:∀p,isP p→∃q,ha p=some q∧isP q
 t1:∀p,isP p→∃q,th p=some q∧isP q
 hh:∀p q,isP p→ha p=some q→ha q=some p
 t3:∀p,isP p→∃q r,th p=some q∧th q=some r∧th r=some p
 al:∀p,isP p→p∈all
 few:all.length≤500
 re:∀S:ba→Prop,S f→(∀p q,S p→ha p=some q→S q)→(∀p q,S p→th p=some q→S q)→∀p,isP p→S p
structure Met (ha th:ba→Option ba) (f:ba) (isP:ba→Prop) (met:List ba) (at_:Nat):Prop where
 nd:met.Nodup
 inn:∀p∈met,isP p
 f0:f∈met
 le:at_≤met.length
 h1:∀i p q,i < at_→met[i]?=some p→ha p=some q→q∈met
 t1:∀i p q,i < at_→met[i]?=some p→th p=some q→q∈met
section
variable {ha th:ba→Option ba} {f:ba} {isP:ba→Prop} {all met:List ba} {at_:Nat}
theorem Met.start (s:Sys ha th f isP all):Met ha th f isP [f] 0 :=
 ⟨by simp,fun p hp=>by rw [Le] at hp;rw [hp];exact s.f0,by simp,Lp _,fun i p q hi=>absurd hi (LF _),fun i p q hi=>absurd hi (LF _)⟩
theorem Met.add (m:Met ha th f isP met at_) {q:ba} (hq:isP q):Met ha th f isP (if q∈met then met else met ++ [q]) at_:=by
 by_cases c:q∈met
 ·rw [KS c];exact m
 ·rw [KQ c]
  have sub:∀x∈met,x∈met ++ [q]:=fun x hx=>Lf.mpr (.inl hx)
  have old:∀(i:Nat) p,i < at_→(met ++ [q])[i]?=some p→met[i]?=some p:=fun i p hi h=>by
   rw [Lb (by have:=m.le;omega)] at h;exact h
  refine⟨?_,fun p hp=>?_,sub _ m.f0,by have:=m.le;simp;omega,fun i p x hi h1 h2=>sub _ (m.h1 i p x hi (old i p hi h1) h2),fun i p x hi h1 h2=>sub _ (m.t1 i p x hi (old i p hi h1) h2)⟩
  ·rw [LN]
   exact⟨m.nd,by simp,fun a ha' b hb e=>c (by rw [Le] at hb;rw [← hb,← e];exact ha')⟩
  ·rcases Lf.mp hp with z | z
   ·exact m.inn p z
   ·rw [Le] at z;rw [z];exact hq
theorem Met.len (s:Sys ha th f isP all) (m:Met ha th f isP met at_):met.length≤all.length:=by
 exact pI met all m.nd fun p hp=>s.al p (m.inn p hp)
theorem Met.next (m:Met ha th f isP met at_) {p:ba} (hp:met[at_]?=some p) (a:∀q,ha p=some q→q∈met) (b:∀q,th p=some q→q∈met):Met ha th f isP met (at_ + 1):=by
 refine⟨m.nd,m.inn,m.f0,by have:=(KL.mp hp).1;omega,fun i x q hi h1 h2=>?_,fun i x q hi h1 h2=>?_⟩
 ·rcases Lg.mp hi with z | z
  ·exact m.h1 i x q z h1 h2
  ·subst z;rw [hp] at h1;cases h1;exact a q h2
 ·rcases Lg.mp hi with z | z
  ·exact m.t1 i x q z h1 h2
  ·subst z;rw [hp] at h1;cases h1;exact b q h2
theorem Met.full (s:Sys ha th f isP all) (m:Met ha th f isP met met.length):∀p,isP p↔p∈met:=fun p=>by
 refine⟨s.re (·∈met) m.f0 (fun p q hp h=>?_) (fun p q hp h=>?_) p,m.inn p⟩
 ·obtain⟨i,hi⟩:=Ln hp
  exact m.h1 i p q (KL.mp hi).1 hi h
 ·obtain⟨i,hi⟩:=Ln hp
  exact m.t1 i p q (KL.mp hi).1 hi h
end
structure gR (a b:List Nat):Prop where
 len:b.length=a.length
 al:∀(i x:Nat),a[i]?=some x→x < a.length
 bl:∀(i x:Nat),b[i]?=some x→x < a.length
 aa:∀(i x:Nat),a[i]?=some x→a[x]?=some i
 bbb:∀(i x y:Nat),b[i]?=some x→b[x]?=some y→b[y]?=some i
def AQ (fs:List Z2) (ms:List Mk) (ha th:ba→Option ba) (isP:ba→Prop):Prop :=
 (2 < fs.length∧∃ts,eD fs ts∧fj fs ts∧Links fs ms ts ha th∧∀p,isP p↔qB ms ts p) ∨
 (fs.length=2∧(∀i,ms[i]?=some Mk.aZ→th (.gap i)=some (.gap i)∧ha (.gap i)=some (.gap (if ms[1 - i]?=some Mk.aZ then 1 - i else i)))∧∀p,isP p↔∃i,ms[i]?=some Mk.aZ∧p=.gap i)
def tabOf (met:List ba) (g:ba→Option ba):List Nat:=met.map fun p=>met.idxOf ((g p).getD p)
def Cq (fs:List Z2) (ms:List Mk) (a b:List Nat):Prop:=∃ha th met isP,AQ fs ms ha th isP∧a=tabOf met ha∧b=tabOf met th∧met.Nodup∧(∀p,isP p↔p∈met)∧(∀p∈met,∃q,ha p=some q∧q∈met)∧∀p∈met,∃q,th p=some q∧q∈met
def Gj (x:D) (Q:D→Prop):Prop:=∃fs ms,x=nY fs ms∧ky fs ms∧∀a b:List Nat,gR a b→Cq fs ms a b→a.length≤500→b.length≤500→(kept a).length=ms.count .half→(kept b).length=ms.count .aZ→Q (.tup [.tup (aV a),.tup (aV b)])
def dO:Fw:=F1 Gj
theorem rY [DecidableEq Mk] (x:Mk):∀ms:List Mk,((List.range ms.length).filter fun i=>decide (ms[i]?=some x)).length=ms.count x
 | []=>rfl
 | m :: ms=>by
  have ih:=rY x ms
  rw [List.length_cons,List.range_succ_eq_map,List.filter_cons,List.count_cons,← ih,List.filter_map,List.getElem?_cons_zero]
  have e:((fun i=>decide ((m :: ms)[i]?=some x))∘Nat.succ)=fun i=>decide (ms[i]?=some x):=by funext i;rfl
  rw [e]
  by_cases c:m=x
  ·subst c;simp
  ·have c':¬ (m == x)=true:=by simpa using c
   simp [c]
theorem j4 {met:List ba} {ms:List Mk} (x:Mk) (g:Nat→ba) (P:ba→Bool) (nd:met.Nodup) (gi:∀i j,ms[i]?=some x→ms[j]?=some x→g i=g j→i=j) (hP:∀p∈met,P p=true↔∃i,ms[i]?=some x∧p=g i) (hm:∀i,ms[i]?=some x→g i∈met):(met.filter P).length=ms.count x:=by
 rw [← rY]
 have mem:∀i,i∈((List.range ms.length).filter fun i=>decide (ms[i]?=some x))↔ms[i]?=some x:=fun i=>by
  rw [List.mem_filter,LD,decide_eq_true_eq]
  exact⟨fun z=>z.2,fun z=>⟨(KL.mp z).1,z⟩⟩
 refine zD (g:=g) P nd (fun i hi j hj e=>gi i j ((mem i).mp hi) ((mem j).mp hj) e) (List.nodup_range.filter _) (fun p hp=>?_) (fun i hi=>hm i ((mem i).mp hi))
 rw [hP p hp]
 exact⟨fun⟨i,a,b⟩=>⟨i,(mem i).mpr a,b⟩,fun⟨i,a,b⟩=>⟨i,(mem i).mp a,b⟩⟩
theorem x9:∀ts:List fD,(eL ts).length=3 * ts.length
 | []=>rfl
 | t :: ts=>by
  have:=x9 ts
  show (te t ++ eL ts).length=_
  rw [Lh,this]
  unfold te
  simp;omega
theorem Gw {fs:List Z2} {ms:List Mk} {ha th:ba→Option ba} {f:ba} (hf:ky fs ms) (h:oU fs ms ha th f):∃isP all,Sys ha th f isP all∧AQ fs ms ha th isP ∧
  ∀met:List ba,met.Nodup→(∀p,isP p↔p∈met)→(met.filter fun p=>decide (ha p=some p)).length=ms.count .half∧(met.filter fun p=>decide (th p=some p)).length=ms.count .aZ:=by
 have most:=hf.fr.most
 have ml:=hf.mar.len
 rcases h with ⟨hn,ts,ok,htl,hlen,lk,fo⟩ | ⟨c,hl,rfl⟩
 ·refine⟨qB ms ts,(eL ts).map .edge ++ (List.range fs.length).map .gap,⟨Bo hf hn ok lk fo,fun p hp=>?_,fun p hp=>vG lk hp,fun p q hp hq=>?_,fun p hp=>?_,fun p hp=>?_,?_,fun S s0 s1 s2=>reach hf hn ok lk fo s0 s1 s2⟩,.inl ⟨hn,ts,ok,htl,lk,fun _=>Iff.rfl⟩,fun met nd hm=>⟨?_,?_⟩⟩
  ·obtain⟨q,a,b,_⟩:=jH hf hn ok lk hp
   exact⟨q,a,b⟩
  ·obtain⟨q',a,_,c⟩:=jH hf hn ok lk hp
   rw [hq] at a;cases a;exact c
  ·cases p with
   | gap i=>exact⟨_,_,lk.thg i hp,lk.thg i hp,lk.thg i hp⟩
   | edge e =>
    obtain⟨t,ht,he⟩:=mi hp
    have r:=lk.rot t ht
    unfold te at he
    simp only [Ld,Lm,or_false] at he
    rcases he with rfl | rfl | rfl
    ·exact⟨_,_,r.1,r.2.1,r.2.2⟩
    ·exact⟨_,_,r.2.1,r.2.2,r.1⟩
    ·exact⟨_,_,r.2.2,r.1,r.2.1⟩
  ·cases p with
   | edge e=>exact Lf.mpr (.inl (Ls.mpr ⟨e,hp,rfl⟩))
   | gap i=>exact Lf.mpr (.inr (Ls.mpr ⟨i,LD.mpr (dJ hf.mar hp),rfl⟩))
  ·rw [Lh,KZ,KZ,x9,List.length_range];omega
  ·refine j4 .half (fun i=>.edge (bg fs i)) _ nd (fun i j hi hj e=>pL hf.fr (dJ hf.mar hi) (dJ hf.mar hj) (by injection e)) (fun p hp=>?_) (fun i hi=>?_)
   ·rw [decide_eq_true_eq];exact Gg hf hn ok lk ((hm p).mpr hp)
   ·exact (hm _).mp (kX hf.fr hn ok (dJ hf.mar hi))
  ·refine j4 .aZ (fun i=>.gap i) _ nd (fun i j hi hj e=>by injection e) (fun p hp=>?_) (fun i hi=>(hm _).mp hi)
   rw [decide_eq_true_eq];exact E2 ok lk ((hm p).mpr hp)
 ·obtain⟨t3,ngap⟩:=hf.mar.few c
  have lt2:∀i x,ms[i]?=some x→i < 2:=fun i x hi=>by have:=(KL.mp hi).1;omega
  have two:∀i,i < 2→ms[i]?=some Mk.aZ∨ms[i]?=some Mk.half:=fun i hi=>by
   rcases sd hf.mar (i:=i) (by omega) with z | z | ⟨j,_,z⟩
   ·exact .inr z
   ·exact .inl z
   ·exact absurd z (ngap i j)
  have one3:ms[1]?≠some Mk.aZ→ms[0]?=some Mk.aZ:=fun z=>by
   obtain⟨i,hi⟩:=Ln t3
   have:=lt2 i _ hi
   have:i≠1:=fun w=>z (w▸hi)
   have:i=0:=by omega
   exact this▸hi
  refine⟨fun p=>∃i,ms[i]?=some Mk.aZ∧p=.gap i,[.gap 0,.gap 1],⟨?_,?_,?_,?_,?_,?_,by simp,fun S s0 s1 s2=>?_⟩,.inr ⟨c,hl,fun _=>Iff.rfl⟩,fun met nd hm=>⟨?_,?_⟩⟩
  ·by_cases z:ms[1]?=some Mk.aZ
   ·rw [KS z];exact⟨1,z,rfl⟩
   ·rw [KQ z];exact⟨0,one3 z,rfl⟩
  ·rintro p ⟨i,hi,rfl⟩
   refine⟨_,(hl i hi).2,?_⟩
   by_cases z:ms[1 - i]?=some Mk.aZ
   ·rw [KS z];exact⟨1 - i,z,rfl⟩
   ·rw [KQ z];exact⟨i,hi,rfl⟩
  ·rintro p ⟨i,hi,rfl⟩
   exact⟨_,(hl i hi).1,i,hi,rfl⟩
  ·rintro p q ⟨i,hi,rfl⟩ hq
   have l2:=lt2 i _ hi
   rw [(hl i hi).2] at hq
   by_cases z:ms[1 - i]?=some Mk.aZ
   ·rw [KS z] at hq
    cases hq
    rw [(hl _ z).2,show 1 - (1 - i)=i by omega,KS hi]
   ·rw [KQ z] at hq
    cases hq
    rw [(hl i hi).2,KQ z]
  ·rintro p ⟨i,hi,rfl⟩
   exact⟨_,_,(hl i hi).1,(hl i hi).1,(hl i hi).1⟩
  ·rintro p ⟨i,hi,rfl⟩
   have:=lt2 i _ hi
   match i,this with
   | 0,_=>simp
   | 1,_=>simp
  ·rintro p ⟨i,hi,rfl⟩
   by_cases z:ms[1]?=some Mk.aZ
   ·rw [KS z] at s0
    have:=lt2 i _ hi
    match i,this with
    | 1,_=>exact s0
    | 0,_ =>
     have q:=(hl 1 z).2
     rw [KS (show ms[1 - 1]?=some Mk.aZ from hi)] at q
     exact s1 _ _ s0 q
   ·rw [KQ z] at s0
    have:=lt2 i _ hi
    have:i≠1:=fun w=>z (w▸hi)
    have:i=0:=by omega
    subst this;exact s0
  ·refine j4 .half (fun i=>.gap (1 - i)) _ nd (fun i j hi hj e=>by
    have:=lt2 i _ hi
    have:=lt2 j _ hj
    injection e with e
    omega) (fun p hp=>?_) (fun i hi=>?_)
   ·obtain⟨i,hi,rfl⟩:=(hm p).mpr hp
    have l2:=lt2 i _ hi
    rw [decide_eq_true_eq,(hl i hi).2]
    by_cases z:ms[1 - i]?=some Mk.aZ
    ·rw [KS z]
     refine⟨fun w=>?_,fun⟨k,hk,w⟩=>?_⟩
     ·injection w with w;injection w with w;omega
     ·injection w with w
      have:=lt2 k _ hk
      have:k=1 - i:=by omega
      rw [this,z] at hk;cases hk
    ·rw [KQ z]
     refine⟨fun _=>⟨1 - i,?_,by rw [show 1 - (1 - i)=i by omega]⟩,fun _=>rfl⟩
     rcases two (1 - i) (by omega) with w | w
     ·exact absurd w z
     ·exact w
   ·have l2:=lt2 i _ hi
    refine (hm _).mp ⟨1 - i,?_,rfl⟩
    rcases two (1 - i) (by omega) with w | w
    ·exact w
    ·exfalso
     obtain⟨k,hk⟩:=Ln t3
     have:=lt2 k _ hk
     have:k=i∨k=1 - i:=by omega
     rcases this with v | v
     ·rw [v,hi] at hk;cases hk
     ·rw [v,w] at hk;cases hk
  ·refine j4 .aZ (fun i=>.gap i) _ nd (fun i j hi hj e=>by injection e) (fun p hp=>?_) (fun i hi=>(hm _).mp ⟨i,hi,rfl⟩)
   obtain⟨i,hi,rfl⟩:=(hm p).mpr hp
   rw [decide_eq_true_eq]
   exact⟨fun _=>⟨i,hi,rfl⟩,fun _=>(hl i hi).1⟩
theorem GB (met:List ba) (q:ba):((met.map cq).any fun e=>a5 e (cq q))=decide (q∈met):=by
 rw [Bool.eq_iff_iff,List.any_eq_true,decide_eq_true_eq]
 constructor
 ·rintro⟨e,he,h⟩
  obtain⟨p,hp,rfl⟩:=Ls.mp he
  rw [qb,decide_eq_true_eq] at h
  rw [← h];exact hp
 ·intro h
  exact⟨_,Ls.mpr ⟨q,h,rfl⟩,by rw [qb];simp⟩
theorem sS:∀met:List ba,bE (met.map cq)≤8
 | []=>by simp [bE]
 | p :: met=>by
  have:=sS met
  have:=(bq p).2
  simp only [Ll,bE];omega
theorem nD {met:List ba} {q:ba} (h:q∈met):met[met.idxOf q]?=some q:=by
 have hl:=List.idxOf_lt_length_of_mem h
 rw [KP hl,List.getElem_idxOf hl]
theorem AK {met:List ba} (nd:met.Nodup) {i:Nat} {p:ba} (h:met[i]?=some p):met.idxOf p=i:=by
 have hm:=K6 h
 have h2:=nD hm
 exact (List.getElem?_inj (KL.mp h2).1 nd).mp (h2.trans h.symm)
theorem pg {met:List ba} {kvs:List (D×D)} {g:ba→Option ba} (e:fU kvs g) (nd:met.Nodup) (cl:∀p∈met,∃q,g p=some q∧q∈met) (hl:met.length≤500) {Q:List D→Prop} (h:Q (aV (tabOf met g))) :
  comps dU (kF (ag 2) (aC Hn (ag 1) (ag 0))) [none,some (.d (.obj (mr kvs))),some (.d (.lst (met.map cq)))] Q (met.map cq) []:=by
 refine rj (fun x y=>∀p,x=cq p→p∈met→y=.int ((met.idxOf ((g p).getD p):Nat):Int)) _ _ (fun x hx N hN=>?_) (by simp [PySem.sizeLine_eq];omega) (fun ys hy hR=>?_)
 ·obtain⟨p,hp,rfl⟩:=Ls.mp hx
  obtain⟨q,hq,mq⟩:=cl p hp
  have kp:=bq p
  have kq:=(bq q).2
  have dl:=sS met
  have at_:∀k,(((met.map cq)[k]?).map fun d=>a5 d (cq q))=(met[k]?).map fun z=>decide (z=q):=fun k=>by
   rw [KU,Option.map_map]
   congr 1
   funext z
   exact qb z q
  simp_arith only [kF]
  refine⟨by omega,kvs,cq q,rfl,kp.1,kp.2,e.ok,by rw [e.get,hq];rfl,by omega,met.idxOf q,?_,fun k hk=>?_,hN _ fun p' ep mp=>?_⟩
  ·rw [at_,nD mq];simp
  ·have hkl:k < met.length:=Nat.lt_trans hk (List.idxOf_lt_length_of_mem mq)
   rw [at_,KP hkl]
   simp only [Option.map_some,Option.some.injEq,decide_eq_false_iff_not]
   intro z
   have:=(List.getElem?_inj hkl nd).mp (show met[k]?=met[met.idxOf q]? by rw [nD mq,KP hkl,z])
   omega
  ·have:=sV ep
   subst this
   rw [hq];rfl
 ·have:[] ++ ys=aV (tabOf met g):=by
   rw [List.nil_append]
   unfold aV tabOf
   rw [List.map_map]
   apply List.ext_getElem?
   intro i
   rw [KZ] at hy
   rw [KU]
   by_cases c:i < met.length
   ·have h1:ys[i]?=some (ys[i]'(by omega)):=KP _
    have h2:met[i]?=some met[i]:=KP c
    rw [h1,h2]
    have:=hR i (cq met[i]) _ (by rw [KU,h2];rfl) h1 met[i] rfl (LI c)
    rw [this];rfl
   ·rw [K7 (by omega),K7 (by omega)];rfl
  rw [this];exact h
theorem vJ {met:List ba} {g:ba→Option ba} (nd:met.Nodup) (cl:∀p∈met,∃q,g p=some q∧q∈met):(kept (tabOf met g)).length=(met.filter fun p=>decide (g p=some p)).length:=by
 have e:∀i,i < met.length→(decide ((tabOf met g)[i]?=some i))=(decide (g (met.getD i (.gap 0))=some (met.getD i (.gap 0)))):=fun i hi=>by
  have h2:met[i]?=some met[i]:=KP hi
  have h3:met.getD i (.gap 0)=met[i]:=by rw [Lv,h2];rfl
  obtain⟨q,hq,mq⟩:=cl met[i] (LI hi)
  unfold tabOf
  rw [KU,h2,h3,hq,Bool.eq_iff_iff,decide_eq_true_eq,decide_eq_true_eq]
  simp only [Option.map_some,Option.some.injEq,hq,Option.getD_some]
  constructor
  ·intro z
   have:=nD mq
   rw [z,h2] at this
   exact (K3 this).symm
  ·intro z
   have w:=nD mq
   exact ((List.getElem?_inj hi nd).mp (by rw [w,h2,z])).symm
 unfold kept
 have l:(tabOf met g).length=met.length:=by unfold tabOf;rw [KZ]
 have r:met=(List.range met.length).map fun i=>met.getD i (.gap 0):=by
  apply List.ext_getElem?
  intro i
  rw [KU]
  by_cases c:i < met.length
  ·rw [Lw c,KP c]
   simp [Lv,KP c]
  ·rw [K7 (by omega),K7 (by simpa using c)];rfl
 have f:(met.filter fun p=>decide (g p=some p)).length=(((List.range met.length).map fun i=>met.getD i (.gap 0)).filter fun p=>decide (g p=some p)).length:=by rw [← r]
 rw [f,List.filter_map,KZ,l]
 congr 1
 apply List.filter_congr
 intro i hi
 exact e i (LD.mp hi)
theorem jF {met:List ba} {g:ba→Option ba} {i x:Nat} (cl:∀p∈met,∃q,g p=some q∧q∈met) (h:(tabOf met g)[i]?=some x):∃p q,met[i]?=some p∧g p=some q∧met[x]?=some q:=by
 unfold tabOf at h
 rw [KU] at h
 obtain⟨p,hp,e⟩:=Lz.mp h
 obtain⟨q,hq,hm⟩:=cl p (K6 hp)
 rw [hq] at e
 subst e
 exact⟨p,q,hp,hq,nD hm⟩
theorem vP {met:List ba} {g:ba→Option ba} {i x:Nat} {p q:ba} (nd:met.Nodup) (hp:met[i]?=some p) (hg:g p=some q) (hq:met[x]?=some q):(tabOf met g)[i]?=some x:=by
 unfold tabOf
 rw [KU,hp,Option.map_some,hg,Option.getD_some,AK nd hq]
theorem E9 {met:List ba} {ha th:ba→Option ba} (nd:met.Nodup) (c1:∀p∈met,∃q,ha p=some q∧q∈met) (c2:∀p∈met,∃q,th p=some q∧q∈met) (hh:∀p q,p∈met→ha p=some q→ha q=some p)
  (t3:∀p∈met,∃q r,th p=some q∧th q=some r∧th r=some p):gR (tabOf met ha) (tabOf met th):=by
 have l1:(tabOf met ha).length=met.length:=by unfold tabOf;rw [KZ]
 have l2:(tabOf met th).length=met.length:=by unfold tabOf;rw [KZ]
 refine⟨by omega,fun i x h=>?_,fun i x h=>?_,fun i x h=>?_,fun i x y h1 h2=>?_⟩
 ·obtain⟨p,q,_,_,e⟩:=jF c1 h
  rw [l1];exact (KL.mp e).1
 ·obtain⟨p,q,_,_,e⟩:=jF c2 h
  rw [l1];exact (KL.mp e).1
 ·obtain⟨p,q,e1,e2,e3⟩:=jF c1 h
  exact vP nd e3 (hh p q (K6 e1) e2) e1
 ·obtain⟨p,q,e1,e2,e3⟩:=jF c2 h1
  obtain⟨q',r,f1,f2,f3⟩:=jF c2 h2
  rw [e3] at f1;cases f1
  obtain⟨q2,r2,g1,g2,g3⟩:=t3 p (K6 e1)
  rw [e2] at g1;cases g1
  rw [f2] at g2;cases g2
  exact vP nd f3 g3 e1
def iT:bH:=(a7 5 (aC bO (ag 5) (cC (.int 1))))
def km:bH:=(cv 4 (bc (bD (af (aB g8 (af (d5 (iQ [1,4] (ag 4) dU (kF (ag 2) (aC Hn (ag 1) (ag 0))))) av)) (af (aB g8 (af (d5 (iQ [2,4] (ag 4) dU (kF (ag 2) (aC Hn (ag 1) (ag 0))))) av)) av)))))
def jm:bH:=(aG (gT (aB dN (af (ag 0) av)) (fQ 3 (aR (aM 1) (aR (aM 2) (aR (aM 3) fR))))) (aG (bF 4 (kE (af (ag 3) av))) (aG (a7 5 (cC (.int 0))) (aG (eR (aK (aC wm (ag 5) (dE 4))) (aG (kd (eY (af (aC Hn (ag 1) (cF 4 (ag 5))) (af (aC Hn (ag 2) (cF 4 (ag 5))) av))) (aM 6) (hV (xU true 4 (ag 6)) (cP 4 (ag 6)) br)) iT)) km))))
theorem qz:∀ds Q,dO ds Q→ds.length=1:=gH
theorem ud:∀ds (Q:D→Prop),dO ds Q→jm { nx:=fun _=>Q .non,rt:=Q } (aE ["_law_fan_here","_law_halves","_law_thirds","_law_first","_law_met","_law_at","_law_behind"] ds):=by
 rintro ds Q ⟨x,rfl,fs,ms,rfl,hf,h⟩
 simp_arith only [jm,dN,iS,Cm,eR]
 refine⟨fs,ms,rfl,hf,fun hk tk ha th f e1 e2 hr=>?_⟩
 obtain⟨isP,all,sys,src,cnt⟩:=Gw hf hr
 have sz:=PySem.sizeLine_eq
 have few:=sys.few
 refine⟨fun e=>∃(met:List ba) (at_:Nat) (k6:Option Lo),e=[some (.d (nY fs ms)),some (.d (.obj (mr hk))),some (.d (.obj (mr tk))),some (.d (cq f)),some (.own (met.map cq)),some (.d (.int at_)),k6]∧Met ha th f isP met at_,
  fun e=>match e with | [_,_,_,_,_,some (.d (.int j)),_]=>all.length - j.toNat | _=>0,⟨[f],0,none,rfl,Met.start sys⟩,?_⟩
 rintro env ⟨met,at_,k6,rfl,m⟩
 have ml:=m.len sys
 have mle:=m.le
 simp_arith only [KZ]
 by_cases c:at_ < met.length
 ·rw [KS (by omega)]
  obtain⟨p,hp⟩:∃p,met[at_]?=some p:=⟨met[at_],KP c⟩
  have ip:=m.inn p (K6 hp)
  obtain⟨q1,a1,i1⟩:=sys.h1 p ip
  obtain⟨q2,a2,i2⟩:=sys.t1 p ip
  have ai:kn (met.map cq) (at_:Int)=some (cq p):=gL _ _ _ _ hp
  have kp:=bq p
  have g1:i8 hk (cq p)=some (cq q1):=by rw [e1.get,a1];rfl
  have g2:i8 tk (cq p)=some (cq q2):=by rw [e2.get,a2];rfl
  refine⟨_,_,rfl,ai,hk,_,rfl,kp.1,kp.2,e1.ok,g1,_,_,rfl,ai,tk,_,rfl,kp.1,kp.2,e2.ok,g2,?_⟩
  show turns _ _ _ [cq q1,cq q2] _
  refine bX (fun i e=>∃(met':List ba) (k6:Option Lo),e=[some (.d (nY fs ms)),some (.d (.obj (mr hk))),some (.d (.obj (mr tk))),some (.d (cq f)),some (.own (met'.map cq)),some (.d (.int at_)),k6]∧Met ha th f isP met' at_∧met'[at_]?=some p∧(1≤i→q1∈met')∧(2≤i→q2∈met')) ?_ ?_ ⟨met,k6,rfl,m,hp,fun z=>absurd z (by omega),fun z=>absurd z (by omega)⟩
  ·rintro i x env N hx ⟨met',k6,rfl,m',hp',b1,b2⟩ hN
   obtain⟨q,iq,rfl,hq⟩:∃q,isP q∧x=cq q∧((i=0∧q=q1)∨(i=1∧q=q2)):=by
    match i,hx with
    | 0,hx=>cases hx;exact⟨q1,i1,rfl,.inl ⟨rfl,rfl⟩⟩
    | 1,hx=>cases hx;exact⟨q2,i2,rfl,.inr ⟨rfl,rfl⟩⟩
   have ml':=m'.len sys
   have kq:=(bq q).2
   have dl:=sS met'
   have m2:=m'.add iq
   simp_arith only [xU,KZ]
   refine⟨by omega,by omega,?_⟩
   rw [GB]
   by_cases c2:q∈met'
   ·rw [decide_eq_true c2]
    refine hN _ ⟨met',_,rfl,m',hp',fun z=>?_,fun z=>?_⟩
    ·rcases hq with ⟨_,rfl⟩ | ⟨y,_⟩
     ·exact c2
     ·exact b1 (by omega)
    ·rcases hq with ⟨y,_⟩ | ⟨_,rfl⟩
     ·omega
     ·exact c2
   ·rw [decide_eq_false c2]
    rw [KQ c2] at m2
    have sub:∀z∈met',z∈met' ++ [q]:=fun z hz=>Lf.mpr (.inl hz)
    refine⟨by omega,hN _ ⟨met' ++ [q],_,by rw [List.map_append];rfl,m2,?_,fun z=>?_,fun z=>?_⟩⟩
    ·rw [Lb (KL.mp hp').1];exact hp'
    ·rcases hq with ⟨_,rfl⟩ | ⟨y,_⟩
     ·simp
     ·exact sub _ (b1 (by omega))
    ·rcases hq with ⟨y,_⟩ | ⟨_,rfl⟩
     ·omega
     ·simp
  ·rintro env ⟨met',k6,rfl,m',hp',b1,b2⟩
   have c1:=b1 (by simp)
   have c2:=b2 (by simp)
   simp_arith only [iT]
   refine⟨⟨met',at_ + 1,_,rfl,by omega,rfl,m'.next hp' (fun q z=>by rw [a1] at z;cases z;exact c1) (fun q z=>by rw [a2] at z;cases z;exact c2)⟩,by omega⟩
 ·rw [KQ (by omega)]
  have ea:at_=met.length:=by omega
  subst ea
  have full:=m.full sys
  simp_arith only [km,fA]
  have c1:∀p∈met,∃q,ha p=some q∧q∈met:=fun p hp=>by
   obtain⟨q,a,b⟩:=sys.h1 p (m.inn p hp)
   exact⟨q,a,(full q).mp b⟩
  have c2:∀p∈met,∃q,th p=some q∧q∈met:=fun p hp=>by
   obtain⟨q,a,b⟩:=sys.t1 p (m.inn p hp)
   exact⟨q,a,(full q).mp b⟩
  obtain⟨n1,n2⟩:=cnt met m.nd full
  refine pg e1 m.nd c1 (by omega) (pg e2 m.nd c2 (by omega) (h _ _ (E9 m.nd c1 c2 (fun p q hp hq=>sys.hh p q (m.inn p hp) hq) (fun p hp=>sys.t3 p (m.inn p hp))) ⟨ha,th,met,isP,src,rfl,rfl,m.nd,full,c1,c2⟩ (by unfold tabOf;rw [KZ];omega) (by unfold tabOf;rw [KZ];omega) ?_ ?_))
  ·rw [← n1,vJ m.nd c1]
  ·rw [← n2,vJ m.nd c2]
end K55
namespace K55
open PySem L2 L2.L3
structure Ji (n:Nat) (π:Nat→Nat):Prop where
 lt:∀i,i < n→π i < n
 inj:∀i j,i < n→j < n→π i=π j→i=j
def it (π:Nat→Nat):Nat→Nat→Nat
 | 0,x=>x
 | k + 1,x=>π (it π k x)
section
variable {n:Nat} {π:Nat→Nat} (h:Ji n π)
include h
theorem lN {x:Nat} (hx:x < n):∀k,it π k x < n
 | 0=>hx
 | k + 1=>h.lt _ (lN hx k)
theorem Am {x y:Nat} (hx:x < n) (hy:y < n):∀k,it π k x=it π k y→x=y
 | 0,e=>e
 | k + 1,e=>Am hx hy k (h.inj _ _ (lN h hx k) (lN h hy k) e)
omit h in
theorem kK (x:Nat):∀j k,it π (j + k) x=it π j (it π k x)
 | 0,k=>by rw [Nat.zero_add];rfl
 | j + 1,k=>by rw [Nat.add_right_comm];show π (it π (j + k) x)=_;rw [kK x j k];rfl
theorem C1 {x:Nat} (hx:x < n) {i j:Nat} (hij:i < j) (e:it π i x=it π j x):it π (j - i) x=x:=by
 have:it π i (it π (j - i) x)=it π i x:=by rw [← kK,show i + (j - i)=j by omega];exact e.symm
 exact Am h (lN h hx _) hx i this
theorem EY {x:Nat} (hx:x < n):∃k,0 < k∧k≤n∧it π k x=x:=by
 apply Classical.byContradiction
 intro no
 have ne:∀i j,i < j→j≤n→it π i x≠it π j x:=fun i j hij hj e=>no ⟨j - i,by omega,by omega,C1 h hx hij e⟩
 have nd:((List.range (n + 1)).map fun i=>it π i x).Nodup:=by
  rw [List.Nodup,List.pairwise_map]
  refine List.Pairwise.imp_of_mem ?_ (List.pairwise_lt_range (n:=n + 1))
  intro a b _ hb hab
  exact ne a b hab (by have:=LD.mp hb;omega)
 have:=pI _ (List.range n) nd (fun y hy=>by
  obtain⟨i,_,rfl⟩:=Ls.mp hy
  exact LD.mpr (lN h hx i))
 simp at this
 omega
end
structure pN (π:Nat→Nat) (x k:Nat):Prop where
 pos:0 < k
 ret:it π k x=x
 first:∀j,0 < j→j < k→it π j x≠x
theorem AL {P:Nat→Prop}:∀k,P k→∃m,m≤k∧P m∧∀j,j < m→¬ P j:=fun k=>by
 induction k using Nat.strongRecOn with
 | _ k ih =>
  intro hk
  by_cases c:∃j,j < k∧P j
  ·obtain⟨j,h1,h2⟩:=c
   obtain⟨m,h3,h4⟩:=ih j h1 h2
   exact⟨m,by omega,h4⟩
  ·exact⟨k,K0 _,hk,fun j hj hP=>c ⟨j,hj,hP⟩⟩
theorem vn {n:Nat} {π:Nat→Nat} (h:Ji n π) {x:Nat} (hx:x < n):∃k,k≤n∧pN π x k:=by
 obtain⟨k,h1,h2,h3⟩:=EY h hx
 obtain⟨m,h4,⟨h5,h6⟩,h7⟩:=AL (P:=fun k=>0 < k∧it π k x=x) k ⟨h1,h3⟩
 exact⟨m,by omega,h5,h6,fun j hj hm e=>h7 j hm ⟨hj,e⟩⟩
open Classical in
noncomputable def mC (π:Nat→Nat) (x:Nat):Nat:=if h:∃k,pN π x k then Classical.choose h else 0
noncomputable def IM (π:Nat→Nat) (x:Nat):List Nat:=(List.range (mC π x)).map fun k=>it π k x
theorem pN.uniq {π:Nat→Nat} {x j k:Nat} (a:pN π x j) (b:pN π x k):j=k:=by
 rcases Nat.lt_trichotomy j k with h | h | h
 ·exact absurd a.ret (b.first j a.pos h)
 ·exact h
 ·exact absurd b.ret (a.first k b.pos h)
section
variable {n:Nat} {π:Nat→Nat} (h:Ji n π) {x:Nat} (hx:x < n)
include h hx
theorem p3:pN π x (mC π x):=by
 obtain⟨k,_,hk⟩:=vn h hx
 have e:∃k,pN π x k:=⟨k,hk⟩
 unfold mC
 rw [dif_pos e]
 exact Classical.choose_spec e
theorem uh:mC π x≤n:=by
 obtain⟨k,h1,hk⟩:=vn h hx
 rw [(p3 h hx).uniq hk];exact h1
end
open Classical in
def gv (a b:List Nat) (i:Nat):Nat:=b.getD (a.getD i 0) 0
theorem getD_at {l:List Nat} {i:Nat} (h:i < l.length):l[i]?=some (l.getD i 0):=by
 rw [Lv,KP h];rfl
theorem gR.ur {a b:List Nat} (t:gR a b):Ji a.length (gv a b):=by
 have e:=t.len
 refine⟨fun i hi=>?_,fun i j hi hj h=>?_⟩
 ·have h1:=t.al _ _ (getD_at hi)
  exact t.bl _ _ (getD_at (l:=b) (by omega))
 ·have h1:=getD_at hi
  have h2:=getD_at hj
  have l1:=t.al _ _ h1
  have l2:=t.al _ _ h2
  have g1:=getD_at (l:=b) (i:=a.getD i 0) (by omega)
  have g2:=getD_at (l:=b) (i:=a.getD j 0) (by omega)
  unfold gv at h
  rw [h] at g1
  have l3:=t.bl _ _ g2
  have g3:=getD_at (l:=b) (i:=b.getD (a.getD j 0) 0) (by omega)
  have l4:=t.bl _ _ g3
  have q1:=t.bbb _ _ _ g1 g3
  have q2:=t.bbb _ _ _ g2 g3
  rw [q1] at q2
  have ea:a.getD i 0=a.getD j 0:=K3 q2
  rw [ea] at h1
  have r1:=t.aa _ _ h1
  have r2:=t.aa _ _ h2
  rw [r1] at r2
  exact K3 r2
end K55
namespace K55
open PySem L2 L2.L3
def kb (a b:List Nat):D:=.tup [.tup (aV a),.tup (aV b)]
theorem xj {l:List Nat} {i x:Nat} (h:l[i]?=some x) {Q:D→Prop}:cR (.tup (aV l)) (.int (i:Int)) Q=Q (.int (x:Int)):=by
 have hi:i < l.length:=(KL.mp h).1
 have e:kn (aV l) (i:Int)=some (.int (x:Int)):=by
  have e1:ux l.length (i:Int)=some i:=by unfold ux;rw [KS (by omega),KS (by omega)];simp
  unfold kn aV
  rw [KZ,e1]
  simp [h]
 exact propext ⟨fun⟨v,ev,q⟩=>by rw [e] at ev;cases ev;exact q,fun q=>⟨_,e,q⟩⟩
def Hb (t p:D) (Q:D→Prop):Prop:=∃(a b:List Nat) (x:Nat),t=kb a b∧p=.int (x:Int)∧gR a b∧a.length≤500∧x < a.length∧Q (.lst (aV (IM (gv a b) x)))
def c4:Fw:=F2 Hb
def jj:bH:=(aG (eR (aK (aC sT (ag 5) (ag 1))) (aG (cP 4 (ag 5)) (a7 5 (aC cR (ag 3) (aC cR (ag 2) (ag 5)))))) (cv 4 (bc (ag 4))))
def iO:bH:=(aG (gT (ag 0) (fQ 2 (aR (aM 2) (aR (aM 3) fR)))) (aG (bF 4 (kE (af (ag 1) av))) (aG (a7 5 (aC cR (ag 3) (aC cR (ag 2) (ag 1)))) jj)))
theorem o7:∀ds Q,c4 ds Q→ds.length=2:=jg
theorem qL:∀ds (Q:D→Prop),c4 ds Q→iO { nx:=fun _=>Q .non,rt:=Q } (aE ["table","place","halves","thirds","met","behind"] ds):=by
 rintro ds Q ⟨t,p,rfl,a,b,x,rfl,rfl,tab,hl,hx,h⟩
 have e:=tab.len
 have ur:=tab.ur
 have step:∀y,y < a.length→a[y]?=some (a.getD y 0)∧b[a.getD y 0]?=some (gv a b y):=fun y hy=>by
  have h1:=getD_at hy
  have:=tab.al _ _ h1
  exact⟨h1,getD_at (l:=b) (by omega)⟩
 simp_arith only [iO,kb]
 rw [xj (step x hx).1,xj (step x hx).2]
 have pi:=p3 ur hx
 have pl:=uh ur hx
 simp_arith only [jj,eR]
 refine⟨fun en=>∃k,0 < k∧k≤mC (gv a b) x∧en=[some (.d (.tup [.tup (aV a),.tup (aV b)])),some (.d (.int (x:Int))),some (.d (.tup (aV a))),some (.d (.tup (aV b))),some (.own (aV ((List.range k).map fun j=>it (gv a b) j x))),some (.d (.int ((it (gv a b) k x:Nat):Int)))],
  fun en=>match en with | [_,_,_,_,some (.own l),_]=>501 - l.length | _=>0,⟨1,Nat.one_pos,pi.pos,rfl⟩,?_⟩
 rintro env ⟨k,h1,h2,rfl⟩
 have ln:(aV ((List.range k).map fun j=>it (gv a b) j x)).length=k:=by simp [aV]
 simp_arith only [and_true]
 by_cases c:k=mC (gv a b) x
 ·subst c
  rw [pi.ret,KQ (by simp)]
  exact h
 ·have hne:=pi.first k h1 (by omega)
  rw [KS (by omega)]
  have st:=step _ (lN ur hx k)
  rw [ln,xj st.1,xj st.2]
  refine⟨by omega,⟨k + 1,by omega,by omega,?_⟩,?_⟩
  ·rw [List.range_succ,List.map_append]
   unfold aV
   rw [List.map_append]
   exact⟨rfl,rfl⟩
  ·simp only [Lh,ln]
   simp
   omega
end K55
namespace K55
open PySem L2 L2.L3
def lp (a b:List Nat) (p c:Nat):Nat:=if c=115 then a.getD p 0 else if c=114 then b.getD p 0 else b.getD (b.getD p 0) 0
def lw (a b:List Nat) (cs:List Nat) (p:Nat):Nat:=cs.foldl (lp a b) p
theorem m3 (a b u v:List Nat) (p:Nat):lw a b (u ++ v) p=lw a b v (lw a b u p):=List.foldl_append
theorem iF (a b u:List Nat) (c p:Nat):lw a b (u ++ [c]) p=lp a b (lw a b u p) c:=m3 a b u [c] p
section
variable {a b:List Nat} (t:gR a b)
include t
theorem EI {p:Nat} (h:p < a.length):a.getD p 0 < a.length:=t.al _ _ (getD_at h)
theorem lV {p:Nat} (h:p < a.length):b.getD p 0 < a.length:=t.bl _ _ (getD_at (l:=b) (by rw [t.len];exact h))
theorem BF {p:Nat} (h:p < a.length):a.getD (a.getD p 0) 0=p:=by
 have h2:=t.aa _ _ (getD_at h)
 rw [getD_at (EI t h)] at h2
 exact K3 h2
theorem lW {p:Nat} (h:p < a.length):b.getD (b.getD (b.getD p 0) 0) 0=p:=by
 have e:=t.len
 have l1:=lV t h
 have l2:=lV t l1
 have h3:=t.bbb _ _ _ (getD_at (l:=b) (i:=p) (by omega)) (getD_at (l:=b) (by omega))
 rw [getD_at (l:=b) (by omega)] at h3
 exact K3 h3
theorem HK {p:Nat} (h:p < a.length) (c:Nat):lp a b p c < a.length:=by
 unfold lp;split
 ·exact EI t h
 ·split
  ·exact lV t h
  ·exact lV t (lV t h)
theorem lZ {p:Nat} (h:p < a.length) (cs:List Nat):lw a b cs p < a.length:=by
 refine snoc_ind (P:=fun cs=>lw a b cs p < a.length) h (fun r c ih=>?_) cs
 rw [iF];exact HK t ih c
theorem DZ {x c:Nat} {w:List Nat} (h:fz x c=some w) {p:Nat} (hp:p < a.length):lp a b (lp a b p x) c=lw a b w p:=by
 unfold fz at h
 split at h
 ·rename_i z;obtain⟨rfl,rfl⟩:=z;cases h;exact BF t hp
 ·split at h
  ·rename_i z;obtain⟨rfl,rfl⟩:=z;cases h;rfl
  ·split at h
   ·rename_i z;obtain⟨rfl,rfl⟩:=z;cases h
    show b.getD (b.getD (b.getD (b.getD p 0) 0) 0) 0=b.getD p 0
    rw [lW t hp]
   ·split at h
    ·rename_i z;cases h
     rcases z with ⟨rfl,rfl⟩ | ⟨rfl,rfl⟩
     ·exact lW t hp
     ·exact lW t hp
    ·cases h
theorem Dv {ls:List Nat} {c p:Nat} (hp:p < a.length):lw a b (dP ls c) p=lw a b (ls ++ [c]) p:=by
 rcases Lr ls with e | ⟨r,x,e⟩
 ·subst e;rfl
 ·rw [Lq] at e
  subst e
  unfold dP
  rw [LO]
  simp only
  cases q:fz x c with
  | none=>rfl
  | some w =>
   simp only
   rw [List.dropLast_concat,m3,iF,iF]
   exact (DZ t q (lZ t hp r)).symm
theorem vL (cs:List Nat) (h:∀c∈cs,isLet c):∃v,bf v∧Eqv (aw v) (aw cs)∧∀p,p < a.length→lw a b v p=lw a b cs p:=by
 revert h
 refine snoc_ind (P:=fun cs=>(∀c∈cs,isLet c)→∃v,bf v∧Eqv (aw v) (aw cs)∧∀p,p < a.length→lw a b v p=lw a b cs p) (fun _=>⟨[],⟨trivial,fun c hc=>nomatch hc⟩,.refl _,fun _ _=>rfl⟩) (fun r c ih h=>?_) cs
 obtain⟨v,hv,ve,vl⟩:=ih fun x hx=>h x (List.mem_append_left _ hx)
 obtain⟨g1,g2,_⟩:=pw hv (h c (by simp))
 refine⟨dP v c,g1,g2.trans ?_,fun p hp=>?_⟩
 ·rw [dM,dM]
  exact ve.mul (.refl _)
 ·rw [Dv t hp,iF,iF,vl p hp]
theorem yc {u v:List Nat} (hu:∀c∈u,isLet c) (hv:∀c∈v,isLet c) (e:Eqv (aw u) (aw v)) {p:Nat} (hp:p < a.length):lw a b u p=lw a b v p:=by
 obtain⟨u',h1,h2,h3⟩:=vL t u hu
 obtain⟨v',g1,g2,g3⟩:=vL t v hv
 have:u'=v':=rn u' v' h1 g1 (h2.trans (e.trans g2.symm))
 subst this
 rw [← h3 p hp,g3 p hp]
theorem AA {x:Nat} (hx:x < a.length):mC (gv a b) (gv a b x)=mC (gv a b) x:=by
 have ur:=t.ur
 have p:=p3 ur hx
 refine (p3 ur (ur.lt x hx)).uniq ⟨p.pos,?_,fun j h1 h2 e=>p.first j h1 h2 ?_⟩
 ·rw [show it (gv a b) (mC (gv a b) x) (gv a b x)=it (gv a b) (mC (gv a b) x + 1) x from (kK x _ 1).symm,Nat.add_comm,kK,p.ret];rfl
 ·rw [show it (gv a b) j (gv a b x)=it (gv a b) (j + 1) x from (kK x _ 1).symm] at e
  exact ur.inj _ _ (lN ur hx j) hx e
theorem xK {x:Nat} (hx:x < a.length):∀k,mC (gv a b) (it (gv a b) k x)=mC (gv a b) x
 | 0=>rfl
 | k + 1=>by
  show mC (gv a b) (gv a b (it (gv a b) k x))=_
  rw [AA t (lN t.ur hx k),xK hx k]
end
def ig (k:Nat) (w:List Nat):List Nat:=(List.replicate k w).flatten
theorem jV (k:Nat) (w:List Nat):ig (k + 1) w=w ++ ig k w:=by unfold ig;rw [List.replicate_succ,List.flatten_cons]
theorem pP {k:Nat} {w:List Nat} (h:∀c∈w,isLet c):∀c∈ig k w,isLet c:=fun c hc=>by
 unfold ig at hc
 obtain⟨l,h1,h2⟩:=List.mem_flatten.mp hc
 rw [(List.mem_replicate.mp h1).2] at h2
 exact h c h2
theorem fc (u v:List Nat):aw (u ++ v)=(aw u).mul (aw v):=by
 induction u with
 | nil=>show aw v=M4.one.mul (aw v);rw [jd]
 | cons a s ih=>show (aF a).mul (aw (s ++ v))=((aF a).mul (aw s)).mul (aw v);rw [ih,fw]
theorem cj:∀cs:List Nat,(aw cs).det=1
 | []=>by decide
 | c :: r=>by show ((aF c).mul (aw r)).det=1;rw [M4.dD,bM,cj r];rfl
def tp (k:Int):M4:=⟨1,k,0,1⟩
theorem AH (j k:Int):(tp j).mul (tp k)=tp (j + k):=by
 apply rT <;> simp [M4.mul,tp] <;> omega
theorem sE:∀k:Nat,Eqv (aw (ig k [113,115])) (tp k)
 | 0=>.inl (by decide)
 | k + 1=>by
  rw [jV,fc]
  have h:Eqv (aw [113,115]) (tp 1):=by first | exact .inl (by decide) | exact .inr (by decide)
  have:=h.mul (sE k)
  rwa [AH,show (1:Int) + k=((k + 1:Nat):Int) by omega] at this
theorem tZ:∀k:Nat,Eqv (aw (ig k [115,114])) (tp (-k))
 | 0=>.inl (by decide)
 | k + 1=>by
  rw [jV,fc]
  have h:Eqv (aw [115,114]) (tp (-1)):=by first | exact .inl (by decide) | exact .inr (by decide)
  have:=h.mul (tZ k)
  rwa [AH,show (-1:Int) + -k=(-((k + 1:Nat):Int)) by omega] at this
section
variable {a b:List Nat} (t:gR a b)
include t
theorem IK {p:Nat}:∀k,lw a b (ig k [115,114]) p=it (gv a b) k p:=fun k=>by
 induction k generalizing p with
 | zero=>rfl
 | succ k ih =>
  rw [jV,m3,ih,kK p k 1];rfl
theorem DF {p:Nat} (hp:p < a.length):gv a b (lw a b [113,115] p)=p:=by
 show b.getD (a.getD (a.getD (b.getD (b.getD p 0) 0) 0) 0) 0=p
 rw [BF t (lV t (lV t hp)),lW t hp]
theorem Hv {p:Nat} (hp:p < a.length):∀k,it (gv a b) k (lw a b (ig k [113,115]) p)=p:=fun k=>by
 induction k generalizing p with
 | zero=>rfl
 | succ k ih =>
  have hq:=lZ t hp [113,115]
  rw [jV,m3,Nat.add_comm,kK,ih hq]
  exact DF t hp
end
theorem BO {m k:M4} (hm:m.det=1) (hk:k.det=1) (h1:m.a=k.a) (h2:m.c=k.c):∃j:Int,k=m.mul (tp j):=by
 refine⟨m.d * k.b - m.b * k.d,?_⟩
 unfold M4.det at hm hk
 apply rT
 ·simp [M4.mul,tp,h1]
 ·simp only [M4.mul,tp]
  rw [Int.mul_one]
  have e:k.b=(m.a * m.d - m.b * m.c) * k.b:=by rw [hm,Int.one_mul]
  have e2:m.b=m.b * (k.a * k.d - k.b * k.c):=by rw [hk,Int.mul_one]
  rw [← h1,← h2] at e2
  grind
 ·simp [M4.mul,tp,h2]
 ·simp only [M4.mul,tp]
  rw [Int.mul_one]
  have e:k.d=(m.a * m.d - m.b * m.c) * k.d:=by rw [hm,Int.one_mul]
  have e2:m.d=m.d * (k.a * k.d - k.b * k.c):=by rw [hk,Int.mul_one]
  rw [← h1,← h2] at e2
  grind
theorem DH {m k:M4} (hm:m.det=1) (hk:k.det=1) (h:(m.a=k.a∧m.c=k.c)∨(m.a = -k.a∧m.c = -k.c)):∃j:Int,Eqv k (m.mul (tp j)):=by
 rcases h with ⟨h1,h2⟩ | ⟨h1,h2⟩
 ·obtain⟨j,e⟩:=BO hm hk h1 h2
  exact⟨j,.inl e⟩
 ·obtain⟨j,e⟩:=BO hm (k:=k.neg) (by rw [M4.oq];exact hk) h1 h2
  refine⟨j,.inr ?_⟩
  rw [← e,jB]
def ju (m:M4) (w:Int):M4:=⟨1 - m.a * m.c * w,m.a * m.a * w,-(m.c * m.c * w),1 + m.a * m.c * w⟩
theorem x5 {m:M4} (h:m.det=1) (w:Int):(m.mul (tp w)).mul m.con=ju m w:=by
 unfold M4.det at h
 apply rT <;> simp only [M4.mul,tp,M4.con,ju] <;> grind
theorem uR {m k:M4} (h:Eqv m k) (w:Int):ju m w=ju k w:=by
 rcases h with rfl | rfl
 ·rfl
 ·simp [ju,M4.neg,Int.neg_mul_neg]
theorem zG {m k:M4} (h:(m.a=k.a∧m.c=k.c)∨(m.a = -k.a∧m.c = -k.c)) (w:Int):ju m w=ju k w:=by
 unfold ju
 rcases h with ⟨h1,h2⟩ | ⟨h1,h2⟩ <;> rw [h1,h2]
 simp [Int.neg_mul_neg]
theorem Aq {a b u v:List Nat} (t:gR a b) (hu:∀c∈u,isLet c) (hv:∀c∈v,isLet c) {m k:M4} (em:Eqv m (aw u)) (ek:Eqv k (aw v)) (h:(m.a=k.a∧m.c=k.c)∨(m.a = -k.a∧m.c = -k.c)) {p:Nat} (hp:p < a.length) :
  mC (gv a b) (lw a b u p)=mC (gv a b) (lw a b v p):=by
 have dm:m.det=1:=by rcases em with e | e <;> rw [e] <;> first | exact cj u | (rw [M4.oq];exact cj u)
 have dk:k.det=1:=by rcases ek with e | e <;> rw [e] <;> first | exact cj v | (rw [M4.oq];exact cj v)
 obtain⟨j,e⟩:=DH dm dk h
 have e2:Eqv (aw v) ((aw u).mul (tp j)):=ek.symm.trans (e.trans (em.mul (.refl _)))
 have lu:=lZ t hp u
 rcases Int.le_total 0 j with hj | hj
 ·obtain⟨i,rfl⟩:=LM hj
  have:lw a b v p=lw a b (u ++ ig i [113,115]) p:=yc t hv (fun c hc=>(Lf.mp hc).elim (hu c) (pP (by unfold isLet;decide) c)) (e2.trans (by rw [fc];exact (Eqv.refl _).mul (sE i).symm)) hp
  rw [this,m3]
  have h1:=Hv t lu i
  have h2:=xK t (lZ t lu (ig i [113,115])) i
  rw [h1] at h2
  exact h2
 ·obtain⟨i,hi⟩:=LM (show 0≤-j by omega)
  have hj':j = -(i:Int):=by omega
  subst hj'
  have:lw a b v p=lw a b (u ++ ig i [115,114]) p:=yc t hv (fun c hc=>(Lf.mp hc).elim (hu c) (pP (by unfold isLet;decide) c)) (e2.trans (by rw [fc];exact (Eqv.refl _).mul (tZ i).symm)) hp
  rw [this,m3,IK t]
  exact (xK t lu i).symm
def cH (x:Z2):Nat:=if x.1≤0 then 115 else if x.1 < x.2 then 114 else 113
def uq (c:Nat):Nat:=if c=115 then 115 else if c=114 then 113 else 114
inductive jz:List Nat→Z2→Prop where
 | nil:jz [] (1,0)
 | cons {r:List Nat} {x:Z2}:x≠(1,0)→jz r (aO (aF (uq (cH x))) x)→jz (cH x :: r) x
theorem oW (x:Z2):isLet (cH x):=by
 unfold cH isLet;split
 ·exact .inl rfl
 ·split
  ·exact .inr (.inl rfl)
  ·exact .inr (.inr rfl)
theorem jz.lets {u:List Nat} {x:Z2} (h:jz u x):∀c∈u,isLet c:=by
 induction h with
 | nil=>exact fun c hc=>nomatch hc
 | cons _ _ ih=>exact fun c hc=>(Ld.mp hc).elim (fun e=>e▸oW _) (ih c)
theorem jz.step {u:List Nat} {x:Z2} (h:jz u x) (hx:x≠(1,0)):∃r,u=cH x :: r∧jz r (aO (aF (uq (cH x))) x):=by
 cases h with
 | nil=>exact absurd rfl hx
 | cons _ h=>exact⟨_,rfl,h⟩
theorem jz.top {u:List Nat} (h:jz u (1,0)):u=[]:=by
 cases h with
 | nil=>rfl
 | cons h _=>exact absurd rfl h
theorem jM (x:Z2):act (aF 115) x=(-x.2,x.1):=by simp [act,aF]
theorem jL (x:Z2):act (aF 114) x=(-x.2,x.1 - x.2):=by simp [act,aF];omega
theorem jv (x:Z2):act (aF 113) x=(x.1 - x.2,x.1):=by simp [act,aF];omega
theorem EK {x:Z2} (h:Fr x):x=(1,0)∨0 < x.2:=by
 rcases h.2 with z | ⟨z1,z2⟩
 ·exact .inr z
 ·exact .inl (Prod.ext z2 z1)
theorem yu {x:Z2} (h:Fr x) (h0:x.1=0):x=(0,1):=by
 obtain⟨p,q⟩:=x
 simp only at h0
 subst h0
 have h1:=h.1
 have h2:=h.2
 simp only [Int.gcd_zero_left] at h1
 simp only at h2
 have:q=1:=by omega
 rw [this]
theorem Fi {x:Z2} (h:Fr x) (h0:x.1=x.2):x=(1,1):=by
 obtain⟨p,q⟩:=x
 simp only at h0
 subst h0
 have h1:=h.1
 have h2:=h.2
 simp only [Int.gcd_self] at h1
 simp only at h2
 have:p=1:=by omega
 rw [this]
theorem cO {m:M4} {x y:Z2} (e:act m x=y) (h:0 < y.2):aO m x=y:=by
 unfold aO;rw [e];exact fu (by unfold mO;omega)
theorem fq {m:M4} {x y:Z2} (e:act m x=bT y) (h:0 < y.2):aO m x=y:=by
 unfold aO;rw [e,gB (by unfold mO bT;simp only;omega)];exact zd y
theorem tN:jz [115] (0,1):=.cons (x:=(0,1)) (by decide) (by
 have:aO (aF (uq (cH (0,1)))) (0,1)=(1,0):=by decide
 rw [this];exact .nil)
theorem xI:jz [113] (1,1):=.cons (x:=(1,1)) (by decide) (by
 have:aO (aF (uq (cH (1,1)))) (1,1)=(1,0):=by decide
 rw [this];exact .nil)
theorem ez {y x:Z2} {u:List Nat} {c:Nat} (h:jz u x) (hc:cH y=c) (hy:0 < y.2) (e:aO (aF (uq c)) y=x):jz (c :: u) y:=by
 subst hc
 refine .cons (fun z=>by rw [z] at hy;exact absurd hy (by decide)) ?_
 rw [e];exact h
theorem Ef {u:List Nat} {x:Z2} (h:jz u x) (hx:Fr x) {c:Nat} (hc:isLet c):∃v,jz v (aO (aF c) x)∧v.length≤u.length + 1:=by
 rcases EK hx with e | hq
 ·subst e
  rw [h.top]
  rcases hc with z | z | z <;> subst z
  ·exact⟨[115],by rw [show aO (aF 115) (1,0)=(0,1) by decide];exact tN,by decide⟩
  ·exact⟨[115],by rw [show aO (aF 114) (1,0)=(0,1) by decide];exact tN,by decide⟩
  ·exact⟨[113],by rw [show aO (aF 113) (1,0)=(1,1) by decide];exact xI,by decide⟩
 have hne:x≠(1,0):=fun z=>by rw [z] at hq;exact absurd hq (by decide)
 obtain⟨r,eu,hr⟩:=h.step hne
 have lr:u.length=r.length + 1:=by rw [eu];rfl
 by_cases h0:x.1≤0
 ·have el:cH x=115:=KS h0
  rw [el] at hr eu
  rcases hc with z | z | z <;> subst z
  ·exact⟨r,hr,by omega⟩
  ·rcases Int.lt_or_eq_of_le h0 with hn | hn
   ·have e:aO (aF 114) x=(x.2,x.2 - x.1):=fq (by rw [jL];exact Prod.ext (by simp only [bT] <;> omega) (by simp only [bT] <;> omega)) (by simp only;omega)
    rw [e]
    refine⟨114 :: u,ez h ?_ ?_ ?_,by simp⟩
    ·unfold cH;rw [KQ (by simp only;omega),KS (by simp only;omega)]
    ·simp only;omega
    ·show aO (aF 113) _=x
     exact cO (by rw [jv];exact Prod.ext (by simp only;omega) rfl) hq
   ·have:=yu hx hn
    subst this
    exact⟨[113],by rw [show aO (aF 114) (0,1)=(1,1) by decide];exact xI,by simp⟩
  ·rcases Int.lt_or_eq_of_le h0 with hn | hn
   ·have e:aO (aF 113) x=(x.2 - x.1,-x.1):=fq (by rw [jv];exact Prod.ext (by simp only [bT] <;> omega) (by simp only [bT] <;> omega)) (by simp only;omega)
    rw [e]
    refine⟨113 :: u,ez h ?_ ?_ ?_,by simp⟩
    ·unfold cH;rw [KQ (by simp only;omega),KQ (by simp only;omega)]
    ·simp only;omega
    ·show aO (aF 114) _=x
     exact cO (by rw [jL];exact Prod.ext (by simp only;omega) (by simp only;omega)) hq
   ·have:=yu hx hn
    subst this
    exact⟨[],by rw [show aO (aF 113) (0,1)=(1,0) by decide];exact .nil,by simp⟩
 ·have hp:0 < x.1:=by omega
  by_cases h1:x.1 < x.2
  ·have el:cH x=114:=by unfold cH;rw [KQ h0,KS h1]
   rw [el] at hr eu
   have g:aO (aF 113) x=(x.1 - x.2,x.1):=cO (jv x) hp
   rcases hc with z | z | z <;> subst z
   ·have e:aO (aF 115) x=(-x.2,x.1):=cO (jM x) hp
    rw [e]
    refine⟨115 :: u,ez h ?_ ?_ ?_,by simp⟩
    ·unfold cH;rw [KS (by simp only;omega)]
    ·exact hp
    ·show aO (aF 115) _=x
     exact fq (by rw [jM];exact Prod.ext rfl rfl) hq
   ·have e:aO (aF 114) x=(x.2,x.2 - x.1):=fq (by rw [jL];exact Prod.ext (by simp only [bT] <;> omega) (by simp only [bT] <;> omega)) (by simp only;omega)
    rw [e]
    refine⟨113 :: r,ez (x:=(x.1 - x.2,x.1)) (by rw [← g];exact hr) ?_ ?_ ?_,by simp;omega⟩
    ·unfold cH;rw [KQ (by simp only;omega),KQ (by simp only;omega)]
    ·simp only;omega
    ·show aO (aF 114) _=_
     exact cO (by rw [jL];exact Prod.ext (by simp only [bT] <;> omega) (by simp only [bT] <;> omega)) hp
   ·exact⟨r,hr,by omega⟩
  ·have el:cH x=113:=by unfold cH;rw [KQ h0,KQ h1]
   rw [el] at hr eu
   rcases hc with z | z | z <;> subst z
   ·have e:aO (aF 115) x=(-x.2,x.1):=cO (jM x) hp
    rw [e]
    refine⟨115 :: u,ez h ?_ ?_ ?_,by simp⟩
    ·unfold cH;rw [KS (by simp only;omega)]
    ·exact hp
    ·show aO (aF 115) _=x
     exact fq (by rw [jM];exact Prod.ext rfl rfl) hq
   ·exact⟨r,hr,by omega⟩
   ·by_cases h2:x.1=x.2
    ·have:=Fi hx h2
     subst this
     exact⟨[115],by rw [show aO (aF 113) (1,1)=(0,1) by decide];exact tN,by simp⟩
    ·have g:aO (aF 114) x=(-x.2,x.1 - x.2):=cO (jL x) (by simp only;omega)
     refine⟨114 :: r,ez (y:=aO (aF 113) x) (x:=(-x.2,x.1 - x.2)) (by rw [← g];exact hr) ?_ ?_ ?_,by simp;omega⟩
     all_goals rw [cO (y:=(x.1 - x.2,x.1)) (jv x) hp]
     ·unfold cH;rw [KQ (by simp only;omega),KS (by simp only;omega)]
     ·exact hp
     ·show aO (aF 113) _=_
      exact cO (by rw [jv];exact Prod.ext (by simp only [bT] <;> omega) (by simp only [bT] <;> omega)) (by simp only;omega)
theorem Ag:Fr (1,0):=⟨by decide,.inr ⟨rfl,rfl⟩⟩
theorem vD:∀(w:List Nat),(∀c∈w,isLet c)→∃v,jz v (aO (aw w) (1,0))∧v.length≤w.length
 | [],_=>⟨[],by rw [show aO (aw []) (1,0)=(1,0) by decide];exact .nil,K0 _⟩
 | c :: r,h=>by
  obtain⟨v,hv,hl⟩:=vD r fun x hx=>h x (K4 _ hx)
  obtain⟨v',h1,h2⟩:=Ef hv (iJ (cj r) Ag) (h c K9)
  refine⟨v',?_,by simp;omega⟩
  rw [jZ (bM c) (cj r) (by decide)] at h1
  exact h1
theorem BC {c:Nat} (hc:isLet c) {x:Z2} (hx:Fr x):aO (aF c) (aO (aF (uq c)) x)=x:=by
 rw [jZ (bM _) (bM _) (yk hx)]
 have:act ((aF c).mul (aF (uq c))) x=x∨act ((aF c).mul (aF (uq c))) x=bT x:=by
  rcases hc with z | z | z <;> subst z
  ·right;rw [oI];show act (aF 115) (act (aF 115) x)=_;rw [jM,jM];rfl
  ·right;rw [oI];show act (aF 114) (act (aF 113) x)=_;rw [jv,jL];exact Prod.ext (by simp only [bT] <;> omega) (by simp only [bT] <;> omega)
  ·right;rw [oI];show act (aF 113) (act (aF 114) x)=_;rw [jL,jv];exact Prod.ext (by simp only [bT] <;> omega) (by simp only [bT] <;> omega)
 unfold aO
 rw [AD (yk hx) this]
 exact GP hx
theorem jz.Es {u:List Nat} {x:Z2} (h:jz u x):Fr x→aO (aw u) (1,0)=x:=by
 induction h with
 | nil=>exact fun _=>by decide
 | cons _ _ ih =>
  intro hx
  have:=ih (iJ (bM _) hx)
  show aO ((aF _).mul (aw _)) (1,0)=_
  rw [← jZ (bM _) (cj _) (by decide),this]
  exact BC (oW _) hx
end K55
namespace K55
open PySem L2 L2.L3
def IZ (x:D) (Q:D→Prop):Prop:=∃c:Nat,x=.str (iH c)∧isLet c∧Q (aF c).toD
def aY:Fw:=F1 IZ
def eV:bH:=(aG (hV (aK (aC ja (ag 0) (cC (.str "s")))) (bc (cC (.tup [.int 0,.int (-1),.int 1,.int 0]))) br) (aG (hV (aK (aC ja (ag 0) (cC (.str "r")))) (bc (cC (.tup [.int 0,.int (-1),.int 1,.int (-1)]))) br) (bc (aB bJ (af (cC (.tup [.int 0,.int (-1),.int 1,.int (-1)])) av)))))
theorem lh:∀ds Q,aY ds Q→ds.length=1:=gH
theorem lH:∀ds (Q:D→Prop),aY ds Q→eV { nx:=fun _=>Q .non,rt:=Q } (aE ["letter"] ds):=by
 rintro ds Q ⟨x,rfl,c,rfl,hc,h⟩
 simp_arith! only [eV,bJ,iS]
 rcases hc with z | z | z <;> subst z
 ·rw [KS (by rfl)];exact h
 ·rw [KQ (by decide),KS (by rfl)];exact h
 ·rw [KQ (by decide),KQ (by decide)]
  exact⟨aF 114,1,rfl,pf _,by decide,bM _,h⟩
def cX:Fw:=F1 Fn
def iw:bH:=(aG (a7 1 (cC (.tup [.int 1,.int 0,.int 0,.int 1]))) (aG (kd (ag 0) (aM 2) (a7 1 (aB fg (af (ag 1) (af (aB aY (af (ag 2) av)) av))))) (bc (ag 1))))
theorem pO:∀ds Q,cX ds Q→ds.length=1:=gH
theorem qt:∀ds (Q:D→Prop),cX ds Q→iw { nx:=fun _=>Q .non,rt:=Q } (aE ["word","one","letter"] ds):=by
 rintro ds Q ⟨x,rfl,z,rfl,hz,hl,h⟩
 simp_arith! only [iw,cM]
 refine bX (fun i e=>∃k,e=[some (.d (.str z)),some (.d (gQ (z.cps.toList.take i)).toD),k]) ?_ ?_ ⟨_,rfl⟩
 ·rintro i x env N hx ⟨k,rfl⟩ hN
  unfold cT at hx
  rw [KU] at hx
  cases hc:z.cps.toList[i]? with
  | none=>rw [hc] at hx;cases hx
  | some c =>
   rw [hc] at hx
   cases hx
   have hcl:=hz c (K6 hc)
   have hi:=(KL.mp hc).1
   have hzl:z.length=z.cps.toList.length:=by simp [Str.length]
   simp_arith! only [aY,fg,iS,jt]
   refine⟨c,rfl,hcl,gQ (z.cps.toList.take i),aF c,_,_,rfl,rfl,yG _,pf c,?_,(yM _).1,bM c,hN _ ⟨some (.d (.str ⟨#[c]⟩)),?_⟩⟩
   ·rw [List.length_take];omega
   ·rw [LJ,hc]
    simp only [Option.toList]
    rw [iN]
 ·rintro env ⟨k,rfl⟩
  simp_arith! only [and_true]
  rw [LB (by simp [cT])]
  exact h
def Kt (t p l:D) (Q:D→Prop):Prop:=∃(a b:List Nat) (x c:Nat),t=kb a b∧p=.int (x:Int)∧l=.str (iH c)∧gR a b∧x < a.length∧isLet c∧Q (.int ((lp a b x c:Nat):Int))
def cB:Fw:=F3 Kt
theorem at_of {a b:List Nat} (t:gR a b) {x:Nat} (h:x < a.length):a[x]?=some (a.getD x 0)∧b[x]?=some (b.getD x 0):=⟨getD_at h,getD_at (l:=b) (by rw [t.len];exact h)⟩
def gh:bH:=(aG (gT (ag 0) (fQ 2 (aR (aM 3) (aR (aM 4) fR)))) (aG (hV (aK (aC ja (ag 2) (cC (.str "s")))) (bc (aC cR (ag 3) (ag 1))) br) (aG (a7 5 (aC cR (ag 4) (ag 1))) (aG (hV (kc (aK (aC ja (ag 2) (cC (.str "q")))) (aK (aC (gD true) (ag 5) (cC .non)))) (bc (aC cR (ag 4) (ag 5))) br) (bc (ag 5))))))
theorem mY:∀ds Q,cB ds Q→ds.length=3:=qV
theorem n8:∀ds (Q:D→Prop),cB ds Q→gh { nx:=fun _=>Q .non,rt:=Q } (aE ["table","place","letter","halves","thirds","behind"] ds):=by
 rintro ds Q ⟨t,p,l,rfl,a,b,x,c,rfl,rfl,rfl,tab,hx,hc,h⟩
 have hb:=lV tab hx
 simp_arith only [gh,kb,gD,lO]
 rw [xj (at_of tab hx).1,xj (at_of tab hx).2]
 rcases hc with z | z | z <;> subst z
 ·rw [KS (by rfl)];exact h
 ·rw [KQ (by decide),KQ (by decide)];exact h
 ·rw [KQ (by decide),KS (by rfl),xj (at_of tab hb).2]
  exact h
def Km (t w p:D) (Q:D→Prop):Prop:=∃(a b:List Nat) (z:Str) (x:Nat),t=kb a b∧w=.str z∧p=.int (x:Int)∧gR a b∧x < a.length∧LW z∧z.length≤100000∧Q (.int ((lw a b z.cps.toList x:Nat):Int))
def cJ:Fw:=F3 Km
def gX:bH:=(aG (a7 3 (ag 2)) (aG (kd (ag 1) (aM 4) (aG (hV (aK (aC (gD false) (ag 3) (cC .non))) (bc (cC .non)) br) (a7 3 (aB cB (af (ag 0) (af (ag 3) (af (ag 4) av))))))) (bc (ag 3))))
theorem nV:∀ds Q,cJ ds Q→ds.length=3:=qV
theorem pW:∀ds (Q:D→Prop),cJ ds Q→gX { nx:=fun _=>Q .non,rt:=Q } (aE ["table","word","first","place","letter"] ds):=by
 rintro ds Q ⟨t,w,p,rfl,a,b,z,x,rfl,rfl,rfl,tab,hx,hz,hl,h⟩
 simp_arith only [gX,cM]
 refine bX (fun i e=>∃k,e=[some (.d (kb a b)),some (.d (.str z)),some (.d (.int (x:Int))),some (.d (.int ((lw a b (z.cps.toList.take i) x:Nat):Int))),k]) ?_ ?_ ⟨_,rfl⟩
 ·rintro i x' env N hx' ⟨k,rfl⟩ hN
  unfold cT at hx'
  rw [KU] at hx'
  cases hc:z.cps.toList[i]? with
  | none=>rw [hc] at hx';cases hx'
  | some c =>
   rw [hc] at hx'
   cases hx'
   have hcl:=hz c (K6 hc)
   simp_arith only [cB,rJ,gD,lO]
   refine⟨a,b,_,c,rfl,rfl,rfl,tab,lZ tab hx _,hcl,hN _ ⟨some (.d (.str ⟨#[c]⟩)),?_⟩⟩
   rw [LJ,hc]
   simp only [Option.toList]
   rw [iF]
 ·rintro env ⟨k,rfl⟩
  simp_arith only [and_true]
  rw [LB (by simp [cT])]
  exact h
def J9 (x:D) (Q:D→Prop):Prop:=∃p:Z2,x=de p∧Q (.str (iH (cH p)))
def bV:Fw:=F1 J9
def e8:bH:=(aG (gT (ag 0) (fQ 2 (aR (aM 1) (aR (aM 2) fR)))) (aG (hV (aK (aC Kp (ag 1) (cC (.int 0)))) (bc (cC (.str "s"))) br) (bc (ED (aK (aC wm (ag 1) (ag 2))) (cC (.str "r")) (cC (.str "q"))))))
theorem kJ:∀ds Q,bV ds Q→ds.length=1:=gH
theorem lP:∀ds (Q:D→Prop),bV ds Q→e8 { nx:=fun _=>Q .non,rt:=Q } (aE ["fraction","p","q"] ds):=by
 rintro ds Q ⟨x,rfl,p,rfl,h⟩
 simp_arith only [e8,de]
 unfold cH at h
 by_cases c1:p.1≤0
 ·rw [KS c1] at h ⊢;exact h
 ·rw [KQ c1] at h ⊢
  by_cases c2:p.1 < p.2
  ·rw [KS c2] at h ⊢;exact h
  ·rw [KQ c2] at h ⊢;exact h
theorem uS {c:Nat} (hc:isLet c) {x:Z2} (hx:Fr x):aO (aF c).con.up x=aO (aF (uq c)) x:=by
 rw [CF (oD (bM c)) (yk hx)]
 have e:(aF c).con=(aF (uq c)).neg:=by rcases hc with z | z | z <;> subst z <;> decide
 unfold aO
 rw [e,tR]
 exact oy (pZ (bM _) (yk hx))
theorem HF {x:Z2} {n:Nat} (hx:Fr x) (hne:x≠(1,0)) (h:B2 n x):B2 n (aO (aF (uq (cH x))) x):=by
 have hq:0 < x.2:=(EK hx).resolve_left hne
 obtain⟨h1,h2⟩:=h
 unfold aU at h1 h2
 refine EH ?_
 unfold cH
 by_cases c1:x.1≤0
 ·rw [KS c1,show uq 115=115 from rfl,jM]
  exact⟨by unfold aU;simp only;omega,h1⟩
 ·rw [KQ c1]
  by_cases c2:x.1 < x.2
  ·rw [KS c2,show uq 114=113 from rfl,jv]
   exact⟨by unfold aU;simp only;omega,h1⟩
  ·rw [KQ c2,show uq 113=114 from rfl,jL]
   exact⟨by unfold aU;simp only;omega,by unfold aU;simp only;omega⟩
theorem EV {m k:M4} (h:m.det=1) (e:Eqv k m):k.up=m.up:=Iv h e
theorem Cd {m:M4} (h:m.det=1) (w:Int):(ju m w).det=1:=by
 rw [← x5 h,M4.dD,M4.dD,h,oD h]
 simp [M4.det,tp]
theorem yn {m:M4} (h:m.det=1) (w:Int):((m.mul (tp w)).up.mul m.con.up).up=(ju m w).up:=by
 refine EV (Cd h w) ?_
 rw [← x5 h]
 exact (Eqv.up _).mul (Eqv.up _)
theorem DG {w:Nat} (h:w≤500):(tp w).B 10:=⟨show aU 10 1 by unfold aU;decide,by unfold aU tp;simp only;omega,show aU 10 0 by unfold aU;decide,show aU 10 1 by unfold aU;decide⟩
theorem sR (w:Int):(tp w).det=1:=by simp [M4.det,tp]
theorem DI (π:Nat→Nat) (x:Nat):(IM π x).length=mC π x:=by simp [IM]
def f7:Fw:=F3 Km
def mM:bH:=(aG (kd (ag 1) (aM 3) (hV (aK (aC ja (ag 3) (cC (.str "s")))) (a7 2 (aC cR (aC cR (ag 0) (cC (.int 0))) (ag 2))) (hV (aK (aC ja (ag 3) (cC (.str "r")))) (a7 2 (aC cR (aC cR (ag 0) (cC (.int 1))) (ag 2))) (a7 2 (aC cR (aC cR (ag 0) (cC (.int 1))) (aC cR (aC cR (ag 0) (cC (.int 1))) (ag 2))))))) (bc (ag 2)))
theorem uE:∀ds Q,f7 ds Q→ds.length=3:=qV
theorem xf:∀ds (Q:D→Prop),f7 ds Q→mM { nx:=fun _=>Q .non,rt:=Q } (aE ["_law_table_here","_law_word","_law_place","_law_letter"] ds):=by
 rintro ds Q ⟨t,w,p,rfl,a,b,z,x,rfl,rfl,rfl,tab,hx,hz,hl,h⟩
 simp_arith only [mM,cM]
 refine bX (fun i e=>∃k,e=[some (.d (kb a b)),some (.d (.str z)),some (.d (.int ((lw a b (z.cps.toList.take i) x:Nat):Int))),k]) ?_ ?_ ⟨_,rfl⟩
 ·rintro i x' env N hx' ⟨k,rfl⟩ hN
  unfold cT at hx'
  rw [KU] at hx'
  cases hc:z.cps.toList[i]? with
  | none=>rw [hc] at hx';cases hx'
  | some c =>
   rw [hc] at hx'
   cases hx'
   have hcl:=hz c (K6 hc)
   have hi:=lZ tab hx (z.cps.toList.take i)
   have hb:=lV tab hi
   have fin:N [some (.d (kb a b)),some (.d (.str z)),some (.d (.int ((lp a b (lw a b (z.cps.toList.take i) x) c:Nat):Int))),some (.d (.str ⟨#[c]⟩))]:=by
    refine hN _ ⟨some (.d (.str ⟨#[c]⟩)),?_⟩
    rw [LJ,hc]
    simp only [Option.toList]
    rw [iF]
   simp_arith only [kb,zp,zj]
   rcases hcl with w | w | w <;> subst w
   ·rw [KS (by rfl),xj (at_of tab hi).1];exact fin
   ·rw [KQ (by decide),KS (by rfl),xj (at_of tab hi).2];exact fin
   ·rw [KQ (by decide),KQ (by decide),xj (at_of tab hi).2,xj (at_of tab hb).2];exact fin
 ·rintro env ⟨k,rfl⟩
  simp_arith only [and_true]
  rw [LB (by simp [cT])]
  exact h
theorem rM (a:Array Nat):∀(k:Nat) (acc:Array Nat),((List.replicate k a).foldl (· ++ ·) acc).toList=acc.toList ++ (List.replicate k a.toList).flatten
 | 0,acc=>by simp
 | k + 1,acc=>by
  rw [List.replicate_succ,List.foldl_cons,rM a k,List.replicate_succ,List.flatten_cons]
  simp
theorem u5 (n:Int) (x:Str):(pq n x).cps.toList=ig n.toNat x.cps.toList:=by
 unfold pq ig
 split
 ·rename_i h
  rw [show n.toNat=0 by omega];rfl
 ·split
  ·rename_i h1 h2
   rw [Bool.or_eq_true] at h2
   rcases h2 with z | z
   ·have:n=1:=beq_iff_eq.mp z
    subst this;simp
   ·have z':x.length=0:=beq_iff_eq.mp z
    have:x.cps.toList=[]:=List.eq_nil_of_length_eq_zero (by simpa [Str.length] using z')
    rw [this];simp
  ·show ((List.replicate n.toNat x.cps).foldl (· ++ ·) #[]).toList=_
   rw [rM];simp
theorem vY (k:Nat) (w:List Nat):(ig k w).length=k * w.length:=by
 unfold ig;simp
theorem xD (z:Str):z.length=z.cps.toList.length:=by simp [Str.length]
theorem lB (a b:Str):(a ++ b).cps.toList=a.cps.toList ++ b.cps.toList:=by show (a.cps ++ b.cps).toList=_;simp
theorem A0 {k:M4} {p:Z2} (h:aO k (1,0)=p):(p.1=k.a∧p.2=k.c)∨(p.1 = -k.a∧p.2 = -k.c):=by
 unfold aO at h
 rw [Aj] at h
 rcases fW (k.a,k.c) with e | e
 ·rw [e] at h;rw [← h];exact .inl ⟨rfl,rfl⟩
 ·rw [e] at h;rw [← h];exact .inr ⟨rfl,rfl⟩
theorem qU {m k:M4} (e:Eqv m k) (hk:k.det=1) {x:Z2} (hx:¬ (x.1=0∧x.2=0)):aO m x=aO k x:=by
 rcases e with rfl | rfl
 ·rfl
 ·unfold aO;rw [tR];exact oy (pZ hk hx)
end K55
namespace K55
open PySem L2 L2.L3
theorem IF {u:List Nat} {x:Z2} (h:jz u x) (hq:0 < x.2) (hp:0 < x.1):jz (115 :: u) (-x.2,x.1):=by
 refine ez h ?_ hp ?_
 ·unfold cH;rw [KS (by simp only;omega)]
 ·show aO (aF 115) _=x
  exact fq (by rw [jM];exact Prod.ext rfl rfl) hq
theorem HQ {u:List Nat} {x:Z2} (h:jz u x) (hq:0 < x.2) (hn:x.1 < 0):jz (114 :: u) (x.2,x.2 - x.1):=by
 refine ez h ?_ ?_ ?_
 ·unfold cH;rw [KQ (by simp only;omega),KS (by simp only;omega)]
 ·simp only;omega
 ·show aO (aF 113) _=x
  exact cO (by rw [jv];exact Prod.ext (by simp only;omega) rfl) hq
theorem IH {u:List Nat} {x:Z2} (h:jz u x) (hq:0 < x.2) (hn:x.1 < 0):jz (113 :: u) (x.2 - x.1,-x.1):=by
 refine ez h ?_ ?_ ?_
 ·unfold cH;rw [KQ (by simp only;omega),KQ (by simp only;omega)]
 ·simp only;omega
 ·show aO (aF 114) _=x
  exact cO (by rw [jL];exact Prod.ext (by simp only;omega) (by simp only;omega)) hq
theorem JQ {x:Z2} (h:Fr x) (hp:0 < x.1):Fr (-x.2,x.1):=by
 have e:aO (aF 115) x=(-x.2,x.1):=cO (jM x) hp
 rw [← e];exact iJ (bM _) h
theorem Jr {x:Z2} (h:Fr x) (hq:0 < x.2) (hn:x.1 < 0):Fr (x.2,x.2 - x.1):=by
 have e:aO (aF 114) x=(x.2,x.2 - x.1):=fq (by rw [jL];exact Prod.ext (by simp only [bT] <;> omega) (by simp only [bT] <;> omega)) (by simp only;omega)
 rw [← e];exact iJ (bM _) h
theorem JT {x:Z2} (h:Fr x) (hq:0 < x.2) (hn:x.1 < 0):Fr (x.2 - x.1,-x.1):=by
 have e:aO (aF 113) x=(x.2 - x.1,-x.1):=fq (by rw [jv];exact Prod.ext (by simp only [bT] <;> omega) (by simp only [bT] <;> omega)) (by simp only;omega)
 rw [← e];exact iJ (bM _) h
theorem yy:∀(v:List Nat),bf v→v.getLast?=some 113→∃x:Z2,jz v x∧Fr x∧0 < x.2∧(v.head?=some 115→x.1 < 0)∧(v.head?≠some 115→0 < x.1)
 | [],_,h=>nomatch h
 | [c],_,h=>by
  simp at h
  subst h
  exact⟨(1,1),xI,⟨by decide,Or.inl (by decide)⟩,by decide,fun h=>by simp at h,fun _=>by decide⟩
 | c :: d :: r,hs,h=>by
  have hs':bf (d :: r):=⟨hs.1.2,fun z hz=>hs.2 z (K4 _ hz)⟩
  obtain⟨x,hx,hf,hq,h1,h2⟩:=yy (d :: r) hs' (by rwa [List.getLast?_cons_cons] at h)
  simp only [List.head?_cons,Option.some.injEq,ne_eq] at h1 h2
  have hcd:=hs.1.1
  rcases hs.2 c K9 with z | z | z <;> subst z
  ·have hp:=h2 (hcd.mp rfl)
   exact⟨_,IF hx hq hp,JQ hf hp,hp,fun _=>by simp only;omega,fun g=>absurd rfl g⟩
  ·have hn:=h1 (by by_cases g:d=115;exact g;exact absurd (hcd.mpr g) (by decide))
   exact⟨_,HQ hx hq hn,Jr hf hq hn,by simp only;omega,fun g=>by simp at g,fun _=>hq⟩
  ·have hn:=h1 (by by_cases g:d=115;exact g;exact absurd (hcd.mpr g) (by decide))
   exact⟨_,IH hx hq hn,JT hf hq hn,by simp only;omega,fun g=>by simp at g,fun _=>by simp only;omega⟩
def yt (v:List Nat):Prop:=bf v∧(v=[]∨v=[115]∨v.getLast?=some 113)
theorem yU:∀{u v:List Nat} {x:Z2},jz u x→jz v x→u=v
 | [],v,x,h,g=>by
  cases h
  exact g.top.symm
 | c :: u,v,x,h,g=>by
  cases h with
  | cons hx h' =>
   obtain⟨r,rfl,hr⟩:=g.step hx
   rw [yU h' hr]
theorem Bm {v:List Nat} (h:yt v):jz v (aO (aw v) (1,0)):=by
 rcases h.2 with e | e | e
 ·subst e
  rw [show aO (aw []) (1,0)=(1,0) by decide];exact .nil
 ·subst e
  rw [show aO (aw [115]) (1,0)=(0,1) by decide];exact tN
 ·obtain⟨x,hx,hf,_⟩:=yy v h.1 e
  rw [hx.Es hf];exact hx
theorem oM (u v:List Nat):aO (aw (u ++ v)) (1,0)=aO (aw u) (aO (aw v) (1,0)):=by
 rw [fc,jZ (cj u) (cj v) (by decide)]
theorem EZ (u:List Nat):aO (aw (u ++ [113,115])) (1,0)=aO (aw u) (1,0):=by
 rw [oM,show aO (aw [113,115]) (1,0)=(1,0) by decide]
theorem FP (u:List Nat):aO (aw (u ++ [115,114])) (1,0)=aO (aw u) (1,0):=by
 rw [oM,show aO (aw [115,114]) (1,0)=(1,0) by decide]
theorem FY (u:List Nat):aO (aw (u ++ [114,115])) (1,0)=aO (aw (u ++ [113])) (1,0):=by
 rw [oM,oM,show aO (aw [114,115]) (1,0)=(1,1) by decide,show aO (aw [113]) (1,0)=(1,1) by decide]
theorem rC:∀(u v:List Nat),pb (u ++ v)→pb u
 | [],_,_=>trivial
 | [_],_,_=>trivial
 | a :: b :: r,v,h=>⟨h.1,rC (b :: r) v h.2⟩
theorem vB:∀(u:List Nat) (x y:Nat) (w:List Nat),pb (u ++ x :: w)→((x=115)↔(y=115))→pb (u ++ [y])
 | [],_,_,_,_,_=>trivial
 | [a],x,y,w,h,e=>⟨h.1.trans (not_congr e),trivial⟩
 | a :: b :: r,x,y,w,h,e=>⟨h.1,vB (b :: r) x y w h.2 e⟩
theorem uU:∀(u:List Nat) (x y:Nat) (w:List Nat),pb (u ++ x :: y :: w)→((x=115)↔¬ (y=115))
 | [],_,_,_,h=>h.1
 | [a],x,y,w,h=>h.2.1
 | a :: b :: r,x,y,w,h=>uU (b :: r) x y w h.2
theorem bf.left {u v:List Nat} (h:bf (u ++ v)):bf u:=⟨rC u v h.1,fun c hc=>h.2 c (List.mem_append_left _ hc)⟩
theorem Cz {u:List Nat} (h:bf (u ++ [114,115])):yt (u ++ [113]) :=
 ⟨⟨vB u 114 113 [115] h.1 (by decide),fun c hc=>by
  rcases Lf.mp hc with z | z
  ·exact h.2 c (List.mem_append_left _ z)
  ·rw [Le] at z;exact .inr (.inr z)⟩,.inr (.inr (by simp))⟩
theorem BN {v:List Nat} (h:bf v) (h1:∀u,v≠u ++ [113,115]) (h2:∀u,v≠u ++ [115,114]) (h3:∀u,v≠u ++ [114,115]) (h4:v≠[114]):yt v:=by
 refine⟨h,?_⟩
 rcases Lr v with e | ⟨w,c,e⟩
 ·exact .inl e
 rw [Lq] at e
 subst e
 rcases Lr w with e | ⟨w',d,e⟩
 ·subst e
  rcases h.2 c (by simp) with z | z | z <;> subst z
  ·exact .inr (.inl rfl)
  ·exact absurd rfl h4
  ·exact .inr (.inr rfl)
 rw [Lq] at e
 subst e
 have hd:=h.2 d (by simp)
 have hm:=uU w' d c [] (by simpa using h.1)
 rw [List.append_assoc] at h1 h2 h3
 rcases h.2 c (by simp) with z | z | z <;> subst z
 ·rcases hd with z | z | z <;> subst z
  ·exact absurd hm (by decide)
  ·exact absurd rfl (h3 w')
  ·exact absurd rfl (h1 w')
 ·rcases hd with z | z | z <;> subst z
  ·exact absurd rfl (h2 w')
  ·exact absurd hm (by decide)
  ·exact absurd hm (by decide)
 ·exact .inr (.inr (by simp))
theorem IC {v:List Nat} (h:aO (aw v) (1,0)≠(0,1)):v≠[114]:=fun e=>h (by rw [e];decide)
end K55
namespace K55
open PySem L2 L2.L3
def G1 (P:D→(D→Prop)→(Str→Prop)→Prop):BS:=fun ds Q R=>∃x,ds=[x]∧P x Q R
theorem II {P}:∀ds (Q:D→Prop) (R:Str→Prop),G1 P ds Q R→ds.length=1:=by rintro ds Q R ⟨x,rfl,_⟩;rfl
theorem IE {P} {x:D} {Q R}:G1 P [x] Q R=P x Q R:=by
 unfold G1;apply propext;constructor
 ·rintro⟨x',e,h⟩;cases e;exact h
 ·intro h;exact⟨_,rfl,h⟩
def JD (x:D) (Q:D→Prop) (R:Str→Prop):Prop:=∃(u:List Nat) (p:Z2) (n:Nat),x=de p∧Fr p∧jz u p∧B2 n p∧n≤10000∧(u.length≤2000→Q (.str ⟨u.toArray⟩))∧(2000 < u.length→R "TooLong")
def cb:BS:=G1 JD
def fG:wc:=(lG (wR (bF 1 (kE av))) (lG (wR (a7 2 (ag 0))) (lG (xB (aK (aC sT (ag 2) (cC (.tup [.int 1,.int 0])))) (lG (Ho (aK (aC ja (dE 1) (cC (.int 2000)))) (kY "TooLong" (af (cC (.str "each word that leads there has more letters")) av)) (wR br)) (lG (wR (cP 1 (aB bV (af (ag 2) av)))) (wR (a7 2 (aB qW (af (aB bJ (af (aB aY (af (cF 1 (lq fK (cC (.int 1)))) av)) av)) (af (ag 2) av)))))))) (wR (cv 1 (bc (o5 (cC (.str "")) (af (ag 1) av))))))))
theorem lE:∀ds (Q:D→Prop) (R:Str→Prop),cb ds Q R→ds.length=1:=II
theorem mV:∀ds (Q:D→Prop) (R:Str→Prop),cb ds Q R→fG { nx:=fun _=>Q .non,rt:=Q,xc:=R } (aE ["fraction","letters","left"] ds):=by
 rintro ds Q R ⟨x,rfl,u,p,n,rfl,hp,hu,hB,hn,hq,hr⟩
 simp_arith! only [fG,xB]
 refine⟨fun e=>∃(k:Nat) (lf:Z2),k≤u.length∧k≤2000∧Fr lf∧jz (u.drop k) lf∧B2 n lf∧e=[some (.d (de p)),some (.own ((u.take k).map dI)),some (.d (de lf))],
  fun e=>u.length - Gd 1 e,⟨0,p,Lp _,Lp _,hp,hu,hB,rfl⟩,?_⟩
 rintro env ⟨k,lf,hk,hk2,hf,ht,hb,rfl⟩
 have tl:((u.take k).map dI).length=k:=by simp;omega
 simp_arith! only [and_true]
 rw [show (D.tup [D.int 1,D.int 0])=de (1,0) from rfl,AO]
 refine⟨_,rfl,?_⟩
 by_cases c:lf=(1,0)
 ·subst c
  have e:=ht.top
  have hk':k=u.length:=by have:=List.drop_eq_nil_iff.mp e;omega
  rw [KQ (by simp)]
  simp_arith! only [o5]
  refine⟨_,rfl,u.map iH,?_,by decide,by rw [oQ];simp;omega,?_⟩
  ·rw [hk',List.take_length];simp [dI]
  ·rw [qj];exact hq (by omega)
 ·obtain⟨r,er,hr'⟩:=ht.step c
  have hlt:k < u.length:=by
   rcases LG k u.length with z | z
   ·exact z
   ·rw [Ly z] at er;cases er
  have hd:u.drop k=u[k] :: u.drop (k + 1):=LL hlt
  rw [hd] at er
  injection er with e1 e2
  rw [KS (by simp [c])]
  have hc:=oW lf
  simp_arith! only [tl]
  by_cases hm:k=2000
  ·rw [KS (by omega)];exact hr (by omega)
  ·rw [KQ (by omega)]
   simp_arith! only [bV,qW,bJ,aY,iS,jt,tl]
   refine⟨by omega,lf,rfl,?_⟩
   refine⟨-1,dI (cH lf),rfl,u4,cH lf,rfl,hc,aF (cH lf),1,rfl,pf _,by decide,bM _,_,lf,1,n,rfl,rfl,(yZ (pf _)).up,hb,by omega,?_⟩
   rw [uS hc hf]
   refine⟨⟨k + 1,_,hlt,by omega,iJ (bM _) hf,by rw [e2];exact hr',HF hf c hb,?_⟩,?_⟩
   ·have e:(u.take (k + 1)).map dI=(u.take k).map dI ++ [D.str (iH (cH lf))]:=by
     rw [LJ,KP hlt,List.map_append,e1];rfl
    rw [e]
    exact⟨rfl,rfl⟩
   ·simp only [Gd,List.getElem?_cons_succ,List.getElem?_cons_zero,Lh,tl]
    simp;omega
def Ij (t f:D) (Q:D→Prop) (R:Str→Prop):Prop:=∃(a b u:List Nat) (p:Z2) (n:Nat),t=kb a b∧f=de p∧gR a b∧0 < a.length∧a.length≤500∧Fr p∧jz u p∧B2 n p∧n≤10000 ∧
 (u.length≤2000→Q (.tup [.int ((mC (gv a b) (lw a b u 0):Nat):Int),(ju (aw u) (mC (gv a b) (lw a b u 0):Nat)).up.toD]))∧(2000 < u.length→R "TooLong")
def fZ:BS:=G2 Ij
def mZ:wc:=(lG (zg 2 (kP cb (af (ag 1) av))) (lG (wR (a7 3 (aB kL (af (aB c4 (af (ag 0) (af (aB (Jz cJ 0) (af (ag 0) (af (ag 2) av))) av))) av)))) (lG (wR (a7 4 (aB cX (af (ag 2) av)))) (wR (bc (bD (af (ag 3) (af (aB fg (af (aB fg (af (ag 4) (af (bD (af (cC (.int 1)) (af (ag 3) (af (cC (.int 0)) (af (cC (.int 1)) av))))) av))) (af (aB bJ (af (ag 4) av)) av))) av))))))))
theorem vW:∀ds (Q:D→Prop) (R:Str→Prop),fZ ds Q R→ds.length=2:=HG
theorem xt:∀ds (Q:D→Prop) (R:Str→Prop),fZ ds Q R→mZ { nx:=fun _=>Q .non,rt:=Q,xc:=R } (aE ["table","fraction","word","width","one"] ds):=by
 rintro ds Q R ⟨t,f,rfl,a,b,u,p,n,rfl,rfl,tab,ha,hl,hp,hu,hB,hn,h,hr⟩
 have uL:(⟨u.toArray⟩:Str).cps.toList=u:=by simp
 have ulen:(⟨u.toArray⟩:Str).length=u.length:=by show u.toArray.size=_;simp
 have uLW:LW ⟨u.toArray⟩:=fun c hc=>hu.lets c (by simpa using hc)
 have pl:=uh tab.ur (lZ tab ha u)
 simp_arith only [mZ,cb,IE,c4,cJ,cX,fg,bJ,iS,jt,Jz,List.cons_append,List.nil_append,rJ]
 refine⟨u,p,n,rfl,hp,hu,hB,hn,fun hul=>⟨a,b,⟨u.toArray⟩,0,rfl,rfl,rfl,tab,ha,uLW,by omega,?_⟩,hr⟩
 rw [uL]
 refine⟨a,b,_,rfl,rfl,tab,hl,lZ tab ha u,?_⟩
 have ln:(aV (IM (gv a b) (lw a b u 0))).length=mC (gv a b) (lw a b u 0):=by simp [aV,DI]
 show kL [D.lst (aV (IM (gv a b) (lw a b u 0)))] _
 rw [kN,ln]
 have sz:=PySem.sizeLine_eq
 refine⟨⟨u.toArray⟩,rfl,uLW,by omega,?_⟩
 rw [uL]
 have wB:=yG u
 have wT:=yM u
 refine⟨gQ u,tp (mC (gv a b) (lw a b u 0):Nat),_,10,rfl,rfl,wB,DG (by omega),by omega,wT.1,sR _,?_⟩
 refine⟨gQ u,_,rfl,wB,by omega,wT.1,?_⟩
 refine⟨_,_,_,_,rfl,rfl,(wB.mul (DG (by omega))).up,(yZ wB).up,by omega,by rw [M4.tU,M4.dD,wT.1,sR];rfl,by rw [M4.tU];exact oD wT.1,?_⟩
 rw [yn wT.1,uR (zW u)]
 exact h hul
def HV (x:D) (Q:D→Prop):Prop:=x=.exc "TooLong"∧Q (.int 12)
def eO:Fw:=F1 HV
def ll:bH:=(aG (a7 1 (eY (af (aB (ir "TooLong" (.cls "NoFraction") false) (af (ag 0) (af (cC (.cls "NoFraction")) av))) (af (aB (ir "TooLong" (.cls "NoTurning") false) (af (ag 0) (af (cC (.cls "NoTurning")) av))) (af (aB (ir "TooLong" (.cls "NoFan") false) (af (ag 0) (af (cC (.cls "NoFan")) av))) (af (aB (ir "TooLong" (.cls "NoTable") false) (af (ag 0) (af (cC (.cls "NoTable")) av))) av)))))) (aG (a7 1 (aC bO (ag 1) (eY (af (aB (ir "TooLong" (.cls "NoRoot") false) (af (ag 0) (af (cC (.cls "NoRoot")) av))) (af (aB (ir "TooLong" (.cls "NotIn") false) (af (ag 0) (af (cC (.cls "NotIn")) av))) (af (aB (ir "TooLong" (.cls "NoPaper") false) (af (ag 0) (af (cC (.cls "NoPaper")) av))) (af (aB (ir "TooLong" (.cls "NoText") false) (af (ag 0) (af (cC (.cls "NoText")) av))) av))))))) (aG (a7 1 (aC bO (ag 1) (eY (af (aB (ir "TooLong" (.cls "NoRow") false) (af (ag 0) (af (cC (.cls "NoRow")) av))) (af (aB (ir "TooLong" (.cls "NoName") false) (af (ag 0) (af (cC (.cls "NoName")) av))) (af (aB (ir "TooLong" (.cls "Full") false) (af (ag 0) (af (cC (.cls "Full")) av))) (af (aB (ir "TooLong" (.cls "Open") false) (af (ag 0) (af (cC (.cls "Open")) av))) av))))))) (aG (a7 1 (aC bO (ag 1) (eY (af (aB (ir "TooLong" (.cls "TooLong") true) (af (ag 0) (af (cC (.cls "TooLong")) av))) (af (aB (ir "TooLong" (.cls "TooMany") false) (af (ag 0) (af (cC (.cls "TooMany")) av))) av))))) (aG (hV (zw (aK (aC sT (sC (ag 1) (cC (.bl true))) (cC (.int 1)))) (vf (aK (aB (ir "TooLong" (.ty "ValueError") true) (af (ag 0) (af (cC (.ty "ValueError")) av)))))) (bc (lq fK (cC (.int 1)))) br) (bc (kF (ag 1) (cC (.bl true)))))))))
theorem tF:∀ds Q,eO ds Q→ds.length=1:=gH
theorem vj:∀ds (Q:D→Prop),eO ds Q→ll { nx:=fun _=>Q .non,rt:=Q } (aE ["_law_e","_law_marks_here"] ds):=by
 rintro ds Q ⟨x,rfl,rfl,h⟩
 simp_arith only [ll,sC,kF]
 have d0:bE [D.bl false,D.bl false,D.bl false,D.bl false,D.bl false,D.bl false,D.bl false,D.bl false,D.bl false,D.bl false,D.bl false,D.bl false,D.bl true,D.bl false]≤60:=by simp [bE,dep]
 have d1:dep (D.bl true)≤60:=by simp [dep]
 refine⟨d0,d1,?_⟩
 rw [KQ (by simp [List.countP_cons,a5])]
 refine⟨d0,d1,12,by simp [a5],fun m hm=>?_,h⟩
 rcases m with _ | _ | _ | _ | _ | _ | _ | _ | _ | _ | _ | _ | m
 all_goals first | (simp [a5];done) | omega
def HC (t f:D) (Q:D→Prop):Prop:=∃(a b u:List Nat) (p:Z2) (n:Nat),t=kb a b∧f=de p∧gR a b∧0 < a.length∧a.length≤500∧Fr p∧jz u p∧B2 n p∧n≤10000 ∧
 (u.length≤2000→Q (.tup [.int (-2),.tup [.int ((mC (gv a b) (lw a b u 0):Nat):Int),(ju (aw u) (mC (gv a b) (lw a b u 0):Nat)).up.toD]]))∧(2000 < u.length→Q (.tup [.int 12,.non]))
def eT:Fw:=F2 HC
def kS:bH:=(BL 2 "TooLong" (B1 (lq fK (cC (.int 2))) (kP fZ (af (ag 0) (af (ag 1) av)))) (bc (bD (af (aB eO (af (ag 2) av)) (af (cC .non) av)))))
theorem t9:∀ds Q,eT ds Q→ds.length=2:=jg
theorem v8:∀ds (Q:D→Prop),eT ds Q→kS { nx:=fun _=>Q .non,rt:=Q } (aE ["_law_table_here","_law_point_here","_law_e"] ds):=by
 rintro ds Q ⟨t,f,rfl,a,b,u,p,n,rfl,rfl,tab,ha,hl,hp,hu,hB,hn,h,hr⟩
 simp_arith only [kS,BL,B1,fZ,Im,eO,iS]
 exact⟨a,b,u,p,n,rfl,rfl,tab,ha,hl,hp,hu,hB,hn,h,fun g=>⟨rfl,rfl,hr g⟩⟩
def Kd (t x:D) (Q:D→Prop):Prop:=∃(a b:List Nat) (here:Nat),t=kb a b∧x=.int (here:Int)∧gR a b∧a.length≤500∧here < a.length∧Q (.int ((mC (gv a b) here:Nat):Int))
def dS:Fw:=F2 Kd
def kh:bH:=(bc (ag 2))
def kA:bH:=(aG (eR (aK (aC sT (ag 3) (ag 1))) (aG (a7 3 (aC cR (aC cR (ag 0) (cC (.int 1))) (aC cR (aC cR (ag 0) (cC (.int 0))) (ag 3)))) (a7 2 (aC bO (ag 2) (cC (.int 1)))))) kh)
def jy:bH:=(aG (a7 2 (cC (.int 1))) (aG (a7 3 (aC cR (aC cR (ag 0) (cC (.int 1))) (aC cR (aC cR (ag 0) (cC (.int 0))) (ag 1)))) kA))
theorem qA:∀ds Q,dS ds Q→ds.length=2:=jg
theorem sI:∀ds (Q:D→Prop),dS ds Q→jy { nx:=fun _=>Q .non,rt:=Q } (aE ["_law_table_here","_law_here","_law_width_here","_law_there"] ds):=by
 rintro ds Q ⟨t,x,rfl,a,b,here,rfl,rfl,tab,hl,hh,h⟩
 have pi:=p3 tab.ur hh
 have pl:=uh tab.ur hh
 have step:∀y,y < a.length→a[y]?=some (a.getD y 0)∧b[a.getD y 0]?=some (gv a b y):=fun y hy=>by
  have e:=tab.len
  have h1:=getD_at hy
  have:=tab.al _ _ h1
  exact⟨h1,getD_at (l:=b) (by omega)⟩
 generalize hpe:mC (gv a b) here=w at *
 simp_arith only [jy,kb,zp,zj]
 rw [xj (step here hh).1,xj (step here hh).2]
 simp_arith only [kA,eR]
 refine⟨fun en=>∃k,0 < k∧k≤w∧en=[some (.d (.tup [.tup (aV a),.tup (aV b)])),some (.d (.int (here:Int))),some (.d (.int (k:Int))),some (.d (.int ((it (gv a b) k here:Nat):Int)))],
  fun en=>501 - HR 2 en,⟨1,Nat.one_pos,pi.pos,rfl⟩,?_⟩
 rintro env ⟨k,h1,h2,rfl⟩
 simp_arith only [and_true]
 by_cases c:k=w
 ·subst c
  rw [pi.ret,KQ (by simp)]
  simp_arith only [kh]
  exact h
 ·have hne:=pi.first k h1 (by omega)
  rw [KS (by omega)]
  have st:=step _ (lN tab.ur hh k)
  simp only [zp,zj]
  rw [xj st.1,xj st.2]
  simp_arith only [and_true]
  refine⟨⟨k + 1,by omega,by omega,?_⟩,?_⟩
  ·exact⟨by omega,rfl⟩
  ·simp only [HR,List.getElem?_cons_succ,List.getElem?_cons_zero];omega
theorem wg:∀v:List Nat,bE (v.map dI)≤50
 | []=>by simp [bE]
 | c :: r=>by
  have:=wg r
  simp only [Ll,bE,dI,dep]
  omega
theorem GU {b c:Bool} {Q:D→Prop}:sT (.bl b) (.bl c) Q=Q (.bl (b != c)):=by
 unfold sT kz
 cases b <;> cases c <;> simp [dep,a5]
theorem yj:Builtin.Str.occurrences (Str.ofString "rq") ⟨#[114]⟩ 0 (Str.ofString "rq").length 1=[0]:=by rw [PySem.StrLaws.occ_eq];rfl
theorem yi:Builtin.Str.occurrences (Str.ofString "rq") ⟨#[113]⟩ 0 (Str.ofString "rq").length 1=[1]:=by rw [PySem.StrLaws.occ_eq];rfl
def Js (x:D) (Q:D→Prop):Prop:=∃z:Str,x=.str z∧LW z∧z.length≤100000∧∀v,bf v→Eqv (aw v) (aw z.cps.toList)→v.length≤z.length→Q (.str ⟨v.toArray⟩)
def cf:Fw:=F1 Js
def fH:bH:=(aG (bF 1 (kE av)) (aG (kd (ag 0) (aM 2) (hV (zw (xV 1) (aK (aC sT (aC ja (cF 1 (lq fK (cC (.int 1)))) (cC (.str "s"))) (aC ja (ag 2) (cC (.str "s")))))) (cP 1 (ag 2)) (hV (aK (aC ja (ag 2) (cC (.str "s")))) (zz 1) (aG (yQ (ET gz (ET bO (ET bO (FA (cC (.str "rq")) (DM 1)) (FA (cC (.str "rq")) (Hf (ag 2)))) (Hf (cC (.int 2)))) (Hf (cC (.int 3)))) (aM 3)) (bF 1 (jW 1 (BP (eY (af (cC (.str "")) (af (cC (.str "r")) (af (cC (.str "q")) av)))) (fv (ag 3)) (fv (aC bO (ag 3) (cC (.int 1))))) (aB o6 (af (aC DA (ag 3) (cC (.int 0))) av)))))))) (cv 1 (bc (o5 (cC (.str "")) (af (ag 1) av))))))
theorem lD:∀ds Q,cf ds Q→ds.length=1:=gH
theorem nh:∀ds (Q:D→Prop),cf ds Q→fH { nx:=fun _=>Q .non,rt:=Q } (aE ["_law_word","_law_row_here","_law_letter","_law_both"] ds):=by
 rintro ds Q ⟨x,rfl,z,rfl,hz,hl,h⟩
 have sz:=PySem.sizeLine_eq
 simp_arith only [fH,cM]
 refine bX (fun i e=>∃v k2 k3,bf v∧Eqv (aw v) (aw (z.cps.toList.take i))∧v.length≤i∧e=[some (.d (.str z)),some (.own (v.map dI)),k2,k3]) ?_ ?_ ⟨[],_,_,⟨trivial,fun c hc=>nomatch hc⟩,.refl _,K0 _,rfl⟩
 ·rintro i x env N hx ⟨v,k2,k3,hs,he,hv,rfl⟩ hN
  unfold cT at hx
  rw [KU] at hx
  cases hc:z.cps.toList[i]? with
  | none=>rw [hc] at hx;cases hx
  | some c =>
  rw [hc] at hx
  cases hx
  have hi:i < z.cps.toList.length:=(KL.mp hc).1
  have hcl:isLet c:=hz c (K6 hc)
  obtain⟨g1,g2,g3⟩:=pw hs hcl
  have nx:∀k2' k3':Option Lo,N [some (.d (.str z)),some (.own ((dP v c).map dI)),k2',k3']:=fun k2' k3'=>by
   refine hN _ ⟨dP v c,k2',k3',g1,g2.trans ?_,by omega,rfl⟩
   rw [LJ,hc,dM]
   show Eqv _ (aw (z.cps.toList.take i ++ [c]))
   rw [dM]
   exact he.mul (.refl _)
  simp_arith only [xV]
  refine⟨wg v,?_⟩
  have lv:(v.map dI).length < 16777216:=by rw [KZ];rw [xD] at hl;omega
  rcases Lr v with e | ⟨r,x,e⟩
  ·subst e
   rw [KS (by rfl)]
   exact⟨lv,nx _ _⟩
  rw [Lq] at e
  subst e
  rw [KQ (by simp)]
  refine⟨-1,dI x,rfl,by rw [List.map_append];exact u4,?_⟩
  have hx:=hs.2 x (by simp)
  have ap:∀y,dP (r ++ [x]) c=r ++ [x,y]→y=c→(List.map dI (r ++ [x])).length < 16777216∧N [some (.d (.str z)),some (.own (List.map dI (r ++ [x]) ++ [D.str ⟨#[c]⟩])),some (.d (.str ⟨#[c]⟩)),k3]:=fun y e1 e2=>by
   subst e2
   have:=nx (some (.d (.str ⟨#[y]⟩))) k3
   rw [e1] at this
   refine⟨lv,?_⟩
   rw [show List.map dI (r ++ [x]) ++ [D.str ⟨#[y]⟩]=List.map dI (r ++ [x,y]) by simp [dI,iH]]
   exact this
  rcases hx with e | e | e <;> subst e <;> rcases hcl with e | e | e <;> subst e <;> simp_arith only [dI,iH,GU]
  ·rw [KQ (by decide),KS (by decide)]
   refine⟨by simp,?_⟩
   have:=nx (some (.d (.str ⟨#[115]⟩))) k3
   simpa [dP,fz] using this
  ·rw [KS (by decide)]
   exact ap _ (by simp [dP,fz]) rfl
  ·rw [KS (by decide)]
   exact ap _ (by simp [dP,fz]) rfl
  ·rw [KS (by decide)]
   exact ap _ (by simp [dP,fz]) rfl
  ·rw [KQ (by decide),KQ (by decide)]
   refine⟨_,rfl,r.map dI,dI 114,by rw [List.map_append];rfl,_,0,[],rfl,yj,?_⟩
   refine⟨_,rfl,_,rfl,_,0,[],rfl,yj,?_⟩
   simp_arith only [jW]
   have e:(((0:Nat):Int) + ((0:Nat):Int) + 2).fmod 3=2:=by decide
   have f:cutD [D.str (Str.ofString ""),D.str (Str.ofString "r"),D.str (Str.ofString "q")] (some 2) (some (2 + 1))=[D.str (Str.ofString "q")]:=by rfl
   rw [e,f]
   have:=nx (some (.d (.str ⟨#[114]⟩))) (some (.d (.int 2)))
   refine⟨kU _ (by decide),by decide,by decide,by decide,by simp at lv ⊢;omega,?_⟩
   simpa [dP,fz,dI,iH,show Str.ofString "q" = ⟨#[113]⟩ from rfl,show Str.ofString "r" = ⟨#[114]⟩ from rfl] using this
  ·rw [KQ (by decide),KQ (by decide)]
   refine⟨_,rfl,r.map dI,dI 114,by rw [List.map_append];rfl,_,0,[],rfl,yj,?_⟩
   refine⟨_,rfl,_,rfl,_,1,[],rfl,yi,?_⟩
   simp_arith only [jW]
   have e:(((0:Nat):Int) + ((1:Nat):Int) + 2).fmod 3=0:=by decide
   have f:cutD [D.str (Str.ofString ""),D.str (Str.ofString "r"),D.str (Str.ofString "q")] (some 0) (some (0 + 1))=[D.str (Str.ofString "")]:=by rfl
   rw [e,f]
   have:=nx (some (.d (.str ⟨#[113]⟩))) (some (.d (.int 0)))
   refine⟨kU _ (by decide),by decide,by decide,by decide,by simp at lv ⊢;omega,?_⟩
   simpa [dP,fz,dI,iH,show Str.ofString "q" = ⟨#[113]⟩ from rfl,show Str.ofString "r" = ⟨#[114]⟩ from rfl] using this
  ·rw [KS (by decide)]
   exact ap _ (by simp [dP,fz]) rfl
  ·rw [KQ (by decide),KQ (by decide)]
   refine⟨_,rfl,r.map dI,dI 113,by rw [List.map_append];rfl,_,1,[],rfl,yi,?_⟩
   refine⟨_,rfl,_,rfl,_,0,[],rfl,yj,?_⟩
   simp_arith only [jW]
   have e:(((1:Nat):Int) + ((0:Nat):Int) + 2).fmod 3=0:=by decide
   have f:cutD [D.str (Str.ofString ""),D.str (Str.ofString "r"),D.str (Str.ofString "q")] (some 0) (some (0 + 1))=[D.str (Str.ofString "")]:=by rfl
   rw [e,f]
   have:=nx (some (.d (.str ⟨#[114]⟩))) (some (.d (.int 0)))
   refine⟨kU _ (by decide),by decide,by decide,by decide,by simp at lv ⊢;omega,?_⟩
   simpa [dP,fz,dI,iH,show Str.ofString "q" = ⟨#[113]⟩ from rfl,show Str.ofString "r" = ⟨#[114]⟩ from rfl] using this
  ·rw [KQ (by decide),KQ (by decide)]
   refine⟨_,rfl,r.map dI,dI 113,by rw [List.map_append];rfl,_,1,[],rfl,yi,?_⟩
   refine⟨_,rfl,_,rfl,_,1,[],rfl,yi,?_⟩
   simp_arith only [jW]
   have e:(((1:Nat):Int) + ((1:Nat):Int) + 2).fmod 3=1:=by decide
   have f:cutD [D.str (Str.ofString ""),D.str (Str.ofString "r"),D.str (Str.ofString "q")] (some 1) (some (1 + 1))=[D.str (Str.ofString "r")]:=by rfl
   rw [e,f]
   have:=nx (some (.d (.str ⟨#[113]⟩))) (some (.d (.int 1)))
   refine⟨kU _ (by decide),by decide,by decide,by decide,by simp at lv ⊢;omega,?_⟩
   simpa [dP,fz,dI,iH,show Str.ofString "q" = ⟨#[113]⟩ from rfl,show Str.ofString "r" = ⟨#[114]⟩ from rfl] using this
 ·rintro env ⟨v,k2,k3,hs,he,hv,rfl⟩
  rw [LB (by simp [cT])] at he
  have lz:(cT z).length=z.length:=by simp [cT,xD]
  simp_arith only [o5]
  refine⟨_,rfl,v.map iH,by simp [dI],by decide,by rw [oQ];simp;omega,?_⟩
  rw [qj]
  exact h v hs he (by omega)
end K55
namespace K55
open PySem L2 L2.L3
def jc:M4:=⟨0,-1,1,0⟩
def stM:List Int→M4
 | []=>M4.one
 | s :: r=>((tp s).mul jc).mul (stM r)
def Dz (s:Int):List Nat:=if s < 0 then [115,114] else [113,115]
def y1:List Int→List Nat
 | []=>[]
 | s :: r=>ig s.natAbs (Dz s) ++ [115] ++ y1 r
theorem C7 (s:Int):∀c∈Dz s,isLet c:=by unfold Dz;split <;> (unfold isLet;decide)
theorem yA:∀l:List Int,∀c∈y1 l,isLet c
 | [],c,h=>nomatch h
 | s :: r,c,h=>by
  unfold y1 at h
  rcases Lf.mp h with h | h
  ·rcases Lf.mp h with h | h
   ·exact pP (C7 s) c h
   ·rw [Le] at h;exact .inl h
  ·exact yA r c h
theorem Cg (s:Int):Eqv (aw (ig s.natAbs (Dz s))) (tp s):=by
 unfold Dz;split
 ·have:=tZ s.natAbs
  rwa [show (-((s.natAbs:Nat):Int))=s by omega] at this
 ·have:=sE s.natAbs
  rwa [show (((s.natAbs:Nat):Int))=s by omega] at this
theorem zb:Eqv (aw [115]) jc:=by first | exact .inl (by decide) | exact .inr (by decide)
theorem qg:∀l:List Int,Eqv (aw (y1 l)) (stM l)
 | []=>.refl _
 | s :: r=>by
  unfold y1 stM
  rw [fc,fc]
  exact ((Cg s).mul zb).mul (qg r)
theorem tP:∀l:List Int,(stM l).det=1
 | []=>by decide
 | s :: r=>by unfold stM;rw [M4.dD,M4.dD,tP r,sR];decide
def gC:List Int→Z2
 | []=>(1,0)
 | s :: r=>(s * (gC r).1 - (gC r).2,(gC r).1)
theorem uc:∀l:List Int,((stM l).a,(stM l).c)=gC l
 | []=>rfl
 | s :: r=>by
  have h:=uc r
  unfold stM gC
  rw [← h]
  refine Prod.ext ?_ ?_
  ·simp only [M4.mul,tp,jc];grind
  ·simp only [M4.mul,tp,jc];grind
theorem C5 (l:List Int):aO (aw (y1 l)) (1,0)=qT (gC l):=by
 rw [qU (qg l) (tP l) (by decide)]
 unfold aO
 rw [Aj,uc]
structure Road (l:List Int):Prop where
 ne:(gC l).1≠0
 len:l.length≤3
 few:(∃s r,l=s :: r∧s.natAbs≤1100∧∀d∈r,d.natAbs≤2)∨(∃s,l=[s]∧2100≤s.natAbs∧s.natAbs≤1000000000000)
theorem ze {s:Int} {r:List Int} (h1:800≤s.natAbs) (h2:s.natAbs≤1100) (hl:r.length≤2) (hr:∀d∈r,d.natAbs≤2):Road (s :: r):=by
 refine⟨?_,by simp;omega,.inl ⟨s,r,rfl,h2,hr⟩⟩
 have key:(gC r).1=0∧(gC r).2≠0∨(gC r).1≠0∧(gC r).2.natAbs≤2:=by
  rcases r with _ | ⟨d,r⟩
  ·right;decide
  rcases r with _ | ⟨e,r⟩
  ·have:=hr d (by simp)
   simp only [gC]
   by_cases c:d=0
   ·left;subst c;decide
   ·right;omega
  rcases r with _ | ⟨f,r⟩
  ·have h1:=hr d (by simp)
   have h2:=hr e (by simp)
   simp only [gC]
   have hd:d = -2∨d = -1∨d=0∨d=1∨d=2:=by omega
   have he:e = -2∨e = -1∨e=0∨e=1∨e=2:=by omega
   rcases hd with rfl | rfl | rfl | rfl | rfl <;> rcases he with rfl | rfl | rfl | rfl | rfl <;> decide
  ·simp at hl
 show s * (gC r).1 - (gC r).2≠0
 rcases key with ⟨a,b⟩ | ⟨a,b⟩
 ·rw [a];omega
 ·intro e
  have e':s * (gC r).1=(gC r).2:=by omega
  have:=congrArg Int.natAbs e'
  rw [Int.natAbs_mul] at this
  have:s.natAbs * 1≤s.natAbs * (gC r).1.natAbs:=Nat.mul_le_mul_left _ (by omega)
  omega
theorem A5 {s:Int} (h1:2100≤s.natAbs) (h2:s.natAbs≤1000000000000):Road [s]:=by
 refine⟨?_,by simp,.inr ⟨s,rfl,h1,h2⟩⟩
 simp only [gC];omega
theorem sZ:∀(k:Nat) (f:Int) (u:List Nat),jz u (f,1)→k < f.natAbs→2 * k≤u.length
 | 0,_,_,_,_=>Lp _
 | k + 1,f,u,h,hk=>by
  obtain⟨r,rfl,h1⟩:=h.step (fun e=>by injection e with e1 e2;exact absurd e2 (by decide))
  rcases Int.lt_or_le 0 f with c | c
  ·have e:cH (f,1)=113:=by unfold cH;rw [KQ (by simp only;omega),KQ (by simp only;omega)]
   have e2:aO (aF (uq 113)) (f,1)=(-1,f - 1):=by
    show aO (aF 114) _=_
    refine cO ?_ (by simp only;omega)
    rw [jL]
   rw [e,e2] at h1
   obtain⟨r2,rfl,h2⟩:=h1.step (fun e=>by injection e with e1 e2;exact absurd e1 (by decide))
   have e3:cH (-1,f - 1)=115:=by unfold cH;rw [KS (by simp only;omega)]
   have e4:aO (aF (uq 115)) (-1,f - 1)=(f - 1,1):=by
    show aO (aF 115) _=_
    refine fq ?_ (by simp only;omega)
    rw [jM];exact Prod.ext (by simp only [bT] <;> omega) (by simp only [bT] <;> omega)
   rw [e3,e4] at h2
   have:=sZ k (f - 1) r2 h2 (by omega)
   simp only [List.length_cons];omega
  ·have e:cH (f,1)=115:=by unfold cH;rw [KS (by simp only;omega)]
   have e2:aO (aF (uq 115)) (f,1)=(1,-f):=by
    show aO (aF 115) _=_
    refine fq ?_ (by simp only;omega)
    rw [jM];exact Prod.ext (by simp only [bT] <;> omega) (by simp only [bT] <;> omega)
   rw [e,e2] at h1
   obtain⟨r2,rfl,h2⟩:=h1.step (fun e=>by injection e with e1 e2;omega)
   have e3:cH (1,-f)=114:=by unfold cH;rw [KQ (by simp only;omega),KS (by simp only;omega)]
   have e4:aO (aF (uq 114)) (1,-f)=(f + 1,1):=by
    show aO (aF 113) _=_
    refine cO ?_ (by simp only;omega)
    rw [jv];exact Prod.ext (by simp only;omega) (by simp only)
   rw [e3,e4] at h2
   have:=sZ k (f + 1) r2 h2 (by omega)
   simp only [List.length_cons];omega
theorem AZ (n:Nat):Builtin.Str.strSliceIndices (some (-2)) none 1 (n + 2)=[n,n + 1]:=by
 unfold Builtin.Str.strSliceIndices sliceRange
 simp only [show ((1:Int) > 0) by decide,if_true,show ((-2:Int) < 0) by omega]
 have hm:max 0 (min ((-2:Int) + ((n + 2:Nat):Int)) ((n + 2:Nat):Int))=(n:Int):=by omega
 rw [hm]
 have hc:(if (n:Int) < ((n + 2:Nat):Int) then ((((n + 2:Nat):Int) - (n:Int) + 1 - 1) / 1) else 0).toNat=2:=by
  rw [KS (by omega),Int.ediv_one];omega
 rw [hc]
 show [_,_]=_
 simp
theorem y4 (n:Nat):Builtin.Str.strSliceIndices none (some (-2)) 1 (n + 2)=List.range n:=by
 unfold Builtin.Str.strSliceIndices sliceRange
 simp only [show ((1:Int) > 0) by decide,if_true,show ((-2:Int) < 0) by omega]
 have hm:max 0 (min ((-2:Int) + ((n + 2:Nat):Int)) ((n + 2:Nat):Int))=(n:Int):=by omega
 rw [hm]
 have hc:(if (0:Int) < (n:Int) then (((n:Int) - 0 + 1 - 1) / 1) else 0).toNat=n:=by
  split
  ·rw [Int.ediv_one];omega
  ·omega
 rw [hc]
 refine Eq.trans (List.map_congr_left (g:=id) fun k hk=>?_) (List.map_id _)
 show (0 + 1 * (k:Int)).toNat=k
 omega
theorem rV {f g:Nat→Option Nat}:∀l:List Nat,(∀k∈l,f k=g k)→l.filterMap f=l.filterMap g
 | [],_=>rfl
 | k :: r,h=>by
  rw [List.filterMap_cons,List.filterMap_cons,h k K9,rV r fun x hx=>h x (K4 _ hx)]
theorem xl (u v:List Nat):(List.range u.length).filterMap (fun i=>(u ++ v).toArray[i]?)=u:=by
 apply List.ext_getElem?
 intro i
 have e:(List.range u.length).filterMap (fun i=>(u ++ v).toArray[i]?)=(List.range u.length).map fun i=>u.getD i 0:=by
  rw [← List.filterMap_eq_map]
  refine rV _ fun k hk=>?_
  have hk':=LD.mp hk
  simp [Lb hk',KP hk']
 rw [e,KU]
 rcases LG i u.length with h | h
 ·rw [Lw h];simp [h]
 ·rw [K7 (by simpa using h),K7 h];rfl
theorem mS (u:List Nat) (c d:Nat):Txt.slice ⟨(u ++ [c,d]).toArray⟩ (some (-2)) none=⟨#[c,d]⟩:=by
 have hl:(⟨(u ++ [c,d]).toArray⟩:Str).length=u.length + 2:=by simp [Str.length]
 unfold Txt.slice
 rw [hl,AZ]
 split
 ·rename_i h
  have:u=[]:=by
   simp only [beq_self_eq_true,Bool.true_and,List.length_cons,List.length_nil,beq_iff_eq] at h
   exact List.eq_nil_of_length_eq_zero (by omega)
  subst this;rfl
 ·simp
theorem nM (u:List Nat) (c d:Nat):Txt.slice ⟨(u ++ [c,d]).toArray⟩ none (some (-2))=⟨u.toArray⟩:=by
 have hl:(⟨(u ++ [c,d]).toArray⟩:Str).length=u.length + 2:=by simp [Str.length]
 unfold Txt.slice
 rw [hl,y4]
 split
 ·rename_i h
  simp at h
 ·simp only
  rw [xl]
end K55
namespace K55
open PySem L2 L2.L3
def strN (i:Nat) (e:En):Nat:=match e[i]? with | some (some (.d (.str z)))=>z.length | _=>0
theorem xW {x:Str} {y z:Str} {Q:D→Prop} (q:Q (.bl (y == x || z == x))):uH false (.str x) (.tup [.str y,.str z]) Q:=by
 refine⟨_,rfl,by simp [bE,dep],by simp [dep],?_⟩
 have e:([D.str y,D.str z].any fun e=>a5 e (.str x))=(y == x || z == x):=by simp [List.any_cons,a5]
 rw [KQ (by decide),e];exact q
def JP (x:D) (Q:D→Prop):Prop:=∃(z:Str) (u:List Nat),x=.str z∧LW z∧z.length≤100000∧aO (aw z.cps.toList) (1,0)≠(0,1)∧jz u (aO (aw z.cps.toList) (1,0))∧Q (.str ⟨u.toArray⟩)
def cD:Fw:=F1 JP
def eZ:bH:=(aG (hV (aK (aC ja (xR (ag 0) (fv (lq fK (cC (.int 2)))) c8) (cC (.str "rs")))) (a7 0 (aC bO (xR (ag 0) c8 (fv (lq fK (cC (.int 2))))) (cC (.str "q")))) br) (bc (ag 0)))
def gm:bH:=(aG (a7 0 (aB cf (af (ag 0) av))) (aG (eR (aK (aC (uH false) (xR (ag 0) (fv (lq fK (cC (.int 2)))) c8) (bD (af (cC (.str "qs")) (af (cC (.str "sr")) av))))) (a7 0 (xR (ag 0) c8 (fv (lq fK (cC (.int 2))))))) eZ))
theorem m9:∀ds Q,cD ds Q→ds.length=1:=gH
theorem nZ:∀ds (Q:D→Prop),cD ds Q→gm { nx:=fun _=>Q .non,rt:=Q } (aE ["_law_word"] ds):=by
 rintro ds Q ⟨x,rfl,z,u,rfl,hz,hl,hp,hu,h⟩
 have sz:=PySem.sizeLine_eq
 simp_arith only [gm,cf,iS,eR]
 refine⟨z,rfl,hz,hl,fun v hs he hv=>?_⟩
 have hled:aO (aw v) (1,0)=aO (aw z.cps.toList) (1,0):=qU he (cj _) (by decide)
 have last:∀v:List Nat,yt v→aO (aw v) (1,0)=aO (aw z.cps.toList) (1,0)→Q (.str ⟨v.toArray⟩):=fun v hn e=>by
  have:=Bm hn
  rw [e] at this
  rw [yU this hu];exact h
 have ends:∀v:List Nat,bf v→v.length≤100000→aO (aw v) (1,0)=aO (aw z.cps.toList) (1,0)→(∀u,v≠u ++ [113,115])→(∀u,v≠u ++ [115,114])→eZ { nx:=fun _=>Q .non,rt:=Q } [some (.d (.str ⟨v.toArray⟩))]:=by
  intro v hs hvl e h1 h2
  have vl:(⟨v.toArray⟩:Str).length=v.length:=by simp [Str.length]
  simp_arith only [eZ,xR,Jk]
  refine⟨by omega,?_⟩
  by_cases c:∃u,v=u ++ [114,115]
  ·obtain⟨u',rfl⟩:=c
   rw [mS,nM]
   rw [KS (by rfl)]
   have ul:(⟨u'.toArray⟩:Str).length=u'.length:=by simp [Str.length]
   simp only [Lh,List.length_cons,List.length_nil] at hvl vl
   refine⟨by omega,by rw [ul,show (Str.ofString "q").length=1 from rfl];omega,?_⟩
   have e2:((⟨u'.toArray⟩:Str) ++ Str.ofString "q")=⟨(u' ++ [113]).toArray⟩:=by
    have:((⟨u'.toArray⟩:Str) ++ Str.ofString "q").cps.toList=u' ++ [113]:=by rw [lB];rfl
    cases hh:((⟨u'.toArray⟩:Str) ++ Str.ofString "q")
    rw [hh] at this
    simp only [Str.mk.injEq]
    exact Array.ext' this
   rw [e2]
   exact last _ (Cz hs) (by rw [← FY];exact e)
  ·have hn:=BN hs h1 h2 (fun u e=>c ⟨u,e⟩) (IC (by rw [e];exact hp))
   have:¬ (Txt.slice ⟨v.toArray⟩ (some (-2)) none=Str.ofString "rs"):=by
    rcases Lr v with e | ⟨w,c',e⟩
    ·subst e;decide
    rw [Lq] at e
    subst e
    rcases Lr w with e | ⟨w',d,e⟩
    ·subst e
     rcases hs.2 c' (by simp) with z | z | z <;> subst z <;> decide
    rw [Lq] at e
    subst e
    rw [List.append_assoc] at c ⊢
    show ¬ (Txt.slice ⟨(w' ++ [d,c']).toArray⟩ _ _=_)
    rw [mS]
    intro g
    have:d=114∧c'=115:=by
     have:=congrArg (fun s:Str=>s.cps.toList) g
     have:[d,c']=[114,115]:=this
     simpa using this
    exact c ⟨w',by rw [this.1,this.2];rfl⟩
   rw [KQ (by rw [beq_iff_eq];exact this)]
   exact last _ hn e
 refine⟨fun e=>∃v,bf v∧v.length≤100000∧aO (aw v) (1,0)=aO (aw z.cps.toList) (1,0)∧e=[some (.d (.str ⟨v.toArray⟩))],fun e=>strN 0 e,⟨v,hs,by omega,hled,rfl⟩,?_⟩
 rintro env ⟨v,hs,hvl,hled,rfl⟩
 have vl:(⟨v.toArray⟩:Str).length=v.length:=by simp [Str.length]
 simp_arith only [xR,Jk]
 refine⟨by omega,?_⟩
 rcases Lr v with e | ⟨w,c',e⟩
 ·subst e
  refine xW ⟨_,rfl,?_⟩
  rw [KQ (by decide)]
  exact ends [] hs hvl hled (fun u e=>by simp at e) (fun u e=>by simp at e)
 rw [Lq] at e
 subst e
 rcases Lr w with e | ⟨w',d,e⟩
 ·subst e
  refine xW ⟨_,rfl,?_⟩
  have hc:=hs.2 c' (by simp)
  rw [KQ (by rcases hc with z | z | z <;> subst z <;> decide)]
  exact ends [c'] hs hvl hled (fun u e=>by have:=congrArg List.length e;simp at this) (fun u e=>by have:=congrArg List.length e;simp at this)
 rw [Lq] at e
 subst e
 have e0:w' ++ [d] ++ [c']=w' ++ [d,c']:=by simp
 rw [e0] at hs hvl hled vl ⊢
 have hd:=hs.2 d (by simp)
 have hc:=hs.2 c' (by simp)
 have wl:(⟨w'.toArray⟩:Str).length=w'.length:=by simp [Str.length]
 simp only [Lh,List.length_cons,List.length_nil] at hvl vl
 have hvl':(w' ++ [d,c']).length≤100000:=by simpa using hvl
 rw [mS,nM]
 refine xW ⟨_,rfl,?_⟩
 have goon:aO (aw w') (1,0)=aO (aw z.cps.toList) (1,0)→(⟨(w' ++ [d,c']).toArray⟩:Str).length≤16777216∧(∃v,bf v∧v.length≤100000∧aO (aw v) (1,0)=aO (aw z.cps.toList) (1,0)∧D.str ⟨w'.toArray⟩=.str ⟨v.toArray⟩)∧strN 0 [some (.d (.str ⟨w'.toArray⟩))] < strN 0 [some (.d (.str ⟨(w' ++ [d,c']).toArray⟩))]:=fun g=>by
  refine⟨by omega,⟨w',bf.left hs,by omega,g,rfl⟩,?_⟩
  simp only [strN,List.getElem?_cons_zero]
  omega
 have nocut:∀x y:Nat,(d=x→c'=y→False)→∀u,w' ++ [d,c']≠u ++ [x,y]:=fun x y hh u e=>by
  have:=List.append_inj' e rfl
  have h2:=this.2
  simp at h2
  exact hh h2.1 h2.2
 by_cases c1:d=113∧c'=115
 ·obtain⟨rfl,rfl⟩:=c1
  rw [KS (by decide)]
  exact goon (by rw [← EZ];exact hled)
 by_cases c2:d=115∧c'=114
 ·obtain⟨rfl,rfl⟩:=c2
  rw [KS (by decide)]
  exact goon (by rw [← FP];exact hled)
 rw [KQ (by rcases hd with z | z | z <;> subst z <;> rcases hc with z | z | z <;> subst z <;> first | decide | exact absurd ⟨rfl,rfl⟩ c1 | exact absurd ⟨rfl,rfl⟩ c2)]
 exact ends _ hs hvl' hled (nocut _ _ fun a b=>c1 ⟨a,b⟩) (nocut _ _ fun a b=>c2 ⟨a,b⟩)
end K55
namespace K55
open PySem L2 L2.L3
theorem Road.size {l:List Int} (h:Road l):∀s∈l,aU 41 s:=by
 intro s hs
 unfold aU
 rcases h.few with ⟨t,r,rfl,h1,h2⟩ | ⟨t,rfl,h1,h2⟩
 ·rcases Ld.mp hs with rfl | hs
  ·omega
  ·have:=h2 s hs;omega
 ·rw [Le] at hs;subst hs;omega
theorem Bp:∀{l:List Int},(∀s∈l,aU 41 s)→B2 (42 * l.length + 1) (gC l)
 | [],_=>⟨by unfold aU gC;decide,by unfold aU gC;decide⟩
 | s :: r,h=>by
  have ih:=Bp (l:=r) fun x hx=>h x (K4 _ hx)
  have e:42 * (s :: r).length + 1=41 + (42 * r.length + 1) + 1:=by simp;omega
  rw [e]
  have hb:=bits_mul (h s K9) ih.1
  have hc:aU (41 + (42 * r.length + 1)) (-(gC r).2):=bits_neg (bits_le ih.2 (by omega))
  refine⟨?_,bits_le ih.1 (by omega)⟩
  have:=bits_add hb hc
  rw [Nat.max_self] at this
  exact this
theorem yb:∀(l:List Int) (s:Int),stM (l ++ [s])=(stM l).mul ((tp s).mul jc)
 | [],s=>by
  show ((tp s).mul jc).mul M4.one=M4.one.mul ((tp s).mul jc)
  rw [jd]
  apply rT <;> simp [M4.mul,M4.one]
 | t :: r,s=>by
  show ((tp t).mul jc).mul (stM (r ++ [s]))=(((tp t).mul jc).mul (stM r)).mul _
  rw [yb r s,← fw]
def IX (x:D) (Q:D→Prop):Prop:=∃c:Int,x=.int c∧∀l,Road l→Q (.lst (l.map D.int))
def eU:Fw:=F1 IX
def fS:bH:=(aG (hV (aK (aC DA (aC gz (ag 0) (cC (.int 4))) (cC (.int 1)))) (bc (eY (af (ag 1) av))) br) (bc (aC bO (eY (af (ag 1) av)) (d5 (iQ [] (aB c5 (af (aC jN (ag 0) (cC (.int 2000))) (af (cC (.int 5)) (af (aC gz (aC jN (ag 0) (cC (.int 604))) (cC (.int 3))) av)))) dU (aC gr (ag 0) (cC (.int 2))))))))
def kQ:bH:=(aG (a7 1 (aC bO (aC cR (eY (af (cC (.int 900)) (af (lq fK (cC (.int 1050))) (af (aC gr (aC CT (cC (.int 10)) (cC (.int 12))) (cC (.int 1050))) (af (aC gr (cC (.int 1050)) (aC CT (cC (.int 10)) (cC (.int 12)))) av))))) (aC gz (ag 0) (cC (.int 4)))) (aC cQ (aC gz (aC jN (ag 0) (cC (.int 4))) (cC (.int 151))) (aC gr (cC (.int 1)) (aC cQ (cC (.int 2)) (aB o6 (af (aC ja (aC gz (ag 0) (cC (.int 4))) (cC (.int 3))) av))))))) fS)
theorem tM:∀ds Q,eU ds Q→ds.length=1:=gH
theorem vA:∀ds (Q:D→Prop),eU ds Q→kQ { nx:=fun _=>Q .non,rt:=Q } (aE ["_law_cell_here","_law_first"] ds):=by
 rintro ds Q ⟨x,rfl,c,rfl,h⟩
 have r4:=bL (a:=c) (b:=4) (by decide)
 have r151:=bL (a:=c.fdiv 4) (b:=151) (by decide)
 have s1:∀f:Int,(c.fmod 4≤1→800≤f.natAbs∧f.natAbs≤1100)→(1 < c.fmod 4→2100≤f.natAbs∧f.natAbs≤1000000000000)→fS { nx:=fun _=>Q .non,rt:=Q } [some (.d (.int c)),some (.d (.int f))]:=by
  intro f h1 h2
  simp_arith only [fS,c5,rJ]
  refine⟨kU _ (by decide),?_⟩
  split
  ·rename_i c1
   obtain⟨g1,g2⟩:=h2 c1
   exact h [f] (A5 g1 g2)
  ·rename_i c1
   obtain⟨g1,g2⟩:=h1 (by omega)
   have r3:=bL (a:=c.fdiv 604) (b:=3) (by decide)
   obtain⟨m,hm⟩:=LM r3.1
   rw [hm]
   refine⟨tT _ (by decide),tT _ (by decide),kU _ (by decide),_,5,m,rfl,rfl,rfl,by decide,bits_le (n:=100) (by unfold aU;decide) (by decide),by omega,fun d hd=>?_⟩
   obtain⟨xs,rfl,hl,hb⟩:=hd
   have sz:=PySem.sizeLine_eq
   refine⟨_,rfl,ia (fun d=>match d with | .int i=>.int (i - 2) | d=>d) _ _ ?_ (by simp;omega) ?_⟩
   ·intro x hx N hN
    obtain⟨y,hy,rfl⟩:=Ls.mp hx
    simp_arith only [fA]
    exact hN
   ·have e:((xs.map D.int).map fun d=>match d with | .int i=>D.int (i - 2) | d=>d)=(xs.map fun i=>i - 2).map D.int:=by
     rw [List.map_map,List.map_map];rfl
    rw [List.nil_append,e]
    refine⟨by simp;omega,?_⟩
    have:=h (f :: xs.map fun i=>i - 2) (ze g1 g2 (by simp;omega) fun d hd=>by
     obtain⟨y,hy,rfl⟩:=Ls.mp hd
     have:=hb y hy
     omega)
    exact this
 simp_arith only [kQ]
 refine⟨vm _ _ (by decide),vm _ _ (by decide),kU _ (by decide),?_⟩
 have tail:∀(v f:Int),(v + (c.fdiv 4).fmod 151 * (1 - 2 * if c.fmod 4=3 then 1 else 0))=f→(c.fmod 4≤1→800≤f.natAbs∧f.natAbs≤1100)→(1 < c.fmod 4→2100≤f.natAbs∧f.natAbs≤1000000000000)→wa c 4∧oV (c.fdiv 4) 151∧oV c 4∧IntMulOk 2 (if c.fmod 4=3 then 1 else 0)∧IntMulOk ((c.fdiv 4).fmod 151) (1 - 2 * if c.fmod 4=3 then 1 else 0)∧bO (.int v) (D.int ((c.fdiv 4).fmod 151 * (1 - 2 * if c.fmod 4=3 then 1 else 0))) fun x=>fS { nx:=fun x=>Q D.non,rt:=Q } [some (Lo.d (D.int c)),some (Lo.d x)]:=by
  intro v f e h1 h2
  refine⟨tT _ (by decide),kU _ (by decide),kU _ (by decide),eJ (by decide) (by decide),eF (by split <;> decide) (by split <;> decide),?_⟩
  rw [iM,e]
  exact s1 f h1 h2
 have k4:c.fmod 4=0∨c.fmod 4=1∨c.fmod 4=2∨c.fmod 4=3:=by omega
 rcases k4 with e | e | e | e
 ·rw [e]
  refine⟨_,rfl,?_⟩
  rw [e] at tail
  refine tail 900 _ rfl (fun _=>?_) (fun g=>by omega)
  rw [KQ (by decide)];omega
 ·rw [e]
  refine⟨_,rfl,?_⟩
  rw [e] at tail
  refine tail (-1050) _ rfl (fun _=>?_) (fun g=>by omega)
  rw [KQ (by decide)];omega
 ·rw [e]
  refine⟨_,rfl,?_⟩
  rw [e] at tail
  refine tail 999999998950 _ rfl (fun g=>by omega) (fun _=>?_)
  rw [KQ (by decide)];omega
 ·rw [e]
  refine⟨_,rfl,?_⟩
  rw [e] at tail
  refine tail (-999999998950) _ rfl (fun g=>by omega) (fun _=>?_)
  rw [KS rfl];omega
def JU (x:D) (Q:D→Prop):Prop:=∃l:List Int,x=.lst (l.map D.int)∧Road l∧Q (de (qT (gC l)))
def dX:Fw:=F1 JU
def kB:bH:=(aG (hV (aK (aC ja (ag 2) (cC (.int 0)))) (bc (bD (af (cC (.int 1)) (af (cC (.int 0)) av)))) br) (aG (hV (aK (aC wm (ag 2) (cC (.int 0)))) (bc (bD (af (aC gr (cC (.int 0)) (ag 1)) (af (aC gr (cC (.int 0)) (ag 2)) av)))) br) (bc (bD (af (ag 1) (af (ag 2) av))))))
def jn:bH:=(aG (gT (bD (af (cC (.int 1)) (af (cC (.int 0)) av))) (fQ 2 (aR (aM 1) (aR (aM 2) fR)))) (aG (kd (BV (ag 0) (lq fK (cC (.int 1)))) (aM 3) (DD 1 2 (af (aC gr (aC cQ (ag 3) (ag 1)) (ag 2)) (af (ag 1) av)))) kB))
theorem qD:∀ds Q,dX ds Q→ds.length=1:=gH
theorem uf:∀ds (Q:D→Prop),dX ds Q→jn { nx:=fun _=>Q .non,rt:=Q } (aE ["_law_steps","_law_p","_law_q","_law_step"] ds):=by
 rintro ds Q ⟨x,rfl,l,rfl,hl,h⟩
 simp_arith only [jn,BV]
 have hlen:=hl.len
 refine bX (fun i e=>∃k,e=[some (.d (.lst (l.map D.int))),some (.d (.int (gC (l.drop (l.length - i))).1)),some (.d (.int (gC (l.drop (l.length - i))).2)),k]) ?_ ?_ ⟨_,by rw [Nat.sub_zero,List.drop_length];rfl⟩
 ·rintro i x env N hx ⟨k,rfl⟩ hN
  have hi:=(KL.mp hx).1
  rw [List.length_reverse,KZ] at hi
  rw [List.getElem?_reverse (by simpa using hi),KZ,KU] at hx
  have hj:l.length - 1 - i < l.length:=by omega
  rw [KP hj] at hx
  cases hx
  have ed:l.drop (l.length - (i + 1))=l[l.length - 1 - i] :: l.drop (l.length - i):=by
   have:=LL hj
   rw [show l.length - 1 - i + 1=l.length - i by omega] at this
   rw [← this,show l.length - (i + 1)=l.length - 1 - i by omega]
  have bp:=Bp (l:=l.drop (l.length - i)) fun s hs=>hl.size s (List.mem_of_mem_drop hs)
  have bs:=hl.size _ (LI hj)
  simp_arith only [and_true]
  refine⟨bK bs bp.1 (by simp;omega),hN _ ⟨_,by rw [ed];rfl⟩⟩
 ·rintro env ⟨k,rfl⟩
  rw [List.length_reverse,KZ,Nat.sub_self,List.drop_zero]
  have dt:=tP l
  have e:=uc l
  have e1:(stM l).a=(gC l).1:=congrArg Prod.fst e
  have e2:(stM l).c=(gC l).2:=congrArg Prod.snd e
  unfold M4.det at dt
  rw [e1,e2] at dt
  simp_arith only [kB]
  by_cases c0:(gC l).2=0
  ·rw [KS c0]
   rw [c0,Int.mul_zero,Int.sub_zero] at dt
   have:(gC l).1=1∨(gC l).1 = -1:=by
    have h1:=congrArg Int.natAbs dt
    rw [Int.natAbs_mul] at h1
    have:=Nat.eq_one_of_mul_eq_one_right h1
    omega
   have e3:qT (gC l)=(1,0):=by
    rcases this with z | z
    ·rw [fu (by unfold mO;omega)];exact Prod.ext z c0
    ·rw [gB (.inr ⟨c0,by omega⟩)];unfold bT;rw [z,c0];rfl
   rw [e3] at h
   exact h
  ·rw [KQ c0]
   by_cases c1:(gC l).2 < 0
   ·rw [KS c1]
    rw [gB (.inl c1)] at h
    unfold bT de at h
    simpa using h
   ·rw [KQ c1]
    rw [fu (by unfold mO;omega)] at h
    exact h
def Hd (x y:D) (Q:D→Prop):Prop:=∃(l:List Int) (w:Nat),x=.lst (l.map D.int)∧y=.int (w:Int)∧Road l∧w≤500∧Q (ju (stM l) w).up.toD
def cK:Fw:=F2 Hd
def gV:bH:=(aG (a7 2 (bD (af (cC (.int 1)) (af (cC (.int 0)) (af (cC (.int 0)) (af (cC (.int 1)) av)))))) (aG (kd (ag 0) (aM 3) (a7 2 (aB bU (af (aB bU (af (ag 2) (af (bD (af (cC (.int 1)) (af (ag 3) (af (cC (.int 0)) (af (cC (.int 1)) av))))) av))) (af (bD (af (cC (.int 0)) (af (lq fK (cC (.int 1))) (af (cC (.int 1)) (af (cC (.int 0)) av))))) av))))) (bc (aB bU (af (aB bU (af (ag 2) (af (bD (af (cC (.int 1)) (af (ag 1) (af (cC (.int 0)) (af (cC (.int 1)) av))))) av))) (af (aB cw (af (ag 2) av)) av))))))
theorem n6:∀ds Q,cK ds Q→ds.length=2:=jg
theorem oZ:∀ds (Q:D→Prop),cK ds Q→gV { nx:=fun _=>Q .non,rt:=Q } (aE ["_law_steps","_law_width_here","_law_one","_law_step"] ds):=by
 rintro ds Q ⟨x,y,rfl,l,w,rfl,rfl,hl,hw,h⟩
 simp_arith only [gV,cM]
 have B0:∀s:Int,s∈l→(tp s).B 41:=fun s hs=>⟨show aU 41 1 by unfold aU;decide,hl.size s hs,show aU 41 0 by unfold aU;decide,show aU 41 1 by unfold aU;decide⟩
 have BH:jc.B 1:=⟨show aU 1 0 by unfold aU;decide,show aU 1 (-1) by unfold aU;decide,show aU 1 1 by unfold aU;decide,show aU 1 0 by unfold aU;decide⟩
 refine bX (fun i e=>∃(m:M4) (k:Option Lo),Eqv m (stM (l.take i))∧m.T∧m.B (44 * i + 1)∧e=[some (.d (.lst (l.map D.int))),some (.d (.int (w:Int))),some (.d m.toD),k]) ?_ ?_ ⟨M4.one,_,.refl _,⟨by decide,by decide⟩,⟨show aU 1 1 by unfold aU;decide,show aU 1 0 by unfold aU;decide,show aU 1 0 by unfold aU;decide,show aU 1 1 by unfold aU;decide⟩,rfl⟩
 ·rintro i x env N hx ⟨m,k,em,mT,mB,rfl⟩ hN
  rw [KU] at hx
  cases hc:l[i]? with
  | none=>rw [hc] at hx;cases hx
  | some s =>
  rw [hc] at hx
  cases hx
  have hi:=(KL.mp hc).1
  have hlen:=hl.len
  have hs:=B0 s (K6 hc)
  simp_arith only [bU,jt,tK]
  refine⟨m,tp s,_,_,rfl,rfl,mB,hs,by omega,_,jc,_,_,rfl,rfl,(mB.mul hs).up,BH,by omega,hN _ ⟨_,_,?_,?_,?_,rfl⟩⟩
  ·rw [LJ,hc]
   simp only [Option.toList]
   rw [yb,← fw]
   exact (Eqv.up _).trans (((Eqv.up _).mul (.refl _)).trans ((em.mul (.refl _)).mul (.refl _)))
  ·exact M4.HZ (by rw [M4.dD,M4.tU,M4.dD,mT.1,sR];decide)
  ·exact (((mB.mul hs).up.mul BH).up).le (by omega)
 ·rintro env ⟨m,k,em,mT,mB,rfl⟩
  have hlen:=hl.len
  rw [KZ] at em mB
  rw [List.take_length] at em
  simp_arith only [bU,cw,jt,iS,tK,EM]
  refine⟨m,tp w,_,_,rfl,rfl,mB,DG hw,by omega,m,rfl,mT,_,_,_,_,rfl,rfl,(mB.mul (DG hw)).up,(yZ mB).up,by omega,?_⟩
  rw [yn mT.1,uR em]
  exact h
end K55
namespace K55
open PySem L2 L2.L3
theorem De:∀ds Q,zI 63 ds Q→ds.length=1:=by rintro ds Q ⟨ns,rfl,_⟩;rfl
theorem C0 {fs:List Z2} {ms:List Mk} {a b:List Nat} (hf:ky fs ms) (h:Cq fs ms a b):0 < a.length:=by
 obtain⟨ha,th,met,isP,src,rfl,rfl,nd,all,_,_⟩:=h
 have key:∀p,isP p→0 < (tabOf met ha).length:=fun p hp=>by
  have:=(all p).mp hp
  unfold tabOf
  rw [KZ]
  exact List.length_pos_of_mem this
 rcases src with ⟨hn,ts,_,tof,_,hp⟩ | ⟨hn,_,hp⟩
 ·cases tof with
  | done h2=>omega
  | cut _ _ _=>exact key (.edge (_,_)) ((hp _).mpr (bS.mpr (.inl rfl)))
 ·obtain⟨i,hi⟩:=Ln (hf.mar.few hn).1
  exact key (.gap i) ((hp _).mpr ⟨i,hi,rfl⟩)
theorem Ia {x:D} {xs:List D}:kn (x :: xs) 0=some x:=by
 rw [oJ (by decide) (by simp)];rfl
def wq (s:Int):Str:=pq (s.natAbs:Int) (if s < 0 then Str.ofString "sr" else Str.ofString "qs") ++ Str.ofString "s"
theorem tq (s:Int):(wq s).cps.toList=ig s.natAbs (Dz s) ++ [115]:=by
 unfold wq Dz
 rw [lB,u5,Int.toNat_natCast]
 split <;> rfl
theorem CH (s:Int):(wq s).length=2 * s.natAbs + 1:=by
 rw [xD,tq,Lh,vY]
 unfold Dz;split <;> simp <;> omega
theorem Ad:∀ys:List Str,(Txt.join (Str.ofString "") ys).cps.toList=(ys.map (·.cps.toList)).flatten:=fun ys=>by
 rw [show Txt.join (Str.ofString "") ys=Str.join (Str.ofString "") ys from StrLaws.glued_eq_join _ _]
 induction ys with
 | nil=>rfl
 | cons y r ih =>
  cases r with
  | nil=>simp [Str.join]
  | cons z r =>
   show (y ++ Str.ofString "" ++ Str.join (Str.ofString "") (z :: r)).cps.toList=_
   rw [lB,lB,ih,Ll,List.flatten_cons,show (Str.ofString "").cps=#[] from rfl]
   simp
theorem CZ (l:List Int):(Txt.join (Str.ofString "") (l.map wq)).cps.toList=y1 l:=by
 rw [Ad]
 induction l with
 | nil=>rfl
 | cons s r ih =>
  rw [Ll,Ll,List.flatten_cons,ih,tq];rfl
theorem B4 {w:Int} {m:M4}:dep (.tup [.int (-2),.tup [.int w,m.toD]])≤60:=by simp [dep,bE,M4.toD]
theorem yl {w:Int} {m:M4}:a5 (.tup [.int (-2),.tup [.int w,m.toD]]) (.tup [.int (-2),.tup [.int w,m.toD]])=true:=by simp [a5,eN,M4.toD]
def m5:bH:=(hV (aK (aC (uH true) (aB eT (af (ag 1) (af (ag 4) av))) (ag 5))) (bc (cC (.bl false))) br)
def r8:bH:=(aG (hV (aK (aC wm (aB vt (af (aC cR (ag 3) (cC (.int 0))) av)) (cC (.int 2000)))) (aG (a7 6 (aB cD (af (o5 (cC (.str "")) (af (d5 (iQ [] (ag 3) dU (aC bO (aC By (aC cR (eY (af (cC (.str "qs")) (af (cC (.str "sr")) av))) (aB o6 (af (aC wm (ag 0) (cC (.int 0))) av))) (aB vt (af (ag 0) av))) (cC (.str "s"))))) av)) av))) (aG (a7 7 (aB dS (af (ag 1) (af (aB f7 (af (ag 1) (af (ag 6) (af (cC (.int 0)) av)))) av)))) (aG (a7 8 (bD (af (lq fK (cC (.int 2))) (af (bD (af (ag 7) (af (aB cK (af (ag 3) (af (ag 7) av))) av))) av)))) (aG (a7 5 (aC cR (eY (af (eY (af (ag 8) av)) (af (eY (af (ag 8) (af (bD (af (cC (.int 12)) (af (cC .non) av))) av))) av))) (aB o6 (af (aC DA (aB kL (af (ag 6) av)) (cC (.int 1900))) av)))) (hV (aK (aC DA (aB kL (af (ag 6) av)) (cC (.int 2000)))) (a7 5 (eY (af (bD (af (cC (.int 12)) (af (cC .non) av))) av))) br))))) br) m5)
def Ao:bH:=(aG (a7 1 (aB dO (af (aB f6 (af (aB cU (af (ag 0) (af (cC (.int 0)) av))) av)) av))) (aG (ib m6 (af (cC (.int 4)) av) (aM 2) (aG (a7 3 (aB eU (af (aB cU (af (ag 0) (af (aC bO (cC (.int 1)) (ag 2)) av))) av))) (aG (a7 4 (aB dX (af (ag 3) av))) (aG (a7 5 (eY (af (bD (af (cC (.int 12)) (af (cC .non) av))) av))) r8)))) (bc (cC (.bl true)))))
theorem EO:∀ds (Q:D→Prop),zI 63 ds Q→Ao { nx:=fun _=>Q .non,rt:=Q } (aE ["_law_script","_law_table_here","_law_k","_law_steps","_law_point_here","_law_dues","_law_word","_law_width_here","_law_told"] ds):=by
 rintro ds Q ⟨ns,rfl,hl,h⟩
 simp_arith only [Ao,cU,f6,dO,iS,jt,Bj]
 refine⟨ns,0,rfl,rfl,by decide,_,rfl,fun fs ms hf=>⟨fs,ms,rfl,hf,fun a b tab src la lb _ _=>?_⟩⟩
 have ha:0 < a.length:=C0 hf src
 refine bX (fun _ e=>∃k2 k3 k4 k5 k6 k7 k8,e=[some (.d (.lst (ns.map D.int))),some (.d (kb a b)),k2,k3,k4,k5,k6,k7,k8]) ?_ ?_ ⟨_,_,_,_,_,_,_,rfl⟩
 ·rintro i x env N hx ⟨k2,k3,k4,k5,k6,k7,k8,rfl⟩ hN
  have hi:=(KL.mp hx).1
  have hxe:x=.int (0 + (i:Int)):=by
   unfold a8 at hx
   rw [KU] at hx
   simp [a8] at hi
   rw [Lw (by omega)] at hx
   cases hx;rfl
  subst hxe
  simp_arith only [cU,eU,dX,iS,jt,Bj]
  refine⟨ns,_,rfl,rfl,by omega,_,rfl,fun l hr=>⟨l,rfl,hr,?_⟩⟩
  have wl:=yA l
  obtain⟨u,hu,hul⟩:=vD (y1 l) wl
  have led:=C5 l
  rw [led] at hu
  have fr:Fr (qT (gC l)):=by rw [← led];exact iJ (cj _) Ag
  have bP:=EH (Bp hr.size)
  have hlen:=hr.len
  have cols:((stM l).a=(aw u).a∧(stM l).c=(aw u).c)∨((stM l).a = -(aw u).a∧(stM l).c = -(aw u).c):=by
   have h1:=A0 (hu.Es fr)
   have e:=uc l
   have e1:(stM l).a=(gC l).1:=congrArg Prod.fst e
   have e2:(stM l).c=(gC l).2:=congrArg Prod.snd e
   rw [e1,e2]
   rcases fW (gC l) with z | z <;> rw [z] at h1
   ·exact h1
   ·unfold bT at h1;simp only at h1;omega
  have hper:mC (gv a b) (lw a b (y1 l) 0)=mC (gv a b) (lw a b u 0):=Aq tab wl hu.lets (qg l).symm (.refl _) cols ha
  have hcon:∀w,ju (stM l) w=ju (aw u) w:=fun w=>zG cols w
  have hh:=lZ tab ha u
  have pl:=uh tab.ur hh
  generalize hw:mC (gv a b) (lw a b u 0)=w at *
  have fin:∀(ds:List D) (k6 k7 k8:Option Lo),(ds=[.tup [.int (-2),.tup [.int (w:Int),(ju (aw u) w).up.toD]]]∧u.length≤2000∨ds=[.tup [.int (-2),.tup [.int (w:Int),(ju (aw u) w).up.toD]],.tup [.int 12,.non]]∨ds=[.tup [.int 12,.non]]∧2000 < u.length) →
    m5 { nx:=N,rt:=Q,bk:=bc (cC (D.bl true)) { nx:=fun x=>Q D.non,rt:=Q },ct:=N } [some (.d (.lst (ns.map D.int))),some (.d (kb a b)),some (.d (.int (0 + (i:Int)))),some (.d (.lst (l.map D.int))),some (.d (de (qT (gC l)))),some (.d (.lst ds)),k6,k7,k8]:=by
   intro ds k6 k7 k8 hds
   simp_arith only [m5,eT,jt]
   have go:∀x:D,dep x≤60→bE ds≤60→(ds.any fun e=>a5 e x)=true→uH true x (.lst ds) fun x=>∃k,x=D.bl k∧if k=true then Q (D.bl false) else N [some (.d (.lst (ns.map D.int))),some (.d (kb a b)),some (.d (.int (0 + (i:Int)))),some (.d (.lst (l.map D.int))),some (.d (de (qT (gC l)))),some (.d (.lst ds)),k6,k7,k8]:=fun x d1 d2 ha=>by
    refine⟨ds,rfl,d2,d1,_,rfl,?_⟩
    rw [KQ (by rw [KS rfl,ha];decide)]
    exact hN _ ⟨_,_,_,_,_,_,_,rfl⟩
   have dl:bE ds≤60:=by
    rcases hds with ⟨e,_⟩ | e | ⟨e,_⟩ <;> rw [e] <;> simp [dep,bE,M4.toD]
   refine⟨a,b,u,_,_,rfl,rfl,tab,ha,la,fr,hu,bP,by omega,fun g=>?_,fun g=>?_⟩
   ·rw [hw]
    refine go _ B4 dl ?_
    rcases hds with ⟨e,_⟩ | e | ⟨e,g'⟩
    ·rw [e];simp only [List.any_cons,yl,Bool.true_or]
    ·rw [e];simp only [List.any_cons,yl,Bool.true_or]
    ·omega
   ·refine go _ (by simp [dep,bE]) dl ?_
    rcases hds with ⟨e,g'⟩ | e | ⟨e,_⟩
    ·omega
    ·rw [e];simp [List.any_cons,a5,eN]
    ·rw [e];simp [List.any_cons,a5,eN]
  simp_arith only [r8]
  rcases hr.few with ⟨s,r,e,h1,h2⟩ | ⟨s,e,h1,h2⟩
  ·refine⟨.int s,by rw [e];exact Ia,?_⟩
   simp_arith only [and_true]
   rw [KS (by omega)]
   simp_arith only [o5]
   have sl:∀t∈l,t.natAbs≤1100:=fun t ht=>by
    rw [e] at ht
    rcases Ld.mp ht with z | z
    ·subst z;exact h1
    ·have:=h2 t z;omega
   have sum:∀q:List Int,(∀t∈q,t.natAbs≤1100)→((q.map wq).map (·.length)).sum≤2201 * q.length:=by
    intro q
    induction q with
    | nil=>intro _;simp
    | cons t q ih =>
     intro hq
     have:=ih fun x hx=>hq x (K4 _ hx)
     have h3:=hq t K9
     simp only [Ll,List.sum_cons,CH,List.length_cons];omega
   have sz:=PySem.sizeLine_eq
   have wlen:(y1 l).length≤6603:=by
    have e1:∀q:List Int,(y1 q).length=((q.map wq).map (·.length)).sum:=by
     intro q
     induction q with
     | nil=>rfl
     | cons t q ih=>show (ig t.natAbs (Dz t) ++ [115] ++ y1 q).length=_;rw [Lh,ih,← tq,← xD];rfl
    rw [e1]
    have:=sum _ sl
    omega
   refine⟨_,rfl,?_⟩
   refine ia (fun d=>match d with | .int t=>.str (wq t) | d=>d) _ _ ?_ (by simp at hlen ⊢;omega) ?_
   ·intro x hx N' hN'
    obtain⟨t,ht,rfl⟩:=Ls.mp hx
    have tl:=sl t ht
    simp_arith only [fA,By]
    have e5:∀y:Str,y.length=2→(pq (t.natAbs:Int) y).length=2 * t.natAbs:=fun y hy=>by
     rw [xD,u5,vY,← xD,hy,Int.toNat_natCast];omega
    have e6:(Str.ofString "s").length=1:=rfl
    by_cases c:t < 0
    ·refine⟨D.str (Str.ofString "sr"),by rw [KS (by simpa using c)];rfl,?_⟩
     have:=e5 (Str.ofString "sr") rfl
     refine⟨by omega,by omega,by rw [show (Str.ofString "sr").length=2 from rfl];omega,by omega,by omega,?_⟩
     have e7:wq t=pq (t.natAbs:Int) (Str.ofString "sr") ++ Str.ofString "s":=by unfold wq;rw [KS c]
     have hN2:N' (.str (wq t)):=hN'
     rw [e7] at hN2;exact hN2
    ·refine⟨D.str (Str.ofString "qs"),by rw [KQ (by simpa using c)];rfl,?_⟩
     have:=e5 (Str.ofString "qs") rfl
     refine⟨by omega,by omega,by rw [show (Str.ofString "qs").length=2 from rfl];omega,by omega,by omega,?_⟩
     have e7:wq t=pq (t.natAbs:Int) (Str.ofString "qs") ++ Str.ofString "s":=by unfold wq;rw [KQ c]
     have hN2:N' (.str (wq t)):=hN'
     rw [e7] at hN2;exact hN2
   ·have e:((l.map D.int).map fun d=>match d with | .int t=>D.str (wq t) | d=>d)=(l.map wq).map D.str:=by
     rw [List.map_map,List.map_map];rfl
    rw [List.nil_append,e]
    refine⟨_,rfl,by decide,by have:=sum _ sl;rw [KZ];omega,?_⟩
    have zc:=CZ l
    generalize Txt.join (Str.ofString "") (l.map wq)=z at *
    have zl:z.length=(y1 l).length:=by rw [xD,zc]
    have ul:(⟨u.toArray⟩:Str).length=u.length:=by show u.toArray.size=_;simp
    have uL:(⟨u.toArray⟩:Str).cps.toList=u:=by simp
    simp only [cD,f7,dS,cK,iS,jt,rJ]
    refine⟨z,u,rfl,fun c hc=>wl c (by rw [← zc];exact hc),by omega,?_,by rw [zc,led];exact hu,?_⟩
    ·rw [zc,led]
     intro e
     have:=hr.ne
     rcases fW (gC l) with z | z <;> rw [z] at e
     ·exact this (by rw [e])
     ·have:=congrArg Prod.fst e
      simp only [bT] at this;omega
    refine⟨a,b,_,0,rfl,rfl,rfl,tab,ha,fun c hc=>hu.lets c (by simpa using hc),by omega,?_⟩
    rw [uL]
    refine⟨a,b,_,rfl,rfl,tab,la,hh,?_⟩
    rw [hw]
    refine⟨l,w,rfl,rfl,hr,by omega,?_⟩
    rw [hcon]
    simp_arith only [ul]
    by_cases c1:1900 < u.length
    ·rw [show (if (1900:Int) < (u.length:Int) then (1:Int) else 0)=1 from KS (by omega)]
     refine⟨by omega,_,rfl,by omega,?_⟩
     by_cases c2:2000 < u.length
     ·rw [KS (by omega)];exact fin _ _ _ _ (.inr (.inr ⟨rfl,c2⟩))
     ·rw [KQ (by omega)];exact fin _ _ _ _ (.inr (.inl rfl))
    ·rw [show (if (1900:Int) < (u.length:Int) then (1:Int) else 0)=0 from KQ (by omega)]
     refine⟨by omega,_,rfl,by omega,?_⟩
     rw [KQ (by omega)];exact fin _ _ _ _ (.inl ⟨rfl,by omega⟩)
  ·subst e
   refine⟨.int s,Ia,?_⟩
   simp_arith only [and_true]
   rw [KQ (by omega)]
   refine fin _ _ _ _ (.inr (.inr ⟨rfl,?_⟩))
   have:qT (gC [s])=(s,1):=by
    have:gC [s]=(s,1):=Prod.ext (by simp [gC]) (by simp [gC])
    rw [this,fu (by unfold mO;simp)]
   rw [this] at hu
   have:=sZ 2000 s u hu (by omega)
   omega
 ·rintro env ⟨k2,k3,k4,k5,k6,k7,k8,rfl⟩
  simp_arith only [and_true]
  exact h
end K55
namespace K55
open PySem L2 L2.L3
def top (i:Nat):Stmt:=PySem.Challenge.pw_fanglue_k59_ends_too_far.main.body.getD i (.Pass ⟨0,0,0,0⟩)
structure Nm where
 c_NoTable:Addr
 c_NoFan:Addr
 c_NoTurning:Addr
 c_NoFraction:Addr
 c_NoText:Addr
 c_NoPaper:Addr
 c_NotIn:Addr
 c_NoRoot:Addr
 c_Open:Addr
 c_Full:Addr
 c_NoName:Addr
 c_NoRow:Addr
 c_TooMany:Addr
 c_TooLong:Addr
 c_FanError:Addr
 a_HALF:Addr
 its_HALF:Array Value
 n_HALF:Nat
 sl_HALF:Array (Option Value)
 a_THIRD:Addr
 its_THIRD:Array Value
 n_THIRD:Nat
 sl_THIRD:Array (Option Value)
 a_NOTHING:Addr
 its_NOTHING:Array Value
 n_NOTHING:Nat
 sl_NOTHING:Array (Option Value)
 a_TOP:Addr
 its_TOP:Array Value
 n_TOP:Nat
 sl_TOP:Array (Option Value)
 t_MOST_LETTERS:Tok
structure Tc (K:PySem.W.Frag) (w:World) (n:Nm):Prop where
 g_HALF:PySem.W.nsIn K mainGlobals "HALF" = some (some (.ref n.a_HALF))
 l_HALF:K.lookup n.a_HALF=some ⟨.type "tuple",none,.seq n.its_HALF n.n_HALF,n.sl_HALF⟩
 s_HALF:n.its_HALF.size≤sizeLine
 v_HALF:L2.Vals ([0,-1,1,0].map L2.V.int) n.its_HALF.toList
 g_THIRD:PySem.W.nsIn K mainGlobals "THIRD" = some (some (.ref n.a_THIRD))
 l_THIRD:K.lookup n.a_THIRD=some ⟨.type "tuple",none,.seq n.its_THIRD n.n_THIRD,n.sl_THIRD⟩
 s_THIRD:n.its_THIRD.size≤sizeLine
 v_THIRD:L2.Vals ([0,-1,1,-1].map L2.V.int) n.its_THIRD.toList
 g_NOTHING:PySem.W.nsIn K mainGlobals "NOTHING" = some (some (.ref n.a_NOTHING))
 l_NOTHING:K.lookup n.a_NOTHING=some ⟨.type "tuple",none,.seq n.its_NOTHING n.n_NOTHING,n.sl_NOTHING⟩
 s_NOTHING:n.its_NOTHING.size≤sizeLine
 v_NOTHING:L2.Vals ([1,0,0,1].map L2.V.int) n.its_NOTHING.toList
 g_TOP:PySem.W.nsIn K mainGlobals "TOP" = some (some (.ref n.a_TOP))
 l_TOP:K.lookup n.a_TOP=some ⟨.type "tuple",none,.seq n.its_TOP n.n_TOP,n.sl_TOP⟩
 s_TOP:n.its_TOP.size≤sizeLine
 v_TOP:L2.Vals ([1,0].map L2.V.int) n.its_TOP.toList
 g_MOST_LETTERS:PySem.W.nsIn K mainGlobals "MOST_LETTERS" = some (some (.int 2000 n.t_MOST_LETTERS))
 n_NoTable:PySem.W.nsIn K mainGlobals "NoTable" = some (some (.ref n.c_NoTable))
 n_NoFan:PySem.W.nsIn K mainGlobals "NoFan" = some (some (.ref n.c_NoFan))
 n_NoTurning:PySem.W.nsIn K mainGlobals "NoTurning" = some (some (.ref n.c_NoTurning))
 n_NoFraction:PySem.W.nsIn K mainGlobals "NoFraction" = some (some (.ref n.c_NoFraction))
 n_NoText:PySem.W.nsIn K mainGlobals "NoText" = some (some (.ref n.c_NoText))
 n_NoPaper:PySem.W.nsIn K mainGlobals "NoPaper" = some (some (.ref n.c_NoPaper))
 n_NotIn:PySem.W.nsIn K mainGlobals "NotIn" = some (some (.ref n.c_NotIn))
 n_NoRoot:PySem.W.nsIn K mainGlobals "NoRoot" = some (some (.ref n.c_NoRoot))
 n_Open:PySem.W.nsIn K mainGlobals "Open" = some (some (.ref n.c_Open))
 n_Full:PySem.W.nsIn K mainGlobals "Full" = some (some (.ref n.c_Full))
 n_NoName:PySem.W.nsIn K mainGlobals "NoName" = some (some (.ref n.c_NoName))
 n_NoRow:PySem.W.nsIn K mainGlobals "NoRow" = some (some (.ref n.c_NoRow))
 n_TooMany:PySem.W.nsIn K mainGlobals "TooMany" = some (some (.ref n.c_TooMany))
 n_TooLong:PySem.W.nsIn K mainGlobals "TooLong" = some (some (.ref n.c_TooLong))
 n_FanError:PySem.W.nsIn K mainGlobals "FanError" = some (some (.ref n.c_FanError))
 e_TooLong:PySem.W.excIn K n.c_TooLong [.type "ValueError",.type "Exception",.type "BaseException",.type "object"] "ValueError.__new__" = true
 o1_TooLong:PySem.W.findIn K (.ref n.c_TooLong) "__getattribute__" = some (some (.builtin "BaseException.__getattribute__"))
 o2_TooLong:PySem.W.findIn K (.ref n.c_TooLong) "__getattr__" = some none
 o3_TooLong:PySem.W.hasDictIn K n.c_TooLong=true
 o4_TooLong:PySem.W.findIn K (.ref n.c_TooLong) "__class__" = some (some (.builtin "object.__class__"))
 o5_TooLong:PySem.W.specialIn K (.builtin "object.__class__") "__get__" = some (some (.builtin "getset_descriptor.__get__"))
 o6_TooLong:PySem.W.takesIn K (.builtin "object.__class__")=some true
 o7_TooLong:PySem.W.mroIn K n.c_TooLong (.type "object")=some true
 o8_TooLong:PySem.W.subIn K (.ref n.c_TooLong) (.type "BaseException")=some true
 u1_TooLong_FanError:PySem.W.typeIn K (.ref n.c_FanError)=some (.type "type")
 u2_TooLong_FanError:PySem.W.hasDictIn K n.c_FanError=true
 u3_TooLong_FanError:PySem.W.subIn K (.ref n.c_FanError) (.type "BaseException")=some true
 u4_TooLong_FanError:PySem.W.subIn K (.ref n.c_TooLong) (.ref n.c_FanError)=some true
 kt0:PySem.W.kitOne K (.ref n.c_TooLong) (.ref n.c_NoTable)=some false
 kt1:PySem.W.kitOne K (.ref n.c_TooLong) (.ref n.c_NoFan)=some false
 kt2:PySem.W.kitOne K (.ref n.c_TooLong) (.ref n.c_NoTurning)=some false
 kt3:PySem.W.kitOne K (.ref n.c_TooLong) (.ref n.c_NoFraction)=some false
 kt4:PySem.W.kitOne K (.ref n.c_TooLong) (.ref n.c_NoText)=some false
 kt5:PySem.W.kitOne K (.ref n.c_TooLong) (.ref n.c_NoPaper)=some false
 kt6:PySem.W.kitOne K (.ref n.c_TooLong) (.ref n.c_NotIn)=some false
 kt7:PySem.W.kitOne K (.ref n.c_TooLong) (.ref n.c_NoRoot)=some false
 kt8:PySem.W.kitOne K (.ref n.c_TooLong) (.ref n.c_Open)=some false
 kt9:PySem.W.kitOne K (.ref n.c_TooLong) (.ref n.c_Full)=some false
 kt10:PySem.W.kitOne K (.ref n.c_TooLong) (.ref n.c_NoName)=some false
 kt11:PySem.W.kitOne K (.ref n.c_TooLong) (.ref n.c_NoRow)=some false
 kt12:PySem.W.kitOne K (.ref n.c_TooLong) (.ref n.c_TooMany)=some false
 kt13:PySem.W.kitOne K (.ref n.c_TooLong) (.ref n.c_TooLong)=some true
 kt14:PySem.W.kitOne K (.ref n.c_TooLong) (.type "ValueError")=some true
theorem Tc.kO {K:PySem.W.Frag} {w:World} {n:Nm} (TC:Tc K w n):BK K n.c_TooLong n.c_FanError:=⟨TC.u1_TooLong_FanError,TC.u2_TooLong_FanError,TC.u3_TooLong_FanError,TC.u4_TooLong_FanError⟩
theorem Tc.bz {K:PySem.W.Frag} {w:World} {n:Nm} (TC:Tc K w n):uG K n.c_TooLong:=⟨TC.o1_TooLong,TC.o2_TooLong,TC.o3_TooLong,TC.o4_TooLong,TC.o5_TooLong,TC.o6_TooLong,TC.o7_TooLong,TC.o8_TooLong⟩
abbrev jY:Stmt:=top 17
abbrev jQ:Stmt:=top 22
abbrev oB:Stmt:=top 23
abbrev iI:Stmt:=top 24
abbrev yz:Stmt:=top 25
abbrev cV:Stmt:=top 29
abbrev fV:Stmt:=top 30
abbrev et:Stmt:=top 32
abbrev fi:Stmt:=top 33
abbrev fO:Stmt:=top 35
abbrev c7:Stmt:=top 36
abbrev eh:Stmt:=top 37
abbrev md:Stmt:=top 38
abbrev iu:Stmt:=top 40
abbrev fM:Stmt:=top 41
abbrev gI:Stmt:=top 42
abbrev jP:Stmt:=top 43
abbrev dA:Stmt:=top 44
abbrev fE:Stmt:=top 45
abbrev j3:Stmt:=top 46
abbrev gF:Stmt:=top 47
abbrev fB:Stmt:=top 48
abbrev dY:Stmt:=top 49
abbrev j5:Stmt:=top 50
abbrev iy:Stmt:=top 51
abbrev fC:Stmt:=top 52
abbrev ey:Stmt:=top 53
abbrev dH:Stmt:=top 54
abbrev ei:Stmt:=top 55
abbrev gn:Stmt:=top 56
abbrev gK:Stmt:=top 57
abbrev ft:Stmt:=top 58
abbrev iz:Stmt:=top 59
abbrev gO:Stmt:=top 60
abbrev yo:Stmt:=top 61
structure Txt (mg:Str→Option Value):Prop where
 ValueError:mg "ValueError" = none
 abs:mg "abs" = none
 enumerate:mg "enumerate" = none
 int:mg "int" = none
 isinstance:mg "isinstance" = none
 len:mg "len" = none
 list:mg "list" = none
 range:mg "range" = none
 tuple:mg "tuple" = none
theorem p4:aD ["p","q"] ["p","q"] (ak jY):=⟨rfl,rfl,rfl,by decide +kernel,rfl,by decide +kernel,by decide +kernel⟩
theorem pX:aD ["a","b","c","d"] ["a","b","c","d"] (ak jQ):=⟨rfl,rfl,rfl,by decide +kernel,rfl,by decide +kernel,by decide +kernel⟩
theorem uP:aD ["one","other","a","b","c","d","e","f","g","h"] ["one","other"] (ak oB):=⟨rfl,rfl,rfl,by decide +kernel,rfl,by decide +kernel,by decide +kernel⟩
theorem nJ:aD ["one","a","b","c","d"] ["one"] (ak iI):=⟨rfl,rfl,rfl,by decide +kernel,rfl,by decide +kernel,by decide +kernel⟩
theorem B7:aD ["one","fraction","a","b","c","d","p","q"] ["one","fraction"] (ak yz):=⟨rfl,rfl,rfl,by decide +kernel,rfl,by decide +kernel,by decide +kernel⟩
theorem gE:aD ["letter"] ["letter"] (ak cV):=⟨rfl,rfl,rfl,by decide +kernel,rfl,by decide +kernel,by decide +kernel⟩
theorem ku:aD ["word","one","letter"] ["word"] (ak fV):=⟨rfl,rfl,rfl,by decide +kernel,rfl,by decide +kernel,by decide +kernel⟩
theorem iU:aD ["table","place","letter","halves","thirds","behind"] ["table","place","letter"] (ak et):=⟨rfl,rfl,rfl,by decide +kernel,rfl,by decide +kernel,by decide +kernel⟩
theorem jw:aD ["table","word","first","place","letter"] ["table","word","first"] (ak fi):=⟨rfl,rfl,rfl,by decide +kernel,rfl,by decide +kernel,by decide +kernel⟩
theorem kj:aD ["table","place","halves","thirds","met","behind"] ["table","place"] (ak fO):=⟨rfl,rfl,rfl,by decide +kernel,rfl,by decide +kernel,by decide +kernel⟩
theorem gM:aD ["fraction","p","q"] ["fraction"] (ak c7):=⟨rfl,rfl,rfl,by decide +kernel,rfl,by decide +kernel,by decide +kernel⟩
theorem iP:aD ["fraction","letters","left"] ["fraction"] (ak eh):=⟨rfl,rfl,rfl,by decide +kernel,rfl,by decide +kernel,by decide +kernel⟩
theorem rZ:aD ["table","fraction","word","width","one"] ["table","fraction"] (ak md):=⟨rfl,rfl,rfl,by decide +kernel,rfl,by decide +kernel,by decide +kernel⟩
theorem nL:aD ["_law_script","_law_k"] ["_law_script","_law_k"] (ak iu):=⟨rfl,rfl,rfl,by decide +kernel,rfl,by decide +kernel,by decide +kernel⟩
theorem kf:aD ["_law_cell_here","_law_base","_law_many","_law_row_here","_law_k"] ["_law_cell_here","_law_base","_law_many"] (ak fM):=⟨rfl,rfl,rfl,by decide +kernel,rfl,by decide +kernel,by decide +kernel⟩
theorem lA:aD ["_law_cell_here","_law_base","_law_many","_law_row_here","_law_k","_law_one","_law_two"] ["_law_cell_here","_law_base","_law_many"] (ak gI):=⟨rfl,rfl,rfl,by decide +kernel,rfl,by decide +kernel,by decide +kernel⟩
theorem o4:aD ["_law_cell_here","_law_base","_law_many"] ["_law_cell_here","_law_base","_law_many"] (ak jP):=⟨rfl,rfl,rfl,by decide +kernel,rfl,by decide +kernel,by decide +kernel⟩
theorem h8:aD ["_law_many","_law_digits_here","_law_row_here","_law_k","_law_at"] ["_law_many","_law_digits_here"] (ak dA):=⟨rfl,rfl,rfl,by decide +kernel,rfl,by decide +kernel,by decide +kernel⟩
theorem l5:aD ["_law_many","_law_digits_here","_law_marks_here","_law_left","_law_most","_law_k","_law_gap","_law_way","_law_other"] ["_law_many","_law_digits_here"] (ak fE):=⟨rfl,rfl,rfl,by decide +kernel,rfl,by decide +kernel,by decide +kernel⟩
theorem pM:aD ["_law_cell_here","_law_many","_law_digits_here"] ["_law_cell_here"] (ak j3):=⟨rfl,rfl,rfl,by decide +kernel,rfl,by decide +kernel,by decide +kernel⟩
theorem lK:aD ["_law_fractions_here","_law_row_here","_law_tiles_here","_law_i","_law_near","_law_far"] ["_law_fractions_here"] (ak gF):=⟨rfl,rfl,rfl,by decide +kernel,rfl,by decide +kernel,by decide +kernel⟩
theorem ly:aD ["_law_fan_here","_law_fractions_here","_law_marks_here","_law_gaps","_law_thirds","_law_one","_law_mid","_law_other","_law_halves","_law_i","_law_mark","_law_first"] ["_law_fan_here"] (ak fB):=⟨rfl,rfl,rfl,by decide +kernel,rfl,by decide +kernel,by decide +kernel⟩
theorem lU:aD ["_law_fan_here","_law_halves","_law_thirds","_law_first","_law_met","_law_at","_law_behind"] ["_law_fan_here"] (ak dY):=⟨rfl,rfl,rfl,by decide +kernel,rfl,by decide +kernel,by decide +kernel⟩
theorem pF:aD ["_law_table_here","_law_word","_law_place","_law_letter"] ["_law_table_here","_law_word","_law_place"] (ak j5):=⟨rfl,rfl,rfl,by decide +kernel,rfl,by decide +kernel,by decide +kernel⟩
theorem nO:aD ["_law_e","_law_marks_here"] ["_law_e"] (ak iy):=⟨rfl,rfl,rfl,by decide +kernel,rfl,by decide +kernel,by decide +kernel⟩
theorem lT:aD ["_law_one","_law_other","_law_a","_law_b","_law_c","_law_d","_law_e","_law_f","_law_g","_law_h","_law_found"] ["_law_one","_law_other"] (ak fC):=⟨rfl,rfl,rfl,by decide +kernel,rfl,by decide +kernel,by decide +kernel⟩
theorem iY:aD ["_law_one","_law_a","_law_b","_law_c","_law_d"] ["_law_one"] (ak ey):=⟨rfl,rfl,rfl,by decide +kernel,rfl,by decide +kernel,by decide +kernel⟩
theorem hW:aD ["_law_word","_law_row_here","_law_letter","_law_both"] ["_law_word"] (ak dH):=⟨rfl,rfl,rfl,by decide +kernel,rfl,by decide +kernel,by decide +kernel⟩
theorem iV:aD ["_law_word"] ["_law_word"] (ak ei):=⟨rfl,rfl,rfl,by decide +kernel,rfl,by decide +kernel,by decide +kernel⟩
theorem nR:aD ["_law_cell_here","_law_first"] ["_law_cell_here"] (ak gn):=⟨rfl,rfl,rfl,by decide +kernel,rfl,by decide +kernel,by decide +kernel⟩
theorem lR:aD ["_law_steps","_law_p","_law_q","_law_step"] ["_law_steps"] (ak gK):=⟨rfl,rfl,rfl,by decide +kernel,rfl,by decide +kernel,by decide +kernel⟩
theorem ji:aD ["_law_steps","_law_width_here","_law_one","_law_step"] ["_law_steps","_law_width_here"] (ak ft):=⟨rfl,rfl,rfl,by decide +kernel,rfl,by decide +kernel,by decide +kernel⟩
theorem nU:aD ["_law_table_here","_law_point_here","_law_e"] ["_law_table_here","_law_point_here"] (ak iz):=⟨rfl,rfl,rfl,by decide +kernel,rfl,by decide +kernel,by decide +kernel⟩
theorem lQ:aD ["_law_table_here","_law_here","_law_width_here","_law_there"] ["_law_table_here","_law_here"] (ak gO):=⟨rfl,rfl,rfl,by decide +kernel,rfl,by decide +kernel,by decide +kernel⟩
theorem Cv:aD ["_law_script","_law_table_here","_law_k","_law_steps","_law_point_here","_law_dues","_law_word","_law_width_here","_law_told"] ["_law_script"] (ak yo):=⟨rfl,rfl,rfl,by decide +kernel,rfl,by decide +kernel,by decide +kernel⟩
section
variable {P:Program} {w:World} {K:PySem.W.Frag} {mg:Str→Option Value} {base:Heap}
theorem xG (F:Df K mg "upright" jY ["p","q"]):Known P w K mg base 1 "upright" fY :=
 have nd:=p4.nd;F.known p4 uW fun fa cdv A outer s H E hr=>⟨ny,(ah (bA (QW.t (rA (nz (qv 1) au) (m8 (QW.t (iG (gy hr.units (qv 1) au) (fP (nz (qv 0) au))))))) (ao (aN (aP (ae (c9 (qv 0)) (ae (c9 (qv 1)) aj))))) aS) (ao (aN (aP (ae (qv 0) (ae (qv 1) aj)))))),xE⟩
theorem xw (F:Df K mg "turning" jQ ["a","b","c","d"]):Known P w K mg base 1 "turning" cW :=
 have nd:=pX.nd;F.known pX uN fun fa cdv A outer s H E hr=>⟨mH,(ah (bA (w8 hr.units (df (bG (qv 0) (qv 3)) (bG (qv 1) (qv 2))) au) (ao BW) aS) (ah (bA (QW.t (rA (nz (qv 2) au) (m8 (QW.t (iG (gy hr.units (qv 2) au) (fP (nz (qv 3) au))))))) (ao (aN (aP (ae (c9 (qv 0)) (ae (c9 (qv 1)) (ae (c9 (qv 2)) (ae (c9 (qv 3)) aj))))))) aS) (ao (aN (aP (ae (qv 0) (ae (qv 1) (ae (qv 2) (ae (qv 3) aj))))))))),xi⟩
theorem Az (F:Df K mg "times" oB ["one","other"]) (k_turning:Known P w K mg base 1 "turning" cW):Known P w K mg base 2 "times" fg :=
 have nd:=uP.nd;F.known uP y6 fun fa cdv A outer s H E hr=>⟨sM,(ah (d7 (qv 0) (cS rfl (aA (az 2 nd) (aA (az 3 nd) (aA (az 4 nd) (aA (az 5 nd) cm)))))) (ah (d7 (qv 1) (cS rfl (aA (az 6 nd) (aA (az 7 nd) (aA (az 8 nd) (aA (az 9 nd) cm)))))) (ao (aN (aQ k_turning (hr.mono (by decide)) (ae (bh (bG (qv 2) (qv 6)) (bG (qv 3) (qv 8))) (ae (bh (bG (qv 2) (qv 7)) (bG (qv 3) (qv 9))) (ae (bh (bG (qv 4) (qv 6)) (bG (qv 5) (qv 8))) (ae (bh (bG (qv 4) (qv 7)) (bG (qv 5) (qv 9))) aj))))))))),Au⟩
theorem uZ (F:Df K mg "contrary" iI ["one"]) (k_turning:Known P w K mg base 1 "turning" cW):Known P w K mg base 2 "contrary" bJ :=
 have nd:=nJ.nd;F.known nJ sW fun fa cdv A outer s H E hr=>⟨kD,(ah (d7 (qv 0) (cS rfl (aA (az 1 nd) (aA (az 2 nd) (aA (az 3 nd) (aA (az 4 nd) cm)))))) (ao (aN (aQ k_turning (hr.mono (by decide)) (ae (qv 4) (ae (c9 (qv 2)) (ae (c9 (qv 3)) (ae (qv 1) aj)))))))),wb⟩
theorem Gp (F:Df K mg "led" yz ["one","fraction"]) (k_upright:Known P w K mg base 1 "upright" fY):Known P w K mg base 2 "led" qW :=
 have nd:=B7.nd;F.known B7 CB fun fa cdv A outer s H E hr=>⟨Cb,(ah (d7 (qv 0) (cS rfl (aA (az 2 nd) (aA (az 3 nd) (aA (az 4 nd) (aA (az 5 nd) cm)))))) (ah (d7 (qv 1) (cS rfl (aA (az 6 nd) (aA (az 7 nd) cm)))) (ao (aN (aQ k_upright (hr.mono (by decide)) (ae (bh (bG (qv 2) (qv 6)) (bG (qv 3) (qv 7))) (ae (bh (bG (qv 4) (qv 6)) (bG (qv 5) (qv 7))) aj))))))),Gh⟩
theorem l7 (F:Df K mg "letter_turning" cV ["letter"]) {n:Nm} (TC:Tc K w n) (k_contrary:Known P w K mg base 2 "contrary" bJ):Known P w K mg base 3 "letter_turning" aY :=
 have nd:=gE.nd;F.known gE lh fun fa cdv A outer s H E hr=>⟨eV,(ah (bA (gy hr.units (qv 0) cG) (ao (aN (IU (ns:=[0,-1,1,0]) TC.g_HALF TC.l_HALF TC.s_HALF TC.v_HALF))) aS) (ah (bA (gy hr.units (qv 0) cG) (ao (aN (IU (ns:=[0,-1,1,-1]) TC.g_THIRD TC.l_THIRD TC.s_THIRD TC.v_THIRD))) aS) (ao (aN (aQ k_contrary (hr.mono (by decide)) (ae (IU (ns:=[0,-1,1,-1]) TC.g_THIRD TC.l_THIRD TC.s_THIRD TC.v_THIRD) aj)))))),lH⟩
theorem qN (F:Df K mg "turning_of" fV ["word"]) {n:Nm} (TC:Tc K w n) (k_letter_turning:Known P w K mg base 3 "letter_turning" aY) (k_times:Known P w K mg base 2 "times" fg):Known P w K mg base 4 "turning_of" cX :=
 have nd:=ku.nd;F.known ku pO fun fa cdv A outer s H E hr=>⟨iw,(ah (aJ 1 nd (IU (ns:=[1,0,0,1]) TC.g_NOTHING TC.l_NOTHING TC.s_NOTHING TC.v_NOTHING)) (ah (iB PassesOwn.never rfl (qv 0) (az 2 nd) (ao (aJ 1 nd (aQ k_times (hr.mono (by decide)) (ae (qv 1) (ae (aQ k_letter_turning (hr.mono (by decide)) (ae (qv 2) aj)) aj)))))) (ao (aN (qv 1))))),qt⟩
theorem n5 (F:Df K mg "place_behind" et ["table","place","letter"]):Known P w K mg base 1 "place_behind" cB :=
 have nd:=iU.nd;F.known iU mY fun fa cdv A outer s H E hr=>⟨gh,(ah (d7 (qv 0) (cS rfl (aA (az 3 nd) (aA (az 4 nd) cm)))) (ah (bA (gy hr.units (qv 2) cG) (ao (aN (bt (qv 3) (qv 1) (fun _ _=>rfl)))) aS) (ah (aJ 5 nd (bt (qv 4) (qv 1) (fun _ _=>rfl))) (ah (bA (QW.t (iG (gy hr.units (qv 2) cG) (fP (Gn (qv 5) xg)))) (ao (aN (bt (qv 4) (qv 5) (fun _ _=>rfl)))) aS) (ao (aN (qv 5))))))),n8⟩
theorem p0 (F:Jp K mg "place_along" fi ["table","word","first"] 0) (k_place_behind:Known P w K mg base 1 "place_behind" cB):qe P w K mg base 2 "place_along" cJ 0 :=
 have nd:=jw.nd;F.known jw nV fun fa cdv A outer s H E hr=>⟨gX,(ah (aJ 3 nd (qv 2)) (ah (iB PassesOwn.never rfl (qv 1) (az 4 nd) (ah (bA (HS (qv 3) xg) (ao (aN xg)) aS) (ao (aJ 3 nd (aQ k_place_behind (hr.mono (by decide)) (ae (qv 0) (ae (qv 3) (ae (qv 4) aj)))))))) (ao (aN (qv 3))))),pW⟩
theorem qH (F:Df K mg "round_from" fO ["table","place"]):Known P w K mg base 1 "round_from" c4 :=
 have nd:=kj.nd;F.known kj o7 fun fa cdv A outer s H E hr=>⟨iO,(ah (d7 (qv 0) (cS rfl (aA (az 2 nd) (aA (az 3 nd) cm)))) (ah (cz 4 nd (jK (ae (qv 1) aj))) (ah (aJ 5 nd (bt (qv 3) (bt (qv 2) (qv 1) (fun _ _=>rfl)) (fun _ _=>rfl))) (ah (ik PassesOwn.never (w8 hr.units (qv 5) (qv 1)) (ah (fb 4 (qv 5)) (ao (aJ 5 nd (bt (qv 3) (bt (qv 2) (qv 5) (fun _ _=>rfl)) (fun _ _=>rfl)))))) (ao (cY 4 (aN (qv 4)))))))),qL⟩
theorem lx (F:Df K mg "letter_towards" c7 ["fraction"]):Known P w K mg base 1 "letter_towards" bV :=
 have nd:=gM.nd;F.known gM kJ fun fa cdv A outer s H E hr=>⟨e8,(ah (d7 (qv 0) (cS rfl (aA (az 1 nd) (aA (az 2 nd) cm)))) (ah (bA (JN (qv 1) au) (ao (aN cG)) aS) (ao (aN (Iq (nz (qv 1) (qv 2)) cG cG))))),lP⟩
theorem nk (F:Df K mg "word_towards" eh ["fraction"]) (T:Txt mg) {n:Nm} (TC:Tc K w n) (k_contrary:Known P w K mg base 2 "contrary" bJ) (k_led:Known P w K mg base 2 "led" qW) (k_letter_towards:Known P w K mg base 1 "letter_towards" bV) (k_letter_turning:Known P w K mg base 3 "letter_turning" aY):iC P w K mg base 4 "word_towards" cb :=
 have nd:=iP.nd;F.xa iP lE fun fa cdv A outer s H E hr=>⟨fG,(jD (rE (nT (cz 1 nd (jK aj)))) (jD (rE (nT (aJ 2 nd (qv 0)))) (jD (A7 (w8 hr.units (qv 2) (IU (ns:=[1,0]) TC.g_TOP TC.l_TOP TC.s_TOP TC.v_TOP)) (jD (rE (HM (gy hr.units (gk 1 T.len) (KI TC.g_MOST_LETTERS)) (yS (zR TC.n_TooLong TC.e_TooLong (ae cG aj))) (FK aS))) (jD (rE (nT (fb 1 (aQ k_letter_towards (hr.mono (by decide)) (ae (qv 2) aj))))) (yf (rE (nT (aJ 2 nd (aQ k_led (hr.mono (by decide)) (ae (aQ k_contrary (hr.mono (by decide)) (ae (aQ k_letter_turning (hr.mono (by decide)) (ae (dB 1 (c9 au) (fun _ _=>rfl)) aj)) aj)) (ae (qv 2) aj)))))))))) (yf (rE (nT (cY 1 (aN (w4 cG (ae (qv 1) aj)))))))))),mV⟩
theorem xH (F:Df K mg "end_of" md ["table","fraction"]) (T:Txt mg) (k_contrary:Known P w K mg base 2 "contrary" bJ) (k_place_along:qe P w K mg base 2 "place_along" cJ 0) (k_round_from:Known P w K mg base 1 "round_from" c4) (k_times:Known P w K mg base 2 "times" fg) (k_turning_of:Known P w K mg base 4 "turning_of" cX) (kx_word_towards:iC P w K mg base 4 "word_towards" cb):iC P w K mg base 5 "end_of" fZ :=
 have nd:=rZ.nd;F.xO rZ vW fun fa cdv A outer s H E hr=>⟨mZ,(pC (GC 2 nd (yJ kx_word_towards (hr.mono (by decide)) (ae (qv 1) aj))) (pC (nT (aJ 3 nd (nI T.len (ae (aQ k_round_from (hr.mono (by decide)) (ae (qv 0) (ae (Ee k_place_along (hr.mono (by decide)) (ae (qv 0) (ae (qv 2) aj))) aj))) aj)))) (pC (nT (aJ 4 nd (aQ k_turning_of (hr.mono (by decide)) (ae (qv 2) aj)))) (yS (nT (aN (aP (ae (qv 3) (ae (aQ k_times (hr.mono (by decide)) (ae (aQ k_times (hr.mono (by decide)) (ae (qv 4) (ae (aP (ae au (ae (qv 3) (ae au (ae au aj))))) aj))) (ae (aQ k_contrary (hr.mono (by decide)) (ae (qv 4) aj)) aj))) aj))))))))),xt⟩
theorem vX (F:Df K mg "_law_cell" iu ["_law_script","_law_k"]) (T:Txt mg):Known P w K mg base 1 "_law_cell" cU :=
 have nd:=nL.nd;F.known nL sU fun fa cdv A outer s H E hr=>⟨kI,(ah (bA (nz (qv 1) (nI T.len (ae (qv 0) aj))) (ao (aN (bt (qv 0) (qv 1) (fun _ _=>rfl)))) aS) (ao (aN au))),uI⟩
theorem qC (F:Df K mg "_law_digits" fM ["_law_cell_here","_law_base","_law_many"]) (T:Txt mg):Known P w K mg base 1 "_law_digits" cZ :=
 have nd:=kf.nd;F.known kf pG fun fa cdv A outer s H E hr=>⟨iE,(ah (cz 3 nd (jK aj)) (ah (lX PassesOwn.never rfl rfl T.range (ae (qv 2) aj) (az 4 nd) (ah (fb 3 (eG (qv 0) (qv 1))) (ao (aJ 0 nd (hJ (qv 0) (qv 1)))))) (ao (cY 3 (aN (qv 3)))))),qF⟩
theorem sh (F:Df K mg "_law_mixed" gI ["_law_cell_here","_law_base","_law_many"]) (T:Txt mg):Known P w K mg base 1 "_law_mixed" dQ :=
 have nd:=lA.nd;F.known lA qK fun fa cdv A outer s H E hr=>⟨jC,(ah (cz 3 nd (jK aj)) (ah (lX PassesOwn.never rfl rfl T.range (ae (qv 2) aj) (az 4 nd) (ah (aJ 5 nd (eG (bG (bh (bh (bh (eG (qv 0) au) (bG (bG au (qv 4)) (qv 4))) (bG au (qv 4))) au) au) au)) (ah (aJ 6 nd (eG (bG (bh (bh (hJ (qv 5) au) (bG (eG (hJ (qv 0) au) au) au)) (qv 4)) au) au)) (ao (fb 3 (eG (hJ (qv 6) au) (qv 1))))))) (ao (cY 3 (aN (qv 3)))))),sk⟩
theorem wO (F:Df K mg "_law_row" jP ["_law_cell_here","_law_base","_law_many"]) (T:Txt mg) (k_law_digits:Known P w K mg base 1 "_law_digits" cZ) (k_law_mixed:Known P w K mg base 1 "_law_mixed" dQ):Known P w K mg base 2 "_law_row" c5 :=
 have nd:=o4.nd;F.known o4 u9 fun fa cdv A outer s H E hr=>⟨nB,(ah (bA (J0 (x4 T.abs (ae (qv 0) aj)) (Bw au au)) (ao (aN (aQ k_law_digits (hr.mono (by decide)) (ae (qv 0) (ae (qv 1) (ae (qv 2) aj)))))) aS) (ao (aN (aQ k_law_mixed (hr.mono (by decide)) (ae (qv 0) (ae (qv 1) (ae (qv 2) aj))))))),wy⟩
theorem mG (F:Df K mg "_law_fractions" dA ["_law_many","_law_digits_here"]) (T:Txt mg):Known P w K mg base 1 "_law_fractions" cg :=
 have nd:=h8.nd;F.known h8 me fun fa cdv A outer s H E hr=>⟨fI,(ah (cz 2 nd (jK (ae (aP (ae (c9 au) (ae au aj))) (ae (aP (ae au (ae au aj))) (ae (aP (ae au (ae au aj))) aj))))) (ah (lX PassesOwn.never rfl rfl T.range (ae (df (qv 0) au) aj) (az 3 nd) (ah (aJ 4 nd (eG (bt (qv 1) (qv 3) (fun _ _=>rfl)) (df (gk 2 T.len) au))) (ao (zH 2 (bh (qv 4) au) (aP (ae (bh (bt (dB 2 (qv 4) (fun _ _=>rfl)) au (fun _ _=>rfl)) (bt (dB 2 (bh (qv 4) au) (fun _ _=>rfl)) au (fun _ _=>rfl))) (ae (bh (bt (dB 2 (qv 4) (fun _ _=>rfl)) au (fun _ _=>rfl)) (bt (dB 2 (bh (qv 4) au) (fun _ _=>rfl)) au (fun _ _=>rfl))) aj))))))) (ao (cY 2 (aN (ie T.tuple (ae (bh (cy (ae (aP (ae au (ae au aj))) aj)) (Dj (qv 2) (fm au) (fm (df (nI T.len (ae (qv 2) aj)) au)))) aj))))))),mR⟩
theorem sD (F:Df K mg "_law_marks" fE ["_law_many","_law_digits_here"]) (T:Txt mg):Known P w K mg base 1 "_law_marks" dZ :=
 have nd:=l5.nd;F.known l5 qE fun fa cdv A outer s H E hr=>⟨jh,(ah (oa 2 nd (N':=["_law_gap"]) (ix:=[]) rfl (cN.of (ak fE) rfl rfl (by decide +kernel) (by decide +kernel) (by decide +kernel) (fun j i h=>by simp at h) rfl) (by decide) rfl rfl rfl T.range (ae (qv 0) aj) (fun C s H fp pins=>gq) (fun C s H fp pins=>cG)) (ah (cz 3 nd (AS T.list T.range (ae (qv 0) aj))) (ah (aJ 4 nd (df au (bG au (qv 0)))) (ah (aJ 5 nd au) (ah (ik PassesOwn.never (yT 3 hr.units) (ah (rh 6 3 nd au) (ah (aJ 7 nd (eG (bt (qv 1) (qv 5) (fun _ _=>rfl)) au)) (ah (bA (QW.t (iG (gy hr.units (qv 7) au) (fP (nz (wQ 2 hr.units cG) (qv 4))))) (ao (wu 2 (qv 6) cG)) aS) (ah (bA (QW.t (iG (Be (qv 7) au) (fP (yT 3 hr.units)))) (ah (rh 8 3 nd (eG (bt (qv 1) (bh (qv 5) au) (fun _ _=>rfl)) (gk 3 T.len))) (ah (wu 2 (qv 6) (qv 8)) (ao (wu 2 (qv 8) (qv 6))))) aS) (ao (aJ 5 nd (bh (qv 5) au)))))))) (ah (cY 2 (bA (QW.t (iG (gy hr.units (qv 0) au) (fP (A3 hr.units cG (qv 2))))) (ao (aJ 2 nd (cy (ae cG (ae cG aj))))) aS)) (ao (aN (ie T.tuple (ae (qv 2) aj)))))))))),tJ⟩
theorem wF (F:Df K mg "_law_fan" j3 ["_law_cell_here"]) (k_law_fractions:Known P w K mg base 1 "_law_fractions" cg) (k_law_marks:Known P w K mg base 1 "_law_marks" dZ) (k_law_row:Known P w K mg base 2 "_law_row" c5):Known P w K mg base 3 "_law_fan" f6 :=
 have nd:=pM.nd;F.known pM v3 fun fa cdv A outer s H E hr=>⟨nA,(ah (aJ 1 nd (bh au (eG (qv 0) au))) (ah (bA (gy hr.units (eG (hJ (qv 0) au) au) au) (ao (aJ 1 nd (bh au (eG (hJ (qv 0) au) au)))) aS) (ah (aJ 2 nd (aQ k_law_row (hr.mono (by decide)) (ae (hJ (qv 0) au) (ae au (ae au aj))))) (ao (aN (aP (ae (aQ k_law_fractions (hr.mono (by decide)) (ae (qv 1) (ae (Dj (qv 2) j8 (fm au)) aj))) (ae (aQ k_law_marks (hr.mono (by decide)) (ae (qv 1) (ae (Dj (qv 2) (fm au) j8) aj))) aj)))))))),xn⟩
theorem sQ (F:Df K mg "_law_tiles" gF ["_law_fractions_here"]) (T:Txt mg):Known P w K mg base 1 "_law_tiles" dW :=
 have nd:=lK.nd;F.known lK qM fun fa cdv A outer s H E hr=>⟨jO,(ah (cz 1 nd (zC T.list (ae (qv 0) aj))) (ah (cz 2 nd (jK aj)) (ah (ik PassesOwn.never (Be (gk 1 T.len) au) (ao (AW PassesOwn.never rfl rfl T.range (ae au (ae (gk 1 T.len) aj)) (az 3 nd) (ah (aJ 4 nd (dB 1 (df (qv 3) au) (fun _ _=>rfl))) (ah (aJ 5 nd (dB 1 (eG (bh (qv 3) au) (gk 1 T.len)) (fun _ _=>rfl))) (ao (bA (QW.t (iG (w8 hr.units (dB 1 (qv 3) (fun _ _=>rfl)) (aP (ae au (ae au aj)))) (fP (gy hr.units (x4 T.abs (ae (df (bG (bt (qv 4) au (fun _ _=>rfl)) (bt (qv 5) au (fun _ _=>rfl))) (bG (bt (qv 4) au (fun _ _=>rfl)) (bt (qv 5) au (fun _ _=>rfl)))) aj)) au)))) (ah (fb 2 (aP (ae (qv 4) (ae (dB 1 (qv 3) (fun _ _=>rfl)) (ae (qv 5) aj))))) (ah (CY 1 (qv 3)) (ao AM))) aS))))))) (ao (cY 2 (aN (qv 2))))))),tE⟩
theorem t7 (F:Df K mg "_law_links" fB ["_law_fan_here"]) (T:Txt mg) (k_law_tiles:Known P w K mg base 1 "_law_tiles" dW):Known P w K mg base 2 "_law_links" dN :=
 have nd:=ly.nd;F.known ly qJ fun fa cdv A outer s H E hr=>⟨jI,(ah (d7 (qv 0) (cS rfl (aA (az 1 nd) (aA (az 2 nd) cm)))) (ah (tD 3 nd (N':=["_law_i","_law_fractions_here"]) (ix:=[1]) rfl (cN.of (ak fB) rfl rfl (by decide +kernel) (by decide +kernel) (by decide +kernel) (fun j i h=>match j,h with | 0,h=>by cases h;exact⟨_,rfl,rfl,by decide,rfl⟩ | _ + 1,h=>by simp at h) rfl) (by decide) rfl rfl rfl T.range (ae (nI T.len (ae (qv 1) aj)) aj) (fun C s H fp pins=>gq) (fun C s H fp pins=>(aP (ae (bt (qv 1) (qv 0) (fun _ _=>rfl)) (ae (bt (qv 1) (eG (bh (qv 0) au) (nI T.len (ae (qv 1) aj))) (fun _ _=>rfl)) aj))))) (ah (rN 4 nd) (ah (iB PassesOwn.never rfl (aQ k_law_tiles (hr.mono (by decide)) (ae (qv 1) aj)) (cS rfl (aA (az 5 nd) (aA (az 6 nd) (aA (az 7 nd) cm)))) (ah (cI 4 hr.units (aP (ae (qv 5) (ae (qv 6) aj))) (aP (ae (qv 6) (ae (qv 7) aj)))) (ah (cI 4 hr.units (aP (ae (qv 6) (ae (qv 7) aj))) (aP (ae (qv 7) (ae (qv 5) aj)))) (ao (cI 4 hr.units (aP (ae (qv 7) (ae (qv 5) aj))) (aP (ae (qv 5) (ae (qv 6) aj)))))))) (ah (rN 8 nd) (ah (y8 4 PassesOwn.never rfl (cS rfl (aA (az 5 nd) (aA (az 7 nd) cm))) (ao (cI 8 hr.units (aP (ae (qv 5) (ae (qv 7) aj))) (aP (ae (qv 7) (ae (qv 5) aj)))))) (ah (DB PassesOwn.never rfl rfl T.enumerate (ae (qv 2) aj) (cS rfl (aA (az 9 nd) (aA (az 10 nd) cm))) (ao (bA (gy hr.units (qv 10) cG) (ah (cI 4 hr.units (qv 9) (qv 9)) (ah (cI 8 hr.units (qv 9) (bt (qv 3) (qv 9) (fun _ _=>rfl))) (ao (cI 8 hr.units (bt (qv 3) (qv 9) (fun _ _=>rfl)) (qv 9))))) (ao (bA (gy hr.units (qv 10) cG) (ao (cI 8 hr.units (bt (qv 3) (qv 9) (fun _ _=>rfl)) (bt (qv 3) (qv 9) (fun _ _=>rfl)))) (ao (cI 8 hr.units (bt (qv 3) (qv 9) (fun _ _=>rfl)) (bt (qv 3) (qv 10) (fun _ _=>rfl))))))))) (ah (aJ 11 nd (aP (ae (aP (ae au (ae au aj))) (ae (aP (ae au (ae au aj))) aj)))) (ah (qa 4 (bA (gy hr.units (nI T.len (ae (qv 1) aj)) au) (ah (aJ 11 nd (bt (cy (ae au (ae au aj))) (jX T.int (ae (JO hr.units (bt (qv 2) au (fun _ _=>rfl)) cG) aj)) (fun _ _=>rfl))) (ao (iB PassesOwn.never rfl (cy (ae au (ae au aj))) (az 9 nd) (ao (bA (gy hr.units (bt (qv 2) (qv 9) (fun _ _=>rfl)) cG) (ao (cI 8 hr.units (qv 9) (bt (cy (ae (qv 9) (ae (df au (qv 9)) aj))) (jX T.int (ae (CS hr.units (bt (qv 2) (df au (qv 9)) (fun _ _=>rfl)) cG) aj)) (fun _ _=>rfl)))) aS))))) (ao (bA (Gx hr.units (qv 11) (qv 4)) (ao (aJ 11 nd (AN 8 hr.units (bt (qv 3) (c9 au) (fun _ _=>rfl)) (fun _ _=>rfl)))) aS)))) (ao (qa 8 (aN (aP (ae (qv 8) (ae (qv 4) (ae (qv 11) aj)))))))))))))))),sA⟩
theorem ue (F:Df K mg "_law_table" dY ["_law_fan_here"]) (T:Txt mg) (k_law_links:Known P w K mg base 2 "_law_links" dN):Known P w K mg base 3 "_law_table" dO :=
 have nd:=lU.nd;F.known lU qz fun fa cdv A outer s H E hr=>⟨jm,(ah (d7 (aQ k_law_links (hr.mono (by decide)) (ae (qv 0) aj)) (cS rfl (aA (az 1 nd) (aA (az 2 nd) (aA (az 3 nd) cm))))) (ah (cz 4 nd (jK (ae (qv 3) aj))) (ah (aJ 5 nd au) (ah (ik PassesOwn.never (nz (qv 5) (gk 4 T.len)) (ah (iB PassesOwn.never rfl (cy (ae (ug hr.units (qv 1) (dB 4 (qv 5) (fun _ _=>rfl)) (fun _ _=>rfl)) (ae (ug hr.units (qv 2) (dB 4 (qv 5) (fun _ _=>rfl)) (fun _ _=>rfl)) aj))) (az 6 nd) (ao (bA (A9 4 hr.units (qv 6)) (ao (fb 4 (qv 6))) aS))) (ao (aJ 5 nd (bh (qv 5) au))))) (ao (cY 4 (aN (aP (ae (ie T.tuple (ae (QF.e (lY (N':=["_law_one","_law_halves","_law_met"]) (ix:=[1,4]) rfl (cN.of (ak dY) rfl rfl (by decide +kernel) (by decide +kernel) (by decide +kernel) (fun j i h=>match j,h with | 0,h=>by cases h;exact⟨_,rfl,rfl,by decide,rfl⟩ | 1,h=>by cases h;exact⟨_,rfl,rfl,by decide,rfl⟩ | _ + 2,h=>by simp at h) rfl) (by decide) rfl rfl (qv 4) (fun C s H fp pins=>gq) (fun C s H fp pins=>(sr hr.units (qv 2) (ug hr.units (qv 1) (qv 0) (fun _ _=>rfl)))))) aj)) (ae (ie T.tuple (ae (QF.e (lY (N':=["_law_one","_law_thirds","_law_met"]) (ix:=[2,4]) rfl (cN.of (ak dY) rfl rfl (by decide +kernel) (by decide +kernel) (by decide +kernel) (fun j i h=>match j,h with | 0,h=>by cases h;exact⟨_,rfl,rfl,by decide,rfl⟩ | 1,h=>by cases h;exact⟨_,rfl,rfl,by decide,rfl⟩ | _ + 2,h=>by simp at h) rfl) (by decide) rfl rfl (qv 4) (fun C s H fp pins=>gq) (fun C s H fp pins=>(sr hr.units (qv 2) (ug hr.units (qv 1) (qv 0) (fun _ _=>rfl)))))) aj)) aj)))))))))),ud⟩
theorem wH (F:Df K mg "_law_led" j5 ["_law_table_here","_law_word","_law_place"]):Known P w K mg base 1 "_law_led" f7 :=
 have nd:=pF.nd;F.known pF uE fun fa cdv A outer s H E hr=>⟨mM,(ah (iB PassesOwn.never rfl (qv 1) (az 3 nd) (ao (bA (gy hr.units (qv 3) cG) (ao (aJ 2 nd (bt (bt (qv 0) au (fun _ _=>rfl)) (qv 2) (fun _ _=>rfl)))) (ao (bA (gy hr.units (qv 3) cG) (ao (aJ 2 nd (bt (bt (qv 0) au (fun _ _=>rfl)) (qv 2) (fun _ _=>rfl)))) (ao (aJ 2 nd (bt (bt (qv 0) au (fun _ _=>rfl)) (bt (bt (qv 0) au (fun _ _=>rfl)) (qv 2) (fun _ _=>rfl)) (fun _ _=>rfl))))))))) (ao (aN (qv 2)))),xf⟩
theorem tI (F:Df K mg "_law_kind" iy ["_law_e"]) (T:Txt mg) {n:Nm} (TC:Tc K w n):pQ P w K mg base 1 "_law_kind" eO :=
 have nd:=nO.nd;F.wK nO tF fun fa cdv A outer s H E hr=>⟨ll,(ah (aJ 1 nd (cy (ae (f9 "TooLong" (.cls "NoFraction") false T.isinstance TC.n_TooLong TC.bz (.cls TC.n_NoFraction TC.kt3) (ae (qv 0) (ae (l8 TC.n_NoFraction) aj))) (ae (f9 "TooLong" (.cls "NoTurning") false T.isinstance TC.n_TooLong TC.bz (.cls TC.n_NoTurning TC.kt2) (ae (qv 0) (ae (l8 TC.n_NoTurning) aj))) (ae (f9 "TooLong" (.cls "NoFan") false T.isinstance TC.n_TooLong TC.bz (.cls TC.n_NoFan TC.kt1) (ae (qv 0) (ae (l8 TC.n_NoFan) aj))) (ae (f9 "TooLong" (.cls "NoTable") false T.isinstance TC.n_TooLong TC.bz (.cls TC.n_NoTable TC.kt0) (ae (qv 0) (ae (l8 TC.n_NoTable) aj))) aj)))))) (ah (aJ 1 nd (bh (qv 1) (cy (ae (f9 "TooLong" (.cls "NoRoot") false T.isinstance TC.n_TooLong TC.bz (.cls TC.n_NoRoot TC.kt7) (ae (qv 0) (ae (l8 TC.n_NoRoot) aj))) (ae (f9 "TooLong" (.cls "NotIn") false T.isinstance TC.n_TooLong TC.bz (.cls TC.n_NotIn TC.kt6) (ae (qv 0) (ae (l8 TC.n_NotIn) aj))) (ae (f9 "TooLong" (.cls "NoPaper") false T.isinstance TC.n_TooLong TC.bz (.cls TC.n_NoPaper TC.kt5) (ae (qv 0) (ae (l8 TC.n_NoPaper) aj))) (ae (f9 "TooLong" (.cls "NoText") false T.isinstance TC.n_TooLong TC.bz (.cls TC.n_NoText TC.kt4) (ae (qv 0) (ae (l8 TC.n_NoText) aj))) aj))))))) (ah (aJ 1 nd (bh (qv 1) (cy (ae (f9 "TooLong" (.cls "NoRow") false T.isinstance TC.n_TooLong TC.bz (.cls TC.n_NoRow TC.kt11) (ae (qv 0) (ae (l8 TC.n_NoRow) aj))) (ae (f9 "TooLong" (.cls "NoName") false T.isinstance TC.n_TooLong TC.bz (.cls TC.n_NoName TC.kt10) (ae (qv 0) (ae (l8 TC.n_NoName) aj))) (ae (f9 "TooLong" (.cls "Full") false T.isinstance TC.n_TooLong TC.bz (.cls TC.n_Full TC.kt9) (ae (qv 0) (ae (l8 TC.n_Full) aj))) (ae (f9 "TooLong" (.cls "Open") false T.isinstance TC.n_TooLong TC.bz (.cls TC.n_Open TC.kt8) (ae (qv 0) (ae (l8 TC.n_Open) aj))) aj))))))) (ah (aJ 1 nd (bh (qv 1) (cy (ae (f9 "TooLong" (.cls "TooLong") true T.isinstance TC.n_TooLong TC.bz (.cls TC.n_TooLong TC.kt13) (ae (qv 0) (ae (l8 TC.n_TooLong) aj))) (ae (f9 "TooLong" (.cls "TooMany") false T.isinstance TC.n_TooLong TC.bz (.cls TC.n_TooMany TC.kt12) (ae (qv 0) (ae (l8 TC.n_TooMany) aj))) aj))))) (ah (bA (QW.t (rA (w8 hr.units (Bu hr.units (qv 1) Jf) au) (m8 (FG (GK (f9 "TooLong" (.ty "ValueError") true T.isinstance TC.n_TooLong TC.bz (.ty TC.kt14) (ae (qv 0) (ae (Kw rfl T.ValueError DJ) aj)))))))) (ao (aN (c9 au))) aS) (ao (aN (sr hr.units (qv 1) Jf)))))))),vj⟩
theorem tY (F:Df K mg "_law_times" fC ["_law_one","_law_other"]) (T:Txt mg):Known P w K mg base 1 "_law_times" bU :=
 have nd:=lT.nd;F.known lT qQ fun fa cdv A outer s H E hr=>⟨je,(ah (d7 (qv 0) (cS rfl (aA (az 2 nd) (aA (az 3 nd) (aA (az 4 nd) (aA (az 5 nd) cm)))))) (ah (d7 (qv 1) (cS rfl (aA (az 6 nd) (aA (az 7 nd) (aA (az 8 nd) (aA (az 9 nd) cm)))))) (ah (aJ 10 nd (aP (ae (bh (bG (qv 2) (qv 6)) (bG (qv 3) (qv 8))) (ae (bh (bG (qv 2) (qv 7)) (bG (qv 3) (qv 9))) (ae (bh (bG (qv 4) (qv 6)) (bG (qv 5) (qv 8))) (ae (bh (bG (qv 4) (qv 7)) (bG (qv 5) (qv 9))) aj)))))) (ah (bA (QW.t (rA (nz (bt (qv 10) au (fun _ _=>rfl)) au) (m8 (QW.t (iG (gy hr.units (bt (qv 10) au (fun _ _=>rfl)) au) (fP (nz (bt (qv 10) au (fun _ _=>rfl)) au))))))) (ao (aN (ie T.tuple (ae (QF.e (lY (N':=["_law_number"]) (ix:=[]) rfl (cN.of (ak fC) rfl rfl (by decide +kernel) (by decide +kernel) (by decide +kernel) (fun j i h=>by simp at h) rfl) (by decide) rfl rfl (qv 10) (fun C s H fp pins=>gq) (fun C s H fp pins=>(df au (qv 0))))) aj)))) aS) (ao (aN (qv 10))))))),tu⟩
theorem nW (F:Df K mg "_law_contrary" ey ["_law_one"]):Known P w K mg base 1 "_law_contrary" cw :=
 have nd:=iY.nd;F.known iY mj fun fa cdv A outer s H E hr=>⟨gb,(ah (d7 (qv 0) (cS rfl (aA (az 1 nd) (aA (az 2 nd) (aA (az 3 nd) (aA (az 4 nd) cm)))))) (ah (bA (QW.t (rA (Be (qv 3) au) (m8 (QW.t (iG (gy hr.units (qv 3) au) (fP (nz (qv 1) au))))))) (ao (aN (aP (ae (df au (qv 4)) (ae (qv 2) (ae (qv 3) (ae (df au (qv 1)) aj))))))) aS) (ao (aN (aP (ae (qv 4) (ae (df au (qv 2)) (ae (df au (qv 3)) (ae (qv 1) aj))))))))),oh⟩
theorem m4 (F:Df K mg "_law_shortened" dH ["_law_word"]) (T:Txt mg):Known P w K mg base 1 "_law_shortened" cf :=
 have nd:=hW.nd;F.known hW lD fun fa cdv A outer s H E hr=>⟨fH,(ah (cz 1 nd (jK aj)) (ah (iB PassesOwn.never rfl (qv 0) (az 2 nd) (ao (bA (QW.t (rA (Dr 1 hr.units) (m8 (w8 hr.units (CS hr.units (dB 1 (c9 au) (fun _ _=>rfl)) cG) (CS hr.units (qv 2) cG))))) (ao (fb 1 (qv 2))) (ao (bA (gy hr.units (qv 2) cG) (ao (G4 1)) (ah (Dl (Fp (AJ (AJ (yK cG (Gs 1)) (yK cG (wj.up (qv 2)))) (wj.up au)) (wj.up au)) (az 3 nd)) (ao (cz 1 nd (zh 1 (Dj (cy (ae cG (ae cG (ae cG aj)))) (fm (qv 3)) (fm (bh (qv 3) au))) (jX T.int (ae (Hr (qv 3) au) aj))))))))))) (ao (cY 1 (aN (w4 cG (ae (qv 1) aj))))))),nh⟩
theorem n9 (F:Df K mg "_law_shortest" ei ["_law_word"]) (k_law_shortened:Known P w K mg base 1 "_law_shortened" cf):Known P w K mg base 2 "_law_shortest" cD :=
 have nd:=iV.nd;F.known iV m9 fun fa cdv A outer s H E hr=>⟨gm,(ah (aJ 0 nd (aQ k_law_shortened (hr.mono (by decide)) (ae (qv 0) aj))) (ah (ik PassesOwn.never (IG hr.units (yL (qv 0) (fm (c9 au)) j8) (aP (ae cG (ae cG aj)))) (ao (aJ 0 nd (yL (qv 0) j8 (fm (c9 au)))))) (ah (bA (gy hr.units (yL (qv 0) (fm (c9 au)) j8) cG) (ao (aJ 0 nd (bh (yL (qv 0) j8 (fm (c9 au))) cG))) aS) (ao (aN (qv 0)))))),nZ⟩
theorem uD (F:Df K mg "_law_road" gn ["_law_cell_here"]) (T:Txt mg) (k_law_row:Known P w K mg base 2 "_law_row" c5):Known P w K mg base 3 "_law_road" eU :=
 have nd:=nR.nd;F.known nR tM fun fa cdv A outer s H E hr=>⟨kQ,(ah (aJ 1 nd (bh (bt (cy (ae au (ae (c9 au) (ae (df (Bw au au) au) (ae (df au (Bw au au)) aj))))) (eG (qv 0) au) (fun _ _=>rfl)) (bG (eG (hJ (qv 0) au) au) (df au (bG au (jX T.int (ae (CS hr.units (eG (qv 0) au) au) aj))))))) (ah (bA (Be (eG (qv 0) au) au) (ao (aN (cy (ae (qv 1) aj)))) aS) (ao (aN (bh (cy (ae (qv 1) aj)) (QF.e (lY (N':=["_law_digit"]) (ix:=[]) rfl (cN.of (ak gn) rfl rfl (by decide +kernel) (by decide +kernel) (by decide +kernel) (fun j i h=>by simp at h) rfl) (by decide) rfl rfl (aQ k_law_row (hr.mono (by decide)) (ae (hJ (qv 0) au) (ae au (ae (eG (hJ (qv 0) au) au) aj)))) (fun C s H fp pins=>gq) (fun C s H fp pins=>(df (qv 0) au))))))))),vA⟩
theorem tG (F:Df K mg "_law_point" gK ["_law_steps"]):Known P w K mg base 1 "_law_point" dX :=
 have nd:=lR.nd;F.known lR qD fun fa cdv A outer s H E hr=>⟨jn,(ah (d7 (aP (ae au (ae au aj))) (cS rfl (aA (az 1 nd) (aA (az 2 nd) cm)))) (ah (iB PassesOwn.never rfl (Fb (qv 0) (c9 au)) (az 3 nd) (ao (GV 1 2 rfl nd (ae (df (bG (qv 3) (qv 1)) (qv 2)) (ae (qv 1) aj))))) (ah (bA (gy hr.units (qv 2) au) (ao (aN (aP (ae au (ae au aj))))) aS) (ah (bA (nz (qv 2) au) (ao (aN (aP (ae (df au (qv 1)) (ae (df au (qv 2)) aj))))) aS) (ao (aN (aP (ae (qv 1) (ae (qv 2) aj))))))))),uf⟩
theorem pY (F:Df K mg "_law_keeping" ft ["_law_steps","_law_width_here"]) (k_law_contrary:Known P w K mg base 1 "_law_contrary" cw) (k_law_times:Known P w K mg base 1 "_law_times" bU):Known P w K mg base 2 "_law_keeping" cK :=
 have nd:=ji.nd;F.known ji n6 fun fa cdv A outer s H E hr=>⟨gV,(ah (aJ 2 nd (aP (ae au (ae au (ae au (ae au aj)))))) (ah (iB PassesOwn.never rfl (qv 0) (az 3 nd) (ao (aJ 2 nd (aQ k_law_times (hr.mono (by decide)) (ae (aQ k_law_times (hr.mono (by decide)) (ae (qv 2) (ae (aP (ae au (ae (qv 3) (ae au (ae au aj))))) aj))) (ae (aP (ae au (ae (c9 au) (ae au (ae au aj))))) aj)))))) (ao (aN (aQ k_law_times (hr.mono (by decide)) (ae (aQ k_law_times (hr.mono (by decide)) (ae (qv 2) (ae (aP (ae au (ae (qv 1) (ae au (ae au aj))))) aj))) (ae (aQ k_law_contrary (hr.mono (by decide)) (ae (qv 2) aj)) aj))))))),oZ⟩
theorem vo (F:Df K mg "_law_said" iz ["_law_table_here","_law_point_here"]) {n:Nm} (TC:Tc K w n) (kx_end_of:iC P w K mg base 5 "end_of" fZ) (kh_law_kind:pQ P w K mg base 1 "_law_kind" eO):Known P w K mg base 6 "_law_said" eT :=
 have nd:=nU.nd;F.known nU t9 fun fa cdv A outer s H E hr=>⟨kS,(ao (C6 2 nd rfl rfl TC.n_FanError TC.n_TooLong TC.kO (FN (c9 au) (yJ kx_end_of (hr.mono (by decide)) (ae (qv 0) (ae (qv 1) aj)))) (fun _=>(ao (aN (aP (ae (DQ kh_law_kind ((hr.mono (by decide)).hand _) (ae (qv 2) aj)) (ae xg aj)))))))),v8⟩
theorem sL (F:Df K mg "_law_width" gO ["_law_table_here","_law_here"]):Known P w K mg base 1 "_law_width" dS :=
 have nd:=lQ.nd;F.known lQ qA fun fa cdv A outer s H E hr=>⟨jy,(ah (aJ 2 nd au) (ah (aJ 3 nd (bt (bt (qv 0) au (fun _ _=>rfl)) (bt (bt (qv 0) au (fun _ _=>rfl)) (qv 1) (fun _ _=>rfl)) (fun _ _=>rfl))) (ah (ik PassesOwn.never (w8 hr.units (qv 3) (qv 1)) (ah (aJ 3 nd (bt (bt (qv 0) au (fun _ _=>rfl)) (bt (bt (qv 0) au (fun _ _=>rfl)) (qv 3) (fun _ _=>rfl)) (fun _ _=>rfl))) (ao (aJ 2 nd (bh (qv 2) au))))) (ao (aN (qv 2)))))),sI⟩
theorem G5 {fa:Addr} {fd:FuncData} (F:og K "law" "law" yo fa fd) (T:Txt mg) (k_law_cell:Known P w K mg base 1 "_law_cell" cU) (k_law_fan:Known P w K mg base 3 "_law_fan" f6) (k_law_keeping:Known P w K mg base 2 "_law_keeping" cK) (k_law_led:Known P w K mg base 1 "_law_led" f7) (k_law_point:Known P w K mg base 1 "_law_point" dX) (k_law_road:Known P w K mg base 3 "_law_road" eU) (k_law_said:Known P w K mg base 6 "_law_said" eT) (k_law_shortest:Known P w K mg base 2 "_law_shortest" cD) (k_law_table:Known P w K mg base 3 "_law_table" dO) (k_law_width:Known P w K mg base 1 "_law_width" dS):mP P w K mg base r9 7 fa fd ["_law_script"] (C3 K (zI 63)) :=
 have nd:=Cv.nd;og.DR F Cv De fun cdv A outer s H E hr=>⟨Ao,(ah (aJ 1 nd (aQ k_law_table (hr.mono (by decide)) (ae (aQ k_law_fan (hr.mono (by decide)) (ae (aQ k_law_cell (hr.mono (by decide)) (ae (qv 0) (ae au aj))) aj)) aj))) (ah (lX PassesOwn.never rfl rfl T.range (ae au aj) (az 2 nd) (ah (aJ 3 nd (aQ k_law_road (hr.mono (by decide)) (ae (aQ k_law_cell (hr.mono (by decide)) (ae (qv 0) (ae (bh au (qv 2)) aj))) aj))) (ah (aJ 4 nd (aQ k_law_point (hr.mono (by decide)) (ae (qv 3) aj))) (ah (aJ 5 nd (cy (ae (aP (ae au (ae xg aj))) aj))) (ah (bA (nz (x4 T.abs (ae (bt (qv 3) au (fun _ _=>rfl)) aj)) au) (ah (aJ 6 nd (aQ k_law_shortest (hr.mono (by decide)) (ae (w4 cG (ae (QF.e (lY (N':=["_law_step"]) (ix:=[]) rfl (cN.of (ak yo) rfl rfl (by decide +kernel) (by decide +kernel) (by decide +kernel) (fun j i h=>by simp at h) rfl) (by decide) rfl rfl (qv 3) (fun C s H fp pins=>gq) (fun C s H fp pins=>(bh (HL (bt (cy (ae cG (ae cG aj))) (jX T.int (ae (JA (qv 0) au) aj)) (fun _ _=>rfl)) (x4 T.abs (ae (qv 0) aj))) cG)))) aj)) aj))) (ah (aJ 7 nd (aQ k_law_width (hr.mono (by decide)) (ae (qv 1) (ae (aQ k_law_led (hr.mono (by decide)) (ae (qv 1) (ae (qv 6) (ae au aj)))) aj)))) (ah (aJ 8 nd (aP (ae (c9 au) (ae (aP (ae (qv 7) (ae (aQ k_law_keeping (hr.mono (by decide)) (ae (qv 3) (ae (qv 7) aj))) aj))) aj)))) (ah (aJ 5 nd (bt (cy (ae (cy (ae (qv 8) aj)) (ae (cy (ae (qv 8) (ae (aP (ae au (ae xg aj))) aj))) aj))) (jX T.int (ae (Hr (nI T.len (ae (qv 6) aj)) au) aj)) (fun _ _=>rfl))) (ao (bA (Be (nI T.len (ae (qv 6) aj)) au) (ao (aJ 5 nd (cy (ae (aP (ae au (ae xg aj))) aj)))) aS)))))) aS) (ao (bA (A3 hr.units (aQ k_law_said (hr.mono (by decide)) (ae (qv 1) (ae (qv 4) aj))) (qv 5)) (ao (aN Jf)) aS))))))) (ao (aN Jf)))),EO⟩
end
theorem all_mk {l:PySem.W.OpenLaw} {w:World} {K:PySem.W.Frag} {h:Heap} {mg:Str→Option Value} {fa:Addr} {c_NoTable:Addr} {c_NoFan:Addr} {c_NoTurning:Addr} {c_NoFraction:Addr} {c_NoText:Addr} {c_NoPaper:Addr} {c_NotIn:Addr} {c_NoRoot:Addr} {c_Open:Addr} {c_Full:Addr} {c_NoName:Addr} {c_NoRow:Addr} {c_TooMany:Addr} {c_TooLong:Addr} {c_FanError:Addr} {a_HALF:Addr} {its_HALF:Array Value} {n_HALF:Nat} {sl_HALF:Array (Option Value)} {a_THIRD:Addr} {its_THIRD:Array Value} {n_THIRD:Nat} {sl_THIRD:Array (Option Value)} {a_NOTHING:Addr} {its_NOTHING:Array Value} {n_NOTHING:Nat} {sl_NOTHING:Array (Option Value)} {a_TOP:Addr} {its_TOP:Array Value} {n_TOP:Nat} {sl_TOP:Array (Option Value)} {t_MOST_LETTERS:Tok} (X:K.In h) (G:h.Ns mainGlobals mg) (hfa:mg "law" = some (.ref fa))
  (D1:bj K "upright" jY)
  (D2:bj K "turning" jQ)
  (D3:bj K "times" oB)
  (D4:bj K "contrary" iI)
  (D5:bj K "led" yz)
  (D6:bj K "letter_turning" cV)
  (D7:bj K "turning_of" fV)
  (D8:bj K "place_behind" et)
  (D10:bj K "round_from" fO)
  (D11:bj K "letter_towards" c7)
  (D12:bj K "word_towards" eh)
  (D13:bj K "end_of" md)
  (D14:bj K "_law_cell" iu)
  (D15:bj K "_law_digits" fM)
  (D16:bj K "_law_mixed" gI)
  (D17:bj K "_law_row" jP)
  (D18:bj K "_law_fractions" dA)
  (D19:bj K "_law_marks" fE)
  (D20:bj K "_law_fan" j3)
  (D21:bj K "_law_tiles" gF)
  (D22:bj K "_law_links" fB)
  (D23:bj K "_law_table" dY)
  (D24:bj K "_law_led" j5)
  (D25:bj K "_law_kind" iy)
  (D26:bj K "_law_times" fC)
  (D27:bj K "_law_contrary" ey)
  (D28:bj K "_law_shortened" dH)
  (D29:bj K "_law_shortest" ei)
  (D30:bj K "_law_road" gn)
  (D31:bj K "_law_point" gK)
  (D32:bj K "_law_keeping" ft)
  (D33:bj K "_law_said" iz)
  (D34:bj K "_law_width" gO)
  (D35:bj K "law" yo)
  (D9:wC K "place_along" fi 0)
  (z0:PySem.W.nsIn K mainGlobals "ValueError" = some none)
  (z1:PySem.W.nsIn K mainGlobals "abs" = some none)
  (z2:PySem.W.nsIn K mainGlobals "enumerate" = some none)
  (z3:PySem.W.nsIn K mainGlobals "int" = some none)
  (z4:PySem.W.nsIn K mainGlobals "isinstance" = some none)
  (z5:PySem.W.nsIn K mainGlobals "len" = some none)
  (z6:PySem.W.nsIn K mainGlobals "list" = some none)
  (z7:PySem.W.nsIn K mainGlobals "range" = some none)
  (z8:PySem.W.nsIn K mainGlobals "tuple" = some none)
  (g_HALF:PySem.W.nsIn K mainGlobals "HALF" = some (some (.ref a_HALF)))
  (l_HALF:K.lookup a_HALF=some ⟨.type "tuple",none,.seq its_HALF n_HALF,sl_HALF⟩)
  (s_HALF:its_HALF.size≤sizeLine)
  (v_HALF:L2.Vals ([0,-1,1,0].map L2.V.int) its_HALF.toList)
  (g_THIRD:PySem.W.nsIn K mainGlobals "THIRD" = some (some (.ref a_THIRD)))
  (l_THIRD:K.lookup a_THIRD=some ⟨.type "tuple",none,.seq its_THIRD n_THIRD,sl_THIRD⟩)
  (s_THIRD:its_THIRD.size≤sizeLine)
  (v_THIRD:L2.Vals ([0,-1,1,-1].map L2.V.int) its_THIRD.toList)
  (g_NOTHING:PySem.W.nsIn K mainGlobals "NOTHING" = some (some (.ref a_NOTHING)))
  (l_NOTHING:K.lookup a_NOTHING=some ⟨.type "tuple",none,.seq its_NOTHING n_NOTHING,sl_NOTHING⟩)
  (s_NOTHING:its_NOTHING.size≤sizeLine)
  (v_NOTHING:L2.Vals ([1,0,0,1].map L2.V.int) its_NOTHING.toList)
  (g_TOP:PySem.W.nsIn K mainGlobals "TOP" = some (some (.ref a_TOP)))
  (l_TOP:K.lookup a_TOP=some ⟨.type "tuple",none,.seq its_TOP n_TOP,sl_TOP⟩)
  (s_TOP:its_TOP.size≤sizeLine)
  (v_TOP:L2.Vals ([1,0].map L2.V.int) its_TOP.toList)
  (g_MOST_LETTERS:PySem.W.nsIn K mainGlobals "MOST_LETTERS" = some (some (.int 2000 t_MOST_LETTERS)))
  (n_NoTable:PySem.W.nsIn K mainGlobals "NoTable" = some (some (.ref c_NoTable)))
  (n_NoFan:PySem.W.nsIn K mainGlobals "NoFan" = some (some (.ref c_NoFan)))
  (n_NoTurning:PySem.W.nsIn K mainGlobals "NoTurning" = some (some (.ref c_NoTurning)))
  (n_NoFraction:PySem.W.nsIn K mainGlobals "NoFraction" = some (some (.ref c_NoFraction)))
  (n_NoText:PySem.W.nsIn K mainGlobals "NoText" = some (some (.ref c_NoText)))
  (n_NoPaper:PySem.W.nsIn K mainGlobals "NoPaper" = some (some (.ref c_NoPaper)))
  (n_NotIn:PySem.W.nsIn K mainGlobals "NotIn" = some (some (.ref c_NotIn)))
  (n_NoRoot:PySem.W.nsIn K mainGlobals "NoRoot" = some (some (.ref c_NoRoot)))
  (n_Open:PySem.W.nsIn K mainGlobals "Open" = some (some (.ref c_Open)))
  (n_Full:PySem.W.nsIn K mainGlobals "Full" = some (some (.ref c_Full)))
  (n_NoName:PySem.W.nsIn K mainGlobals "NoName" = some (some (.ref c_NoName)))
  (n_NoRow:PySem.W.nsIn K mainGlobals "NoRow" = some (some (.ref c_NoRow)))
  (n_TooMany:PySem.W.nsIn K mainGlobals "TooMany" = some (some (.ref c_TooMany)))
  (n_TooLong:PySem.W.nsIn K mainGlobals "TooLong" = some (some (.ref c_TooLong)))
  (n_FanError:PySem.W.nsIn K mainGlobals "FanError" = some (some (.ref c_FanError)))
  (e_TooLong:PySem.W.excIn K c_TooLong [.type "ValueError",.type "Exception",.type "BaseException",.type "object"] "ValueError.__new__" = true)
  (o1_TooLong:PySem.W.findIn K (.ref c_TooLong) "__getattribute__" = some (some (.builtin "BaseException.__getattribute__")))
  (o2_TooLong:PySem.W.findIn K (.ref c_TooLong) "__getattr__" = some none)
  (o3_TooLong:PySem.W.hasDictIn K c_TooLong=true)
  (o4_TooLong:PySem.W.findIn K (.ref c_TooLong) "__class__" = some (some (.builtin "object.__class__")))
  (o5_TooLong:PySem.W.specialIn K (.builtin "object.__class__") "__get__" = some (some (.builtin "getset_descriptor.__get__")))
  (o6_TooLong:PySem.W.takesIn K (.builtin "object.__class__")=some true)
  (o7_TooLong:PySem.W.mroIn K c_TooLong (.type "object")=some true)
  (o8_TooLong:PySem.W.subIn K (.ref c_TooLong) (.type "BaseException")=some true)
  (u1_TooLong_FanError:PySem.W.typeIn K (.ref c_FanError)=some (.type "type"))
  (u2_TooLong_FanError:PySem.W.hasDictIn K c_FanError=true)
  (u3_TooLong_FanError:PySem.W.subIn K (.ref c_FanError) (.type "BaseException")=some true)
  (u4_TooLong_FanError:PySem.W.subIn K (.ref c_TooLong) (.ref c_FanError)=some true)
  (kt0:PySem.W.kitOne K (.ref c_TooLong) (.ref c_NoTable)=some false)
  (kt1:PySem.W.kitOne K (.ref c_TooLong) (.ref c_NoFan)=some false)
  (kt2:PySem.W.kitOne K (.ref c_TooLong) (.ref c_NoTurning)=some false)
  (kt3:PySem.W.kitOne K (.ref c_TooLong) (.ref c_NoFraction)=some false)
  (kt4:PySem.W.kitOne K (.ref c_TooLong) (.ref c_NoText)=some false)
  (kt5:PySem.W.kitOne K (.ref c_TooLong) (.ref c_NoPaper)=some false)
  (kt6:PySem.W.kitOne K (.ref c_TooLong) (.ref c_NotIn)=some false)
  (kt7:PySem.W.kitOne K (.ref c_TooLong) (.ref c_NoRoot)=some false)
  (kt8:PySem.W.kitOne K (.ref c_TooLong) (.ref c_Open)=some false)
  (kt9:PySem.W.kitOne K (.ref c_TooLong) (.ref c_Full)=some false)
  (kt10:PySem.W.kitOne K (.ref c_TooLong) (.ref c_NoName)=some false)
  (kt11:PySem.W.kitOne K (.ref c_TooLong) (.ref c_NoRow)=some false)
  (kt12:PySem.W.kitOne K (.ref c_TooLong) (.ref c_TooMany)=some false)
  (kt13:PySem.W.kitOne K (.ref c_TooLong) (.ref c_TooLong)=some true)
  (kt14:PySem.W.kitOne K (.ref c_TooLong) (.type "ValueError")=some true)
  : ∃fd:FuncData,(∀(s:Shared) (v:Value),BindsTo s fd ⟨[v],[]⟩ [("_law_script",v)])∧∀base:Heap,K.In base→base.Ns mainGlobals mg→mP l.prog w K mg base r9 7 fa fd ["_law_script"] (C3 K (zI 63)):=by
 have T:Txt mg:=⟨PySem.W.mg_none_of X G z0,PySem.W.mg_none_of X G z1,PySem.W.mg_none_of X G z2,PySem.W.mg_none_of X G z3,PySem.W.mg_none_of X G z4,PySem.W.mg_none_of X G z5,PySem.W.mg_none_of X G z6,PySem.W.mg_none_of X G z7,PySem.W.mg_none_of X G z8⟩
 have TC:Tc K w ⟨c_NoTable,c_NoFan,c_NoTurning,c_NoFraction,c_NoText,c_NoPaper,c_NotIn,c_NoRoot,c_Open,c_Full,c_NoName,c_NoRow,c_TooMany,c_TooLong,c_FanError,a_HALF,its_HALF,n_HALF,sl_HALF,a_THIRD,its_THIRD,n_THIRD,sl_THIRD,a_NOTHING,its_NOTHING,n_NOTHING,sl_NOTHING,a_TOP,its_TOP,n_TOP,sl_TOP,t_MOST_LETTERS⟩:=⟨g_HALF,l_HALF,s_HALF,v_HALF,g_THIRD,l_THIRD,s_THIRD,v_THIRD,g_NOTHING,l_NOTHING,s_NOTHING,v_NOTHING,g_TOP,l_TOP,s_TOP,v_TOP,g_MOST_LETTERS,n_NoTable,n_NoFan,n_NoTurning,n_NoFraction,n_NoText,n_NoPaper,n_NotIn,n_NoRoot,n_Open,n_Full,n_NoName,n_NoRow,n_TooMany,n_TooLong,n_FanError,e_TooLong,o1_TooLong,o2_TooLong,o3_TooLong,o4_TooLong,o5_TooLong,o6_TooLong,o7_TooLong,o8_TooLong,u1_TooLong_FanError,u2_TooLong_FanError,u3_TooLong_FanError,u4_TooLong_FanError,kt0,kt1,kt2,kt3,kt4,kt5,kt6,kt7,kt8,kt9,kt10,kt11,kt12,kt13,kt14⟩
 obtain⟨dl,FL,bl⟩:=D35.KG X G hfa fun _ _ _ _ _ _ _=>rfl
 refine⟨dl,bl,fun base _ _=>?_⟩
 have F1:Df K mg _ jY ["p","q"]:=⟨D1.get X G fun _ _ _ _ _ _=>xY fun _ _=>rfl⟩
 have k_upright:=xG (P:=l.prog) (w:=w) (base:=base) F1
 have F2:Df K mg _ jQ ["a","b","c","d"]:=⟨D2.get X G fun _ _ _ _ _ _=>Kr fun _ _ _ _=>rfl⟩
 have k_turning:=xw (P:=l.prog) (w:=w) (base:=base) F2
 have F3:Df K mg _ oB ["one","other"]:=⟨D3.get X G fun _ _ _ _ _ _=>xY fun _ _=>rfl⟩
 have k_times:=Az (P:=l.prog) (w:=w) (base:=base) F3 k_turning
 have F4:Df K mg _ iI ["one"]:=⟨D4.get X G fun _ _ _ _ _ _=>wk fun _=>rfl⟩
 have k_contrary:=uZ (P:=l.prog) (w:=w) (base:=base) F4 k_turning
 have F5:Df K mg _ yz ["one","fraction"]:=⟨D5.get X G fun _ _ _ _ _ _=>xY fun _ _=>rfl⟩
 have k_led:=Gp (P:=l.prog) (w:=w) (base:=base) F5 k_upright
 have F6:Df K mg _ cV ["letter"]:=⟨D6.get X G fun _ _ _ _ _ _=>wk fun _=>rfl⟩
 have k_letter_turning:=l7 (P:=l.prog) (w:=w) (base:=base) F6 TC k_contrary
 have F7:Df K mg _ fV ["word"]:=⟨D7.get X G fun _ _ _ _ _ _=>wk fun _=>rfl⟩
 have k_turning_of:=qN (P:=l.prog) (w:=w) (base:=base) F7 TC k_letter_turning k_times
 have F8:Df K mg _ et ["table","place","letter"]:=⟨D8.get X G fun _ _ _ _ _ _=>Hh fun _ _ _=>rfl⟩
 have k_place_behind:=n5 (P:=l.prog) (w:=w) (base:=base) F8
 have F9:Jp K mg _ fi ["table","word","first"] 0:=⟨D9.get X G fun _ _ _ _ _ _ _ _ _ _ q s us KX hl=>xY (P:=fun us=>BindsTo s _ ⟨us,[]⟩ (List.zip ["table","word","first"] (us ++ _))) (fun _ _=>PySem.W.binds_K KX rfl q rfl rfl rfl) us (by simpa using hl)⟩
 have k_place_along:=p0 (P:=l.prog) (w:=w) (base:=base) F9 k_place_behind
 have F10:Df K mg _ fO ["table","place"]:=⟨D10.get X G fun _ _ _ _ _ _=>xY fun _ _=>rfl⟩
 have k_round_from:=qH (P:=l.prog) (w:=w) (base:=base) F10
 have F11:Df K mg _ c7 ["fraction"]:=⟨D11.get X G fun _ _ _ _ _ _=>wk fun _=>rfl⟩
 have k_letter_towards:=lx (P:=l.prog) (w:=w) (base:=base) F11
 have F12:Df K mg _ eh ["fraction"]:=⟨D12.get X G fun _ _ _ _ _ _=>wk fun _=>rfl⟩
 have kx_word_towards:=nk (P:=l.prog) (w:=w) (base:=base) F12 T TC k_contrary k_led k_letter_towards k_letter_turning
 have F13:Df K mg _ md ["table","fraction"]:=⟨D13.get X G fun _ _ _ _ _ _=>xY fun _ _=>rfl⟩
 have kx_end_of:=xH (P:=l.prog) (w:=w) (base:=base) F13 T k_contrary k_place_along k_round_from k_times k_turning_of kx_word_towards
 have F14:Df K mg _ iu ["_law_script","_law_k"]:=⟨D14.get X G fun _ _ _ _ _ _=>xY fun _ _=>rfl⟩
 have k_law_cell:=vX (P:=l.prog) (w:=w) (base:=base) F14 T
 have F15:Df K mg _ fM ["_law_cell_here","_law_base","_law_many"]:=⟨D15.get X G fun _ _ _ _ _ _=>Hh fun _ _ _=>rfl⟩
 have k_law_digits:=qC (P:=l.prog) (w:=w) (base:=base) F15 T
 have F16:Df K mg _ gI ["_law_cell_here","_law_base","_law_many"]:=⟨D16.get X G fun _ _ _ _ _ _=>Hh fun _ _ _=>rfl⟩
 have k_law_mixed:=sh (P:=l.prog) (w:=w) (base:=base) F16 T
 have F17:Df K mg _ jP ["_law_cell_here","_law_base","_law_many"]:=⟨D17.get X G fun _ _ _ _ _ _=>Hh fun _ _ _=>rfl⟩
 have k_law_row:=wO (P:=l.prog) (w:=w) (base:=base) F17 T k_law_digits k_law_mixed
 have F18:Df K mg _ dA ["_law_many","_law_digits_here"]:=⟨D18.get X G fun _ _ _ _ _ _=>xY fun _ _=>rfl⟩
 have k_law_fractions:=mG (P:=l.prog) (w:=w) (base:=base) F18 T
 have F19:Df K mg _ fE ["_law_many","_law_digits_here"]:=⟨D19.get X G fun _ _ _ _ _ _=>xY fun _ _=>rfl⟩
 have k_law_marks:=sD (P:=l.prog) (w:=w) (base:=base) F19 T
 have F20:Df K mg _ j3 ["_law_cell_here"]:=⟨D20.get X G fun _ _ _ _ _ _=>wk fun _=>rfl⟩
 have k_law_fan:=wF (P:=l.prog) (w:=w) (base:=base) F20 k_law_fractions k_law_marks k_law_row
 have F21:Df K mg _ gF ["_law_fractions_here"]:=⟨D21.get X G fun _ _ _ _ _ _=>wk fun _=>rfl⟩
 have k_law_tiles:=sQ (P:=l.prog) (w:=w) (base:=base) F21 T
 have F22:Df K mg _ fB ["_law_fan_here"]:=⟨D22.get X G fun _ _ _ _ _ _=>wk fun _=>rfl⟩
 have k_law_links:=t7 (P:=l.prog) (w:=w) (base:=base) F22 T k_law_tiles
 have F23:Df K mg _ dY ["_law_fan_here"]:=⟨D23.get X G fun _ _ _ _ _ _=>wk fun _=>rfl⟩
 have k_law_table:=ue (P:=l.prog) (w:=w) (base:=base) F23 T k_law_links
 have F24:Df K mg _ j5 ["_law_table_here","_law_word","_law_place"]:=⟨D24.get X G fun _ _ _ _ _ _=>Hh fun _ _ _=>rfl⟩
 have k_law_led:=wH (P:=l.prog) (w:=w) (base:=base) F24
 have F25:Df K mg _ iy ["_law_e"]:=⟨D25.get X G fun _ _ _ _ _ _=>wk fun _=>rfl⟩
 have kh_law_kind:=tI (P:=l.prog) (w:=w) (base:=base) F25 T TC
 have F26:Df K mg _ fC ["_law_one","_law_other"]:=⟨D26.get X G fun _ _ _ _ _ _=>xY fun _ _=>rfl⟩
 have k_law_times:=tY (P:=l.prog) (w:=w) (base:=base) F26 T
 have F27:Df K mg _ ey ["_law_one"]:=⟨D27.get X G fun _ _ _ _ _ _=>wk fun _=>rfl⟩
 have k_law_contrary:=nW (P:=l.prog) (w:=w) (base:=base) F27
 have F28:Df K mg _ dH ["_law_word"]:=⟨D28.get X G fun _ _ _ _ _ _=>wk fun _=>rfl⟩
 have k_law_shortened:=m4 (P:=l.prog) (w:=w) (base:=base) F28 T
 have F29:Df K mg _ ei ["_law_word"]:=⟨D29.get X G fun _ _ _ _ _ _=>wk fun _=>rfl⟩
 have k_law_shortest:=n9 (P:=l.prog) (w:=w) (base:=base) F29 k_law_shortened
 have F30:Df K mg _ gn ["_law_cell_here"]:=⟨D30.get X G fun _ _ _ _ _ _=>wk fun _=>rfl⟩
 have k_law_road:=uD (P:=l.prog) (w:=w) (base:=base) F30 T k_law_row
 have F31:Df K mg _ gK ["_law_steps"]:=⟨D31.get X G fun _ _ _ _ _ _=>wk fun _=>rfl⟩
 have k_law_point:=tG (P:=l.prog) (w:=w) (base:=base) F31
 have F32:Df K mg _ ft ["_law_steps","_law_width_here"]:=⟨D32.get X G fun _ _ _ _ _ _=>xY fun _ _=>rfl⟩
 have k_law_keeping:=pY (P:=l.prog) (w:=w) (base:=base) F32 k_law_contrary k_law_times
 have F33:Df K mg _ iz ["_law_table_here","_law_point_here"]:=⟨D33.get X G fun _ _ _ _ _ _=>xY fun _ _=>rfl⟩
 have k_law_said:=vo (P:=l.prog) (w:=w) (base:=base) F33 TC kx_end_of kh_law_kind
 have F34:Df K mg _ gO ["_law_table_here","_law_here"]:=⟨D34.get X G fun _ _ _ _ _ _=>xY fun _ _=>rfl⟩
 have k_law_width:=sL (P:=l.prog) (w:=w) (base:=base) F34
 exact G5 FL T k_law_cell k_law_fan k_law_keeping k_law_led k_law_point k_law_road k_law_said k_law_shortest k_law_table k_law_width
end K55
namespace PySem.W.Fast
theorem tw5195006179293489772:True:=trivial
theorem tw6262522422066479512:True:=trivial
theorem tw14970736734905307577:True:=trivial
theorem tw15829058771245630558:True:=trivial
theorem tw5998074035750012696:True:=trivial
theorem tw17410968674197223540:True:=trivial
theorem tw4087277334236095147:True:=trivial
theorem tw14872985209932820346:True:=trivial
theorem tw3115766894841076641:True:=trivial
theorem tw18155003190949188012:True:=trivial
theorem tw9635346762791784622:True:=trivial
theorem tw18150627403446510923:True:=trivial
theorem tw739159218083862277:True:=trivial
theorem tw10662337613135285801:True:=trivial
theorem tw14449829117002654355:True:=trivial
theorem tw2008604625143746242:True:=trivial
theorem tw10505779015201228249:True:=trivial
theorem tw9106451074091041384:True:=trivial
theorem tw2825733323548614097:True:=trivial
theorem tw18031464332497237541:True:=trivial
theorem tw16575309466087344525:True:=trivial
theorem tw12770653465655851080:True:=trivial
theorem tw7287300535517749002:True:=trivial
theorem tw2752137153941520528:True:=trivial
theorem tw14378291542692548629:True:=trivial
theorem tw482792752678085267:True:=trivial
theorem tw15389246687600565202:True:=trivial
theorem tw11041185834195059578:True:=trivial
theorem tw5014876185706115707:True:=trivial
theorem tw4676256181148186726:True:=trivial
theorem tw5369370620425245508:True:=trivial
theorem tw3843609816203234519:True:=trivial
theorem tw1557670757752874369:True:=trivial
theorem tw16473691464774467567:True:=trivial
theorem tw1692396789615328583:True:=trivial
theorem tw3206178703374047178:True:=trivial
theorem tw16346136029562450335:True:=trivial
theorem tw15829633246134893961:True:=trivial
theorem tw216953972119192912:True:=trivial
theorem tw16425262018463265940:True:=trivial
theorem tw4082778398057140969:True:=trivial
theorem tw17578821419286654955:True:=trivial
theorem tw9209665468463481983:True:=trivial
theorem tw14663591326410267525:True:=trivial
theorem tw8982273047130158532:True:=trivial
theorem tw6055475380298225177:True:=trivial
theorem tw217621855910045609:True:=trivial
theorem tw984898165924304445:True:=trivial
theorem tw3501608834990550360:True:=trivial
theorem tw1715808001052746000:True:=trivial
theorem tw18446163466476601050:True:=trivial
theorem tw10637404396792219910:True:=trivial
theorem tw13771009946617173313:True:=trivial
theorem tw16472029999496958866:True:=trivial
theorem tw511080231158903264:True:=trivial
theorem tw9515732778724964597:True:=trivial
theorem tw8261543679920943652:True:=trivial
theorem tw7646323237374779633:True:=trivial
theorem tw9527211188378846874:True:=trivial
theorem tw7927193222558970673:True:=trivial
theorem tw1291203045517183852:True:=trivial
theorem tw13891240247968199652:True:=trivial
theorem tw15086712085917285631:True:=trivial
theorem tw4566852936621480809:True:=trivial
theorem tw14744500958278527908:True:=trivial
theorem tw4197663661511516188:True:=trivial
theorem tw4801801441197221273:True:=trivial
theorem tw17257981428361581975:True:=trivial
theorem tw6080392983543845708:True:=trivial
theorem tw17270982390887102869:True:=trivial
theorem tw18309444383354019562:True:=trivial
theorem tw4971588456097076807:True:=trivial
theorem tw6374117913330805673:True:=trivial
theorem tw2540268634210316774:True:=trivial
theorem tw7658681477411256948:True:=trivial
theorem tw3047387536303998736:True:=trivial
theorem tw4157882927443878762:True:=trivial
theorem tw10291570452739378091:True:=trivial
theorem tw5007036393071053380:True:=trivial
theorem tw17459994495975345605:True:=trivial
theorem tw11433732641465059242:True:=trivial
theorem tw16406098862587940053:True:=trivial
theorem tw17761920287013483853:True:=trivial
theorem tw3753636376216914349:True:=trivial
theorem tw12530786934570462936:True:=trivial
theorem tw5455159101676044089:True:=trivial
theorem tw7852212657821919204:True:=trivial
theorem tw14806125739497924748:True:=trivial
theorem tw8791354256918534293:True:=trivial
theorem tw10635909491781147897:True:=trivial
theorem tw10660638921937376782:True:=trivial
theorem tw13826006011421673343:True:=trivial
theorem tw18408452879079921893:True:=trivial
theorem tw10128466517183522763:True:=trivial
theorem tw195125019688518123:True:=trivial
theorem tw5293109811639260140:True:=trivial
theorem tw7308022541286743423:True:=trivial
theorem tw4808380981497504380:True:=trivial
theorem tw7876880036825360104:True:=trivial
theorem tw11408929633674504285:True:=trivial
theorem tw7915810947518946568:True:=trivial
theorem tw2029473879343800041:True:=trivial
theorem tw17234050865394928060:True:=trivial
theorem tw1344057022098223033:True:=trivial
theorem tw2501157161577667852:True:=trivial
theorem tw5444008176342616669:True:=trivial
theorem tw5510427416500851437:True:=trivial
theorem tw8602792773085845628:True:=trivial
theorem tw15613432136010339409:True:=trivial
theorem tw5850917901504981712:True:=trivial
theorem tw15075351413198801111:True:=trivial
theorem tw16413467255162424899:True:=trivial
theorem tw17455127202480565646:True:=trivial
theorem tw11599946982329525166:True:=trivial
theorem tw5332996601304616034:True:=trivial
theorem tw8819023355233054303:True:=trivial
theorem tw697722558918835043:True:=trivial
theorem tw3088083593105447413:True:=trivial
theorem tw6017803703962372933:True:=trivial
theorem tw11856803674913935049:True:=trivial
theorem tw17358826261366230934:True:=trivial
theorem tw11585407993399968112:True:=trivial
end PySem.W.Fast
open PySem PySem.W PyProof.Rows
set_option maxRecDepth 100000 in
set_option maxHeartbeats 0 in
theorem PySem.Challenge.cw_fanglue_k59_ends_too_far_holds : PySem.Challenge.rw_fanglue_k59_ends_too_far.Holds := by
 w_on;o_law;k_head;(case hw=>w_witness2)
 k_fill
 refine L2.DC (l:=PySem.Challenge.rw_fanglue_k59_ends_too_far) (n:=63) (k:=7) (x:="_law_script") (CX:=fun _=>L2.r9) (sp:=fun w=>L2.L3.C3 _ (L2.L3.zI 63)) rfl (by decide) rfl ⟨rfl,by decide,by decide⟩ (fun w h Y=>PySem.W.kIn_of Y) ?F (fun _ _ a ns hl _ hS=>L2.L3.FI hl hS) (fun _ _ _ _ _ z=>z)
 case F =>
  intro w mg fa h KX G hmg
  refine' K55.all_mk KX G hmg ?_ ?_ ?_ ?_ ?_ ?_ ?_ ?_ ?_ ?_ ?_ ?_ ?_ ?_ ?_ ?_ ?_ ?_ ?_ ?_ ?_ ?_ ?_ ?_ ?_ ?_ ?_ ?_ ?_ ?_ ?_ ?_ ?_ ?_ ?_ ?_ ?_ ?_ ?_ ?_ ?_ ?_ ?_ ?_ ?_ ?_ ?_ ?_ ?_ ?_ ?_ ?_ ?_ ?_ ?_ ?_ ?_ ?_ ?_ ?_ ?_ ?_ ?_ ?_ ?_ ?_ ?_ ?_ ?_ ?_ ?_ ?_ ?_ ?_ ?_ ?_ ?_ ?_ ?_ ?_ ?_ ?_ ?_ ?_ ?_ ?_ ?_ ?_ ?_ ?_ ?_ ?_ ?_ ?_ ?_ ?_ ?_ ?_ ?_ ?_ ?_ ?_ ?_ ?_
  rotate_left 32
  iterate 34 exact⟨⟨_,_,_,_,_,_,_,_,_,_,by k_is,by k_is,by k_is,by k_is⟩⟩
  exact⟨⟨_,_,_,_,_,_,_,_,_,_,_,_,_,_,by k_is,by k_is,by k_is,by k_is,by k_is⟩⟩
  iterate 9 k_is
  iterate 2 (k_is)
  exact (by first | decide | simp [PySem.sizeLine_eq])
  exact (.cons ⟨_,rfl⟩ (.cons ⟨_,rfl⟩ (.cons ⟨_,rfl⟩ (.cons ⟨_,rfl⟩ .nil))))
  iterate 2 (k_is)
  exact (by first | decide | simp [PySem.sizeLine_eq])
  exact (.cons ⟨_,rfl⟩ (.cons ⟨_,rfl⟩ (.cons ⟨_,rfl⟩ (.cons ⟨_,rfl⟩ .nil))))
  iterate 2 (k_is)
  exact (by first | decide | simp [PySem.sizeLine_eq])
  exact (.cons ⟨_,rfl⟩ (.cons ⟨_,rfl⟩ (.cons ⟨_,rfl⟩ (.cons ⟨_,rfl⟩ .nil))))
  iterate 2 (k_is)
  exact (by first | decide | simp [PySem.sizeLine_eq])
  exact (.cons ⟨_,rfl⟩ (.cons ⟨_,rfl⟩ .nil))
  iterate 16 (k_is)
  k_exc
  iterate 12 (k_is)
  iterate 15 (kit_is)
