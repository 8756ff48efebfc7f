import PyProof.Rows.All
import Wide.All
import OpenK.AllK
import Wide.FinOn
import Lean
import PyProof.EqAt
import PyProof.EqKinds
import PyProof.TupleCall
import PyProof.NeKinds
import PyProof.CompFree
import KE.KIsAll
import OpenK.KOwn
import PyProof.RulesAs
import KE.RegKIsAll
import PyProof.ExcAttrAll.ValueError
import KE.KUnpack
import PyProof.Rows.StrWeight2
import PyProof.StrBlockI
import OpenK.KTop
import PyProof.ListStr
import PyProof.EnumMake
import PyProof.TupleIter
import PyProof.ListRange
import PyProof.PassesOwn
import PyProof.ExcInit
import PyProof.InstStoreFacts
import PyProof.DictFindH
import PyProof.DictIter
import PyProof.DictWalks
import PyProof.DictCompW
import PyProof.DictUpdate
import PyProof.SumWalk
import PyProof.ZipIter
import PySem.Challenge.RW_fanglue_k26_tables_of_fans
set_option Elab.async false
set_option linter.all false
set_option maxRecDepth 100000
section
open PySem PySem.Spec PyProof.Rows
abbrev Mi := @List.getElem?_eq_some_iff
abbrev Mj := @wpAny_bind
abbrev Ml := @List.getElem?_set_ne
abbrev Mm := @List.getElem?_eq_getElem
abbrev Mn := @PySem.W.Frag
abbrev Mo := @if_neg
abbrev Mp := @wpAny_pure
abbrev Mq := @Option.some.inj
abbrev Mr := @Bool.false_eq_true
abbrev Ms := @List.getElem?_map
abbrev Mu := @List.mem_of_getElem?
abbrev Mv := @Nat.le_refl
abbrev Mw := @if_pos
abbrev Mx := @List.getElem?_set_self
abbrev My := @List.length_map
abbrev Mz := @Heap.get?_push_of_some
abbrev MA := @List.mem_cons
abbrev MB := @List.mem_cons_of_mem
abbrev MC := @List.getElem?_append_left
abbrev ME := @Nat.lt_of_lt_of_le
abbrev MF := @List.getElem?_append_right
abbrev MG := @List.mem_singleton
abbrev MH := @List.size_toArray
abbrev MI := @List.getElem?_eq_none
abbrev MJ := @List.getElem?_of_mem
abbrev MK := @PySem.sizeLine_eq
abbrev ML := @Heap.lt_size
abbrev MM := @Heap.get?_push_size
abbrev MN := @List.not_mem_nil
abbrev MO := @List.mem_cons_self
abbrev MP := @List.map_cons
abbrev MQ := @List.length_cons
abbrev MR := @List.mem_append
abbrev MS := @List.getElem?_cons_succ
abbrev MT := @List.mem_map
abbrev MU := @decide_eq_true_eq
abbrev MV := @List.getElem?_cons_zero
abbrev MW := @List.length_append
abbrev MX := @List.mem_append_right
abbrev MY := @Nat.ne_of_lt
abbrev MZ := @List.getElem?_range
abbrev M0 := @congrArg
abbrev M3 := @foldedSetIterable
abbrev M5 := @List.nodup_cons
abbrev M6 := @PassesOwn.never
abbrev M7 := @beq_eq_false_iff_ne
abbrev M8 := @List.getElem?_replicate
abbrev M9 := @Nat.lt_succ_iff_lt_or_eq
abbrev Na := @List.getElem_mem
abbrev Nb := @wpAny_callSpecial?_slot
abbrev Nc := @Nat.zero_le
abbrev Nd := @wpAny_mono
abbrev Nf := @List.append_nil
abbrev Ng := @List.drop_eq_nil_of_le
abbrev Nh := @Option.map_eq_some_iff
abbrev Ni := @Nat.le_trans
abbrev Nj := @List.length_nil
abbrev Nk := @Prod.ext
abbrev Nl := @Array.getElem?_toList
abbrev Nn := @Nat.lt_or_ge
abbrev Np := @List.mem_append_left
abbrev Nq := @List.mem_range
abbrev Nr := @Nat.not_lt_zero
abbrev Nt := @List.getD_eq_getElem?_getD
abbrev Nu := @List.nodup_append
abbrev Nv := @Int.toNat_of_nonneg
abbrev Nw := @Nat.mul_le_mul_right
abbrev Nx := @Nat.lt_of_le_of_lt
abbrev Ny := @Int.mul_neg
abbrev Nz := @PySem.W.mg_of
end
namespace L2
open PySem PySem.Spec PyProof.Rows
abbrev Key:=Sum Int Str
def Ak:Key→Value→Bool
 | .inl k,v=>Value.isInt k v
 | .inr x,v=>Value.isStrOf x v
def LL (w:World):Key→Int
 | .inl k=>hashInt k
 | .inr x=>hashStr w x
theorem cK:∀{k:Key} {v:Value},Ak k v=true→(∃i t,k=Sum.inl i∧v=Value.int i t)∨(∃x t,k=Sum.inr x∧v=Value.str x t)
 | .inl i,v,h=>by
  obtain⟨t,e⟩:=Value.isInt_shape (k:=i) (v:=v) h
  exact .inl ⟨i,t,rfl,e⟩
 | .inr x,v,h=>by
  obtain⟨t,e⟩:=Value.isStrOf_shape (x:=x) (v:=v) h;exact .inr ⟨x,t,rfl,e⟩
theorem Bv (i:Int) (t:Tok):Ak (.inl i) (.int i t)=true:=by simp [Ak,Value.isInt]
theorem GF (a b:Int):decide ((Sum.inl a:Key)=Sum.inl b)=(a == b):=by
 by_cases e:a=b
 ·subst e;simp
 ·have h:¬ (Sum.inl a:Key)=Sum.inl b:=fun q=>e (Sum.inl.inj q);rw [decide_eq_false h];exact (M7.mpr e).symm
theorem G0 (a b:Str):decide ((Sum.inr a:Key)=Sum.inr b)=decide (a=b):=by
 by_cases e:a=b
 ·subst e;simp
 ·have h:¬ (Sum.inr a:Key)=Sum.inr b:=fun q=>e (Sum.inr.inj q);rw [decide_eq_false h,decide_eq_false e]
theorem HF (a:Int) (b:Str):decide ((Sum.inl a:Key)=Sum.inr b)=false:=decide_eq_false (fun q=>nomatch q)
theorem HD (a:Str) (b:Int):decide ((Sum.inr a:Key)=Sum.inl b)=false:=decide_eq_false (fun q=>nomatch q)
def qx (prog:Program) (w:World):PySem.KeyKind prog w Key where
 is:=Ak
 hash:=LL w
 inj:=fun v a b ha hb=>by
  rcases cK ha with ⟨i,t,rfl,rfl⟩ | ⟨x,t,rfl,rfl⟩
  ·rcases cK hb with ⟨j,u,rfl,e⟩ | ⟨y,u,rfl,e⟩
   ·injection e with e1 _;rw [e1]
   ·exact nomatch e
  ·rcases cK hb with ⟨j,u,rfl,e⟩ | ⟨y,u,rfl,e⟩
   ·exact nomatch e
   ·injection e with e1 _;rw [e1]
 byValue:=fun k v h=>by
  rcases cK h with ⟨i,t,rfl,rfl⟩ | ⟨x,t,rfl,rfl⟩ <;> rfl
 pyHash:=fun hv h=>by
  rcases cK hv with ⟨i,t,rfl,rfl⟩ | ⟨x,t,rfl,rfl⟩
  ·exact wpAny_pyHash_int h
  ·exact wpAny_pyHash_str h
 eqBool:=fun hu hv h=>by
  rcases cK hu with ⟨i,t,rfl,rfl⟩ | ⟨x,t,rfl,rfl⟩
  ·rcases cK hv with ⟨j,u,rfl,rfl⟩ | ⟨y,u,rfl,rfl⟩
   ·rw [GF] at h;exact wpAny_eqBool_int h
   ·rw [HF] at h;exact SeqAt.EqAt.int_str i t y u _ _ _ _ h
  ·rcases cK hv with ⟨j,u,rfl,rfl⟩ | ⟨y,u,rfl,rfl⟩
   ·rw [HD] at h;exact SeqAt.EqAt.str_int x t j u _ _ _ _ h
   ·rw [G0] at h;exact wpAny_eqBool_str h
 «strs»:=fun k x t v h=>by
  rcases cK h with ⟨i,u,rfl,e⟩ | ⟨y,u,rfl,e⟩
  ·exact nomatch e
  ·injection e with e1 _
   subst e1;cases v <;> rfl
inductive V where
 | non | bl (b:Bool) | int (i:Int) | str (x:Str) | byt (b:Array UInt8) | flt (b:UInt64) | ref (a:Addr) | ty (n:String)
 deriving DecidableEq
def RelV:V→Value→Prop
 | .non,u=>u=Value.none
 | .bl b,u=>u=Value.bool b
 | .int i,u=>∃t,u=Value.int i t
 | .str x,u=>∃t,u=Value.str x t
 | .byt b,u=>∃t,u=Value.bytes b t
 | .flt b,u=>∃t,u=Value.float b t
 | .ref a,u=>u=Value.ref a
 | .ty n,u=>u=Value.type n
abbrev Vals:List V→List Value→Prop:=Paired RelV
theorem Vals.length {xs:List V} {us:List Value} (r:Vals xs us):xs.length=us.length:=Paired.length r
theorem Vals.get:∀{xs:List V} {us:List Value} {i:Nat} {x:V},Vals xs us→xs[i]?=some x→∃u,us[i]?=some u∧RelV x u
 | _,_,_,_,.nil,e=>by simp at e
 | _,_,0,_,.cons r _,e=>by simp at e;subst e;exact⟨_,rfl,r⟩
 | _,_,i + 1,x,.cons _ t,e=>by
  obtain⟨u,h1,h2⟩:=Vals.get (i:=i) (x:=x) t (by simpa using e);exact⟨u,by simpa using h1,h2⟩
theorem Vals.set {x:V} {u:Value} (r:RelV x u):∀{xs:List V} {us:List Value} (i:Nat),Vals xs us→Vals (xs.set i x) (us.set i u)
 | _,_,_,.nil=>.nil
 | _,_,0,.cons _ t=>.cons r t
 | _,_,i + 1,.cons q t=>.cons q (Vals.set r i t)
theorem Vals.append:∀{xs ys:List V} {us ws:List Value},Vals xs us→Vals ys ws→Vals (xs ++ ys) (us ++ ws)
 | _,_,_,_,.nil,s=>s
 | _,_,_,_,.cons r t,s=>.cons r (Vals.append t s)
theorem Vals.take:∀{xs:List V} {us:List Value} (n:Nat),Vals xs us→Vals (xs.take n) (us.take n)
 | _,_,0,_=>.nil
 | _,_,_ + 1,.nil=>.nil
 | _,_,n + 1,.cons r t=>.cons r (Vals.take n t)
theorem Vals.drop:∀{xs:List V} {us:List Value} (n:Nat),Vals xs us→Vals (xs.drop n) (us.drop n)
 | _,_,0,r=>r
 | _,_,_ + 1,.nil=>.nil
 | _,_,n + 1,.cons _ t=>Vals.drop n t
def tq:Option V→Option Value→Prop
 | some v,some u=>RelV v u
 | none,none=>True
 | _,_=>False
def KV {κ:Type}:List (κ×V)→List (κ×Value)→Prop:=Paired fun (p:κ×V) (q:κ×Value)=>p.1=q.1∧RelV p.2 q.2
def kV:Key→V
 | .inl i=>.int i
 | .inr x=>.str x
inductive HO where
 | lst (xs:List V)
 | tup (xs:List V)
 | dK (kvs:List (Key×V)) | dT (kvs:List (List Key×V))
 | set (S:Int→Bool) (n:Nat)
 | ins (C dx:Addr) (fs:List (Str×V))
 | own (x:Addr)
 | xd (fs:List (Str×V))
 | met (f x:Addr)
 | rng (lo hi:Int)
 | frz (o:Obj) (u:HO)
 | AA (ps:Array Value)
 | ext (φ:Heap→Prop)
abbrev Hp:=Addr→Option HO
def upd (H:Hp) (a:Addr) (o:HO):Hp:=fun b=>if b=a then some o else H b
theorem au {H:Hp} {a:Addr} {o:HO}:upd H a o a=some o:=by unfold upd;rw [Mw rfl]
theorem aq {H:Hp} {a b:Addr} {o:HO} (h:b≠a):upd H a o b=H b:=by unfold upd;rw [Mo h]
theorem fH {H:Hp} {a b:Addr} {o:HO} (h:H a=some o) (h':H b=none):a≠b:=by
 intro e;subst e;rw [h] at h';cases h'
def uO (h:Heap) (a:Addr) (its:Array Value):Prop:=∃o,h.get? a=some o∧o.cls=.type "tuple"∧(∃n,o.data=.seq its n)∧o.dict=none
theorem uO.tup {h:Heap} {a:Addr} {its:Array Value} (x:uO h a its):IsTup h a its:=let ⟨o,e,c,d,_⟩:=x;⟨o,e,c,d⟩
theorem uO.new (h:Heap) (its:Array Value):uO (h.push { cls:=.type "tuple",data:=.seq its }) h.objs.size its:=⟨_,MM _ rfl,rfl,⟨_,rfl⟩,rfl⟩
section
variable (P:Program) (w:World)
def c6 (H:Hp) (h:Heap) (a:Addr):HO→Prop
 | .lst xs=>xs.length≤sizeLine∧∃(its:List Value) (n:Nat),Vals xs its∧h.get? a=some { cls:=.type "list",data:=.seq its.toArray n }
 | .tup xs=>xs.length≤sizeLine∧∃its:List Value,Vals xs its∧uO h a its.toArray
 | .dK kvs=>kvs.length≤sizeLine∧(a == sysModules)=false∧∃vs,KV kvs vs∧h.DictOf (qx P w) a vs
 | .dT kvs=>kvs.length≤sizeLine∧(a == sysModules)=false∧∃xs:List (List Key×Addr×Value),
   Paired (fun (p:List Key×V) (q:List Key×Addr×Value)=>p.1=q.1∧H q.2.1=some (.tup (p.1.map kV))∧RelV p.2 q.2.2) kvs xs ∧
   ∃o es ep,h.get? a=some o∧o.ExactDict∧o.data=.dict es ep∧es.toList=xs.map (entryOfKey (tupleKind (qx P w)))∧(xs.map (·.1)).Nodup
 | .set S n=>h.SetOf (intKind P w) a S n
 | .ins C dx fs=>H dx=some (.own a)∧fs.length≤1000∧dx≠a∧h.get? a=some (PySem.W.instObj C dx) ∧
   ∃mA,h.Ns1 dx mA∧(∀f,tq (fs.lookup f) (mA f))∧PySem.Within mA (fs.map (·.1))
 | .own _=>∃o,h.get? a=some o
 | .xd fs=>∃mA,h.Ns1 a mA∧∀f,tq (fs.lookup f) (mA f)
 | .rng lo hi=>∃t u v,h.get? a=some { cls:=.type "range",data:=.fields #[.int lo t,.int hi u,.int 1 v] }
 | .frz o u=>h.get? a=some o∧c6 H h a u
 | .AA ps=>h.get? a=some { cls:=.none,data:=.fields ps }
 | .met f x=>h.get? a=some (PySem.W.methodObj (.ref f) (.ref x))
 | .ext φ=>φ h∧(∃o,h.get? a=some o)∧∀h1 h2:Heap,φ h1→(∀o,h1.get? a=some o→h2.get? a=some o)→φ h2
def qA (H:Hp) (h:Heap):Prop:=∀a o,H a=some o→c6 P w H h a o
end
section
variable {P:Program} {w:World} {H H':Hp} {h h':Heap} {a:Addr} {o:HO}
theorem c6.lt (x:c6 P w H h a o):a < h.objs.size:=by
 cases o with
 | lst xs=>obtain⟨_,_,_,_,e⟩:=x;exact ML e
 | tup xs=>obtain⟨_,_,_,p⟩:=x;exact p.tup.lt
 | dK kvs=>obtain⟨_,_,_,_,o,_,_,e,_⟩:=x;exact ML e
 | dT kvs=>obtain⟨_,_,_,_,o,_,_,e,_⟩:=x;exact ML e
 | set S n=>obtain⟨o,_,_,_,e,_⟩:=x;exact ML e
 | ins C dx fs=>obtain⟨_,_,_,e,_⟩:=x;exact ML e
 | own y=>obtain⟨_,e⟩:=x;exact ML e
 | xd fs=>obtain⟨_,⟨_,_,_,e,_⟩,_⟩:=x;exact ML e
 | rng lo hi=>obtain⟨_,_,_,e⟩:=x;exact ML e
 | frz ob u=>obtain⟨e,_⟩:=x;exact ML e
 | AA ps=>exact ML (show h.get? a=some _ from x)
 | met f y=>exact ML (show h.get? a=some _ from x)
 | ext φ=>obtain⟨_,⟨_,e⟩,_⟩:=x;exact ML e
theorem Paired.Kh {α β:Type} {F G:α→β→Prop}:∀{l₁:List α} {l₂:List β},Paired F l₁ l₂→(∀a b,F a b→G a b)→Paired G l₁ l₂
 | _,_,.nil,_=>.nil
 | _,_,.cons r t,f=>.cons (f _ _ r) (Paired.Kh t f)
theorem c6.yn (x:c6 P w H h a o) (k:∀b u,(b=a∨H b=some (.own a))→h.get? b=some u→h'.get? b=some u)
  (ho:∀b,H b=some (.own a)→H' b=some (.own a)) (ht:∀b xs,H b=some (.tup xs)→H' b=some (.tup xs)):c6 P w H' h' a o:=by
 induction o with
 | lst xs=>obtain⟨z,its,n,r,e⟩:=x;exact⟨z,its,n,r,k _ _ (.inl rfl) e⟩
 | tup xs=>obtain⟨z,its,r,ob,e,c⟩:=x;exact⟨z,its,r,ob,k _ _ (.inl rfl) e,c⟩
 | dK kvs=>obtain⟨z,y,vs,r,ob,es,ep,e,c⟩:=x;exact⟨z,y,vs,r,ob,es,ep,k _ _ (.inl rfl) e,c⟩
 | dT kvs =>
  obtain⟨z,y,xs,r,ob,es,ep,e,c⟩:=x
  exact⟨z,y,xs,Paired.Kh r fun p q z=>⟨z.1,ht _ _ z.2.1,z.2.2⟩,ob,es,ep,k _ _ (.inl rfl) e,c⟩
 | set S n=>obtain⟨ob,es,ep,t,e,c⟩:=x;exact⟨ob,es,ep,t,k _ _ (.inl rfl) e,c⟩
 | ins C dx fs =>
  obtain⟨d,z,ne,e,mA,⟨od,es,ep,e2,c⟩,r⟩:=x
  exact⟨ho _ d,z,ne,k _ _ (.inl rfl) e,mA,⟨od,es,ep,k _ _ (.inr d) e2,c⟩,r⟩
 | own y=>obtain⟨ob,e⟩:=x;exact⟨ob,k _ _ (.inl rfl) e⟩
 | xd fs=>obtain⟨mA,⟨od,es,ep,e,c⟩,r⟩:=x;exact⟨mA,⟨od,es,ep,k _ _ (.inl rfl) e,c⟩,r⟩
 | rng lo hi=>obtain⟨t,u,v,e⟩:=x;exact⟨t,u,v,k _ _ (.inl rfl) e⟩
 | frz ob u ih=>obtain⟨e,q⟩:=x;exact⟨k _ _ (.inl rfl) e,ih q⟩
 | AA ps =>
  have e:h.get? a=some { cls:=.none,data:=.fields ps }:=x;show h'.get? a=some { cls:=.none,data:=.fields ps }
  exact k a _ (.inl rfl) e
 | met f y =>
  have e:h.get? a=some (PySem.W.methodObj (.ref f) (.ref y)):=x;show h'.get? a=some (PySem.W.methodObj (.ref f) (.ref y))
  exact k a _ (.inl rfl) e
 | ext φ=>obtain⟨p,⟨o,e⟩,st⟩:=x;exact⟨st _ _ p fun o q=>k _ _ (.inl rfl) q,⟨o,k _ _ (.inl rfl) e⟩,st⟩
theorem qA.lt (x:qA P w H h) (e:H a=some o):a < h.objs.size:=(x a o e).lt
theorem qA.fresh (x:qA P w H h) (e:h.objs.size≤a):H a=none:=by
 cases q:H a with
 | none=>rfl
 | some u=>exact absurd (ME (x.lt q) e) (Nat.lt_irrefl _)
theorem qA.kept (x:qA P w H h) (k:∀b u,h.get? b=some u→h'.get? b=some u):qA P w H h':=fun a o e =>
 (x a o e).yn (fun b u _ q=>k b u q) (fun _ q=>q) fun _ _ q=>q
theorem qA.laid (x:qA P w H h) (k:∀b u,h.get? b=some u→h'.get? b=some u) (hp:h.objs.size≤a) (new:c6 P w (upd H a o) h' a o):qA P w (upd H a o) h':=fun b u e=>by
 have hn:=x.fresh hp
 by_cases hb:b=a
 ·subst hb;rw [au] at e;cases e;exact new
 ·rw [aq hb] at e;exact (x b u e).yn (fun c v _ q=>k c v q) (fun c q=>by rw [aq (fH q hn)];exact q) fun c xs q=>by rw [aq (fH q hn)];exact q
end
def Rd (H:Hp) (a:Addr) (u:HO):Prop:=H a=some u∨∃o,H a=some (.frz o u)
theorem Rd.ok {P:Program} {w:World} {H:Hp} {h:Heap} {a:Addr} {u:HO} (r:Rd H a u) (x:qA P w H h):c6 P w H h a u:=by
 rcases r with r | ⟨o,r⟩
 ·exact x a u r
 ·obtain⟨_,q⟩:=x a _ r;exact q
def JN:Option HO→Prop
 | some (.lst _)=>True
 | some (.dK _)=>True
 | some (.dT _)=>True
 | some (.set _ _)=>True
 | some (.ins _ _ _)=>True
 | some (.ext _)=>True
 | _=>False
section
variable {P:Program} {w:World} {H:Hp} {h h':Heap} {x e:Addr} {o':HO}
theorem qA.write (ok:qA P w H h) (mu:JN (H x)) (he:e=x∨H e=some (.own x)) (k:∀b u,b≠e→h.get? b=some u→h'.get? b=some u) (heo:∃u,h'.get? e=some u)
  (new:c6 P w (upd H x o') h' x o'):qA P w (upd H x o') h':=fun b u q=>by
 have nown:∀c y,H c=some (.own y)→c≠x:=fun c y r z=>by subst z;rw [r] at mu;exact mu
 have ntup:∀c xs,H c=some (.tup xs)→c≠x:=fun c xs r z=>by subst z;rw [r] at mu;exact mu
 by_cases hb:b=x
 ·subst hb;rw [au] at q;cases q;exact new
 ·rw [aq hb] at q
  by_cases hbe:b=e
  ·have q':H b=some (.own x):=by
    rcases he with z | z
    ·exact absurd (hbe.trans z) hb
    ·rw [hbe];exact z
   rw [q] at q';cases q';obtain⟨v,hv⟩:=heo;exact⟨v,by rw [hbe];exact hv⟩
  ·refine (ok b u q).yn (fun c v hc r=>k c v ?_ r) (fun c r=>by rw [aq (nown c b r)];exact r) fun c xs r=>by rw [aq (ntup c xs r)];exact r
   rcases hc with rfl | hc
   ·exact hbe
   ·rintro rfl;rcases he with z | z
    ·exact nown c b hc z
    ·rw [hc] at z;cases z;exact hb rfl
end
structure Un (fs ex:List Addr) (H H':Hp) (h h':Heap):Prop where
 keep:∀b o,h.get? b=some o→H b=none→b∉fs→b∉ex→h'.get? b=some o
 slot:∀b o,h.get? b=some o→H b=none→b∈fs→b∉ex→∃sl,h'.get? b=some { o with slots:=sl }
 free:∀b o,h.get? b=some o→H b=none→b∉ex→H' b=none
 there:∀b o,h.get? b=some o→b∉ex→∃o',h'.get? b=some o'
 tups:∀b xs,H b=some (.tup xs)→H' b=some (.tup xs)
 frzs:∀b o u,H b=some (.frz o u)→H' b=some (.frz o u)
 tbls:∀b ps,H b=some (.AA ps)→∃more,H' b=some (.AA (ps ++ more))
section
variable {fs fs' ex ex':List Addr} {H H1 H2:Hp} {h h1 h2 h':Heap} {a x e:Addr} {o:HO}
theorem Un.any (u:Un fs ex H H1 h h1) {b:Addr} {ob:Obj} (q:h.get? b=some ob) (n:H b=none) (hx:b∉ex):∃sl,h1.get? b=some { ob with slots:=sl }:=by
 by_cases hb:b∈fs
 ·exact u.slot b ob q n hb hx
 ·exact⟨ob.slots,u.keep b ob q n hb hx⟩
theorem Un.kept (k:∀b u,h.get? b=some u→h'.get? b=some u):Un fs ex H H h h' :=
 ⟨fun b ob q _ _ _=>k b ob q,fun b ob q _ _ _=>⟨ob.slots,k b ob q⟩,fun _ _ _ n _=>n,fun b ob q _=>⟨ob,k b ob q⟩,fun _ _ q=>q,fun _ _ _ q=>q,fun _ ps q=>⟨#[],by rw [q];simp⟩⟩
theorem Un.refl:Un fs ex H H h h:=Un.kept fun _ _ q=>q
theorem Un.laid (k:∀b u,h.get? b=some u→h'.get? b=some u) (hp:h.objs.size≤a) (hn:H a=none):Un fs ex H (upd H a o) h h' where
 keep:=fun b u q _ _ _=>k b u q
 slot:=fun b u q _ _ _=>⟨u.slots,k b u q⟩
 free:=fun b u q n _=>by rw [aq (MY (ME (ML q) hp))];exact n
 there:=fun b u q _=>⟨u,k b u q⟩
 tups:=fun b xs q=>by rw [aq (fH q hn)];exact q
 frzs:=fun b u xs q=>by rw [aq (fH q hn)];exact q
 tbls:=fun b ps q=>⟨#[],by rw [aq (fH q hn),q];simp⟩
theorem Un.write (mu:JN (H x)) (he:e=x∨H e=some (.own x)) (k:∀b u,b≠e→h.get? b=some u→h'.get? b=some u) (heo:∃u,h'.get? e=some u):Un fs ex H (upd H x o) h h':=by
 have hx:∀b,H b=none→b≠x:=fun b n z=>by subst z;rw [n] at mu;exact mu
 have hb:∀b,H b=none→b≠e:=fun b n z=>by
  subst z;rcases he with r | r
  ·exact hx b n r
  ·rw [n] at r;cases r
 have hm:∀b u,H b=some u→¬ JN (some u)→b≠x:=fun b u q nm z=>by subst z;rw [q] at mu;exact nm mu
 refine⟨fun b u q n _ _=>k b u (hb b n) q,fun b u q n _ _=>⟨u.slots,k b u (hb b n) q⟩,fun b u q n _=>by rw [aq (hx b n)];exact n,fun b u q _=>?_,
  fun b xs q=>by rw [aq (hm b _ q fun z=>z)];exact q,fun b u xs q=>by rw [aq (hm b _ q fun z=>z)];exact q,fun b ps q=>⟨#[],by rw [aq (hm b _ q fun z=>z),q];simp⟩⟩
 by_cases hbe:b=e
 ·subst hbe;exact heo
 ·exact⟨u,k b u hbe q⟩
end
def Kv (h:Heap) (H:Hp):List Addr:=(List.range h.objs.size).filter fun a=>(H a).isSome
def uW (h:Heap) (H:Hp):Heap:=PySem.W.hideAll h (Kv h H)
theorem AH (h:Heap) (H:Hp):(uW h H).objs.size=h.objs.size:=PySem.W.hideAll_size _ _
theorem B7 {h:Heap} {H:Hp} {b:Addr} {o:Obj} (e:h.get? b=some o) (n:H b=none):(uW h H).get? b=some o :=
 PySem.W.hideAll_get _ e fun hm=>by
  have q:(H b).isSome=true:=(List.mem_filter.mp hm).2;rw [n] at q;simp at q
theorem E2 {h:Heap} {H:Hp} {b:Addr} {o:Obj} (e:(uW h H).get? b=some o):h.get? b=some o∧H b=none:=by
 have e':h.get? b=some o:=PySem.W.of_hideAll (Kv h H) e;refine⟨e',?_⟩
 cases q:H b with
 | none=>rfl
 | some x =>
  have hm:b∈Kv h H:=List.mem_filter.mpr ⟨Nq.mpr (ML e'),by simp [q]⟩;have z:(uW h H).get? b=none:=PySem.W.hideAll_none (Kv h H) hm;rw [z] at e;cases e
structure Mod (K:Mn) (mg:Str→Option Value) (base:Heap):Prop where
 kin:K.In base
 glob:base.Ns mainGlobals mg
 blt:∃mb,base.Ns builtinsNs mb∧∀x:Str,x≠"__name__"→mb x=bootBuiltins x
 nolimit:base.NoLimit
structure Cx where
 prog:Program
 w:World
 K:Mn
 mg:Str→Option Value
 base:Heap
 A:Around
 N:List Str
 s₀:Shared
 H₀:Hp
 env:Env
 outer:List Env
 stack:List Env
 ex:List Addr
 fn:Str→Bool
 calm:Bool
 pn:List (Addr×Obj)
 xe:Value→Shared→Prop
def BP (l:List Env):List Addr:=l.filterMap (·.frame)
abbrev Cx.fs (X:Cx):List Addr:=BP X.outer
def qJ (sc:Scope) (x:Str):Prop:=sc.names.lookup x=some .local∨sc.names.lookup x=some .cell∨sc.names.lookup x=some .free
def Loc (sc:Scope) (x:Str):Prop:=sc.names.lookup x=some .local∨sc.names.lookup x=some .cell
def Look (env:Env) (h:Heap) (m:Str→Option Value) (x:Str) (u:Value):Prop :=
 (env.kindOf x=some .local∧m x=some u)∨((env.kindOf x=some .cell∨env.kindOf x=some .free)∧∃c,env.cells.lookup x=some c∧h.IsCell c (some u))
structure Cx.Ok (X:Cx):Prop where
 mod:Mod X.K X.mg X.base
 kind:X.env.scope.kind=.function
 glob:X.env.globals=mainGlobals
 blt:X.env.builtins=builtinsNs
 above:X.s₀.heap.objs.size≤X.env.locals
 inj:∀x y c,X.env.cells.lookup x=some c→X.env.cells.lookup y=some c→x=y
 has:∀x,(X.env.kindOf x=some .cell∨X.env.kindOf x=some .free)→∃c,X.env.cells.lookup x=some c
 cab:∀x c,X.fn x=true→X.env.cells.lookup x=some c→X.s₀.heap.objs.size≤c
 hd:X.calm=true→X.A.handled=none
 frames:X.A.frames=some X.stack
 stk:X.stack=X.outer∨(X.stack=X.env :: X.outer∧X.env.frame=some X.env.locals)
 exf:∀b∈X.ex,b≠X.env.locals∧∀x c,X.env.cells.lookup x=some c→c≠b
 bs:∀b o,X.base.get? b=some o→X.s₀.heap.get? b=some o∧X.H₀ b=none
 bsz:X.base.objs.size≤X.s₀.heap.objs.size
 noex:∀b o,X.base.get? b=some o→b∉X.ex
 exfs:∀b∈X.ex,b∉X.fs
 pQ:X.s₀.heap.FunFrames X.base X.outer
 frf:∀b∈X.fs,X.H₀ b=none
structure Inv (X:Cx) (pins:List (Addr×Obj)) (σ:List (Option V)) (H:Hp) (s:Shared):Prop where
 ok:X.Ok
 os:s.os=X.s₀.os
 bare:AllBare s.gens
 base:Un X.fs X.ex X.H₀ H X.s₀.heap s.heap
 loc:∃m,s.heap.Ns X.env.locals m∧∀(i:Nat) (x:Str) (v:V),X.N[i]?=some x→σ[i]?=some (some v)→qJ X.env.scope x→∃u,RelV v u∧Look X.env s.heap m x u
 cell:∀x c,X.env.cells.lookup x=some c→∃v,s.heap.IsCell c v
 free:H X.env.locals=none
 freeC:∀x c,X.env.cells.lookup x=some c→H c=none
 pin:∀p∈X.pn ++ pins,s.heap.get? p.1=some p.2∧H p.1=none∧p.1≠X.env.locals∧p.1∉X.fs∧∀v,p.2.data≠.cell v
 hok:qA X.prog X.w H s.heap
 len:σ.length=X.N.length
section
variable {X:Cx} {pins:List (Addr×Obj)} {σ:List (Option V)} {H H':Hp} {s:Shared} {h':Heap}
theorem Cx.Ok.K8 (ok:X.Ok) {b:Addr} {o:Obj} (e:X.base.get? b=some o):b∉X.fs:=fun hb=>by
 have:=(ok.pQ.mem hb).1;rw [e] at this;cases this
theorem Inv.bs (I:Inv X pins σ H s):∀b o,X.base.get? b=some o→s.heap.get? b=some o∧H b=none:=fun b o e =>
 ⟨I.base.keep b o (I.ok.bs b o e).1 (I.ok.bs b o e).2 (I.ok.K8 e) (I.ok.noex b o e),I.base.free b o (I.ok.bs b o e).1 (I.ok.bs b o e).2 (I.ok.noex b o e)⟩
theorem Inv.bk (I:Inv X pins σ H s):∀b o,X.base.get? b=some o→s.heap.get? b=some o:=fun b o e=>(I.bs b o e).1
theorem Inv.mod (I:Inv X pins σ H s):Mod X.K X.mg X.base:=I.ok.mod
theorem Inv.uA (I:Inv X pins σ H s):X.K.In s.heap:=I.ok.mod.kin.keeps I.bk
theorem Inv.lt (I:Inv X pins σ H s):X.env.locals < s.heap.objs.size:=let ⟨_,hn,_⟩:=I.loc;hn.lt
theorem Inv.sz (I:Inv X pins σ H s):X.s₀.heap.objs.size≤s.heap.objs.size:=Ni I.ok.above (Nat.le_of_lt I.lt)
theorem Inv.Lw (I:Inv X pins σ H s) {a:Addr} (h:s.heap.objs.size≤a):a∉X.fs:=fun hb=>by
 obtain⟨_,o,ho,_⟩:=I.ok.pQ.mem hb;exact absurd (ME (ML ho) (Ni I.sz h)) (Nat.lt_irrefl _)
theorem Inv.HG (I:Inv X pins σ H s):∀x c,X.env.cells.lookup x=some c→c≠X.env.locals:=fun x c e z=>by
 obtain⟨v,o,ho,hd⟩:=I.cell x c e;obtain⟨m,⟨o',es,ep,ho',hd',_⟩,_⟩:=I.loc;rw [z,ho'] at ho;cases ho;rw [hd'] at hd;cases hd
theorem Inv.pQ (I:Inv X pins σ H s):s.heap.FunFrames X.base X.outer:=by
 have all:∀(l:List Env),(∀b∈BP l,b∈X.fs)→X.s₀.heap.FunFrames X.base l→s.heap.FunFrames X.base l:=by
  intro l
  induction l with
  | nil=>intro _ _;trivial
  | cons env r ih =>
   intro hs hl;obtain⟨hk,⟨L,o,hf,hn,ho,hd⟩,hr⟩:=hl;have hL:L∈X.fs:=hs L (by unfold BP;rw [List.filterMap_cons,hf];exact MO);obtain⟨sl,e⟩:=I.base.slot L o ho (I.ok.frf L hL) hL fun z=>I.ok.exfs L z hL;exact⟨hk,⟨L,_,hf,hn,e,hd⟩,ih (fun b hb=>hs b (by unfold BP;rw [List.filterMap_cons,hf];exact MB _ hb)) hr⟩
 exact all X.outer (fun _ hb=>hb) I.ok.pQ
theorem Inv.stack (I:Inv X pins σ H s):s.heap.FunFrames X.base X.stack:=by
 rcases I.ok.stk with e | ⟨e,hf⟩
 ·rw [e];exact I.pQ
 ·rw [e];obtain⟨m,hn,_⟩:=I.loc;refine .cons (by rw [I.ok.kind];decide) hf hn ?_ I.pQ;exact Heap.get?_none_of_le (Ni I.ok.bsz I.ok.above)
theorem Inv.oH (I:Inv X pins σ H s):∀b∈BP X.stack,b∈X.env.locals :: X.fs:=fun b hb=>by
 rcases I.ok.stk with e | ⟨e,hf⟩
 ·rw [e] at hb;exact MB _ hb
 ·rw [e] at hb;unfold BP at hb;rw [List.filterMap_cons,hf] at hb;exact hb
theorem Inv.zE (I:Inv X pins σ H s):∀b∈BP X.stack,H b=none:=fun b hb=>by
 rcases MA.mp (I.oH b hb) with e | hb
 ·rw [e];exact I.free
 ·obtain⟨_,o,ho,_⟩:=I.ok.pQ.mem hb;exact I.base.free b o ho (I.ok.frf b hb) fun z=>I.ok.exfs b z hb
theorem Inv.step {g':Array GenState} {t':Nat} {d':Drawn} {ch:List Addr} (I:Inv X pins σ H s)
  (hch:∀b∈ch,(b∈X.ex∨X.s₀.heap.objs.size≤b)∧b≠X.env.locals∧(∀x c,X.env.cells.lookup x=some c→c≠b)∧∀p∈X.pn ++ pins,p.1≠b)
  (keep:∀b o,b≠X.env.locals→b∉X.fs→b∉ch→s.heap.get? b=some o→H b=none→h'.get? b=some o)
  (slot:∀b o,b≠X.env.locals→b∈X.fs→b∉ch→s.heap.get? b=some o→H b=none→∃sl,h'.get? b=some { o with slots:=sl }) (free:∀b o,b∉ch→s.heap.get? b=some o→H b=none→H' b=none)
  (there:∀b o,b∉ch→s.heap.get? b=some o→∃o',h'.get? b=some o')
  (tups:∀b xs,H b=some (.tup xs)→H' b=some (.tup xs)) (frzs:∀b o u,H b=some (.frz o u)→H' b=some (.frz o u)) (tbls:∀b ps,H b=some (.AA ps)→∃more,H' b=some (.AA (ps ++ more)))
  (ns:∀m,s.heap.Ns X.env.locals m→h'.Ns X.env.locals m) (hok:qA X.prog X.w H' h') (hg:AllBare g') :
  Inv X pins σ H' { s with heap:=h',gens:=g',drawn:=d',toks:=t' }:=by
 have neL:∀b o,X.s₀.heap.get? b=some o→b≠X.env.locals:=fun b o e=>MY (ME (ML e) I.ok.above)
 have neC:∀b o,X.s₀.heap.get? b=some o→b∉X.ex→b∉ch:=fun b o e hx hb=>by
  rcases (hch b hb).1 with z | z
  ·exact hx z
  ·exact absurd (ME (ML e) z) (Nat.lt_irrefl _)
 have cellK:∀x c,X.env.cells.lookup x=some c→∀v,s.heap.IsCell c v→h'.IsCell c v:=fun x c e v ⟨o,ho,hd⟩=>by
  have nch:c∉ch:=fun z=>(hch c z).2.2.1 x c e rfl
  by_cases hc:c∈X.fs
  ·obtain⟨sl,q⟩:=slot c o (I.HG x c e) hc nch ho (I.freeC x c e);exact⟨_,q,hd⟩
  ·exact⟨o,keep c o (I.HG x c e) hc nch ho (I.freeC x c e),hd⟩
 refine⟨I.ok,I.os,hg,⟨fun b o e n hb hx=>?_,fun b o e n hb hx=>?_,fun b o e n hx=>?_,fun b o e hx=>?_,fun b xs e=>tups b xs (I.base.tups b xs e),fun b o xs e=>frzs b o xs (I.base.frzs b o xs e),fun b ps e=>?_⟩,?_,fun x c e=>?_,?_,fun x c e=>?_,fun p hp=>?_,hok,I.len⟩
 ·exact keep b o (neL b o e) hb (neC b o e hx) (I.base.keep b o e n hb hx) (I.base.free b o e n hx)
 ·obtain⟨sl,e1⟩:=I.base.slot b o e n hb hx;obtain⟨sl',e2⟩:=slot b _ (neL b o e) hb (neC b o e hx) e1 (I.base.free b o e n hx);exact⟨sl',e2⟩
 ·obtain⟨o',e1⟩:=I.base.there b o e hx;exact free b o' (neC b o e hx) e1 (I.base.free b o e n hx)
 ·obtain⟨o',e1⟩:=I.base.there b o e hx;exact there b o' (neC b o e hx) e1
 ·obtain⟨m1,e1⟩:=I.base.tbls b ps e;obtain⟨m2,e2⟩:=tbls b _ e1;exact⟨m1 ++ m2,by rw [e2,Array.append_assoc]⟩
 ·obtain⟨m,hn,hl⟩:=I.loc;refine⟨m,ns m hn,fun i x v e1 e2 e3=>?_⟩;obtain⟨u,r,l⟩:=hl i x v e1 e2 e3;refine⟨u,r,?_⟩;rcases l with l | ⟨k,c,e,z⟩
  ·exact .inl l
  ·exact .inr ⟨k,c,e,cellK x c e _ z⟩
 ·obtain⟨v,z⟩:=I.cell x c e;exact⟨v,cellK x c e v z⟩
 ·obtain⟨m,⟨o,_,_,ho,_⟩,_⟩:=I.loc;exact free _ o (fun z=>(hch _ z).2.1 rfl) ho I.free
 ·obtain⟨v,o,ho,hd⟩:=I.cell x c e;exact free c o (fun z=>(hch c z).2.2.1 x c e rfl) ho (I.freeC x c e)
 ·obtain⟨e,n,ne,nf,d⟩:=I.pin p hp;have nch:p.1∉ch:=fun z=>(hch p.1 z).2.2.2 p hp rfl;exact⟨keep p.1 p.2 ne nf nch e n,free p.1 p.2 nch e n,ne,nf,d⟩
theorem Inv.un {t':Nat} (I:Inv X pins σ H s) (u:Un X.fs [] H H' s.heap h') (hok:qA X.prog X.w H' h'):Inv X pins σ H' { s with heap:=h',toks:=t' }:=by
 obtain⟨m,⟨o,es,ep,ho,r⟩,_⟩:=id I.loc;obtain⟨sl,hL⟩:=u.any ho I.free (by simp)
 exact I.step (g':=s.gens) (d':=s.drawn) (ch:=[]) (fun _ z=>nomatch z) (fun b o _ hb _ e n=>u.keep b o e n hb (by simp)) (fun b o _ hb _ e n=>u.slot b o e n hb (by simp)) (fun b o _ e n=>u.free b o e n (by simp)) (fun b o _ e=>u.there b o e (by simp)) u.tups u.frzs u.tbls (fun m' hm=>by
  obtain⟨o',es',ep',ho',r'⟩:=hm;rw [ho] at ho';cases ho'
  exact⟨_,es',ep',hL,r'⟩) hok I.bare
theorem Inv.call {g':Array GenState} {t':Nat} {d':Drawn} {ch:List Addr} (I:Inv X pins σ H s) (u:Un (BP X.stack) ch H H' s.heap h') (hok:qA X.prog X.w H' h') (hg:AllBare g')
  (hch:∀b∈ch,(b∈X.ex∨X.s₀.heap.objs.size≤b)∧b≠X.env.locals∧(∀x c,X.env.cells.lookup x=some c→c≠b)∧∀p∈X.pn ++ pins,p.1≠b) :
  Inv X pins σ H' { s with heap:=h',gens:=g',drawn:=d',toks:=t' }:=by
 obtain⟨m,⟨o,es,ep,ho,r⟩,_⟩:=id I.loc;obtain⟨sl,hL⟩:=u.any ho I.free fun z=>(hch _ z).2.1 rfl
 exact I.step (ch:=ch) hch (fun b o hL hb hc e n=>u.keep b o e n (fun z=>(MA.mp (I.oH b z)).elim hL hb) hc) (fun b o _ _ hc e n=>u.any e n hc) (fun b o hc e n=>u.free b o e n hc) (fun b o hc e=>u.there b o e hc) u.tups u.frzs u.tbls (fun m' hm=>by
  obtain⟨o',es',ep',ho',r'⟩:=hm;rw [ho] at ho';cases ho'
  exact⟨_,es',ep',hL,r'⟩) hok hg
theorem Inv.turned {t':Nat} {it:Addr} (I:Inv X pins σ H s) (k:∀b o,b≠it→s.heap.get? b=some o→h'.get? b=some o) (hn:H it=none) (hL:it≠X.env.locals)
  (h1:it∈X.ex∨X.s₀.heap.objs.size≤it) (h2:∀x c,X.env.cells.lookup x=some c→c≠it) (h3:∀p∈X.pn ++ pins,p.1≠it):Inv X pins σ H { s with heap:=h',toks:=t' }:=by
 have nit:∀b u,H b=some u→b≠it:=fun b u e z=>by rw [z,hn] at e;cases e
 refine I.step (g':=s.gens) (d':=s.drawn) (ch:=[it]) (fun b hb=>?_) (fun b o _ _ hc e _=>k b o (fun z=>hc (by simp [z])) e) (fun b o _ _ hc e _=>⟨o.slots,k b o (fun z=>hc (by simp [z])) e⟩) (fun _ _ _ _ n=>n)
  (fun b o hc e=>⟨o,k b o (fun z=>hc (by simp [z])) e⟩) (fun _ _ e=>e) (fun _ _ _ e=>e) (fun b ps e=>⟨#[],by rw [e];simp⟩) (fun m hm=>?_) (fun b u e=>?_) I.bare
 ·have e:b=it:=by simpa using hb
  subst e;exact⟨h1,hL,h2,h3⟩
 ·obtain⟨o,es,ep,ho,r⟩:=hm;exact⟨o,es,ep,k _ o (Ne.symm hL) ho,r⟩
 ·refine (I.hok b u e).yn (fun c v hc q=>k c v ?_ q) (fun _ q=>q) fun _ _ q=>q;rcases hc with z | z
  ·rw [z];exact nit b u e
  ·exact nit c _ z
theorem Inv.tok (I:Inv X pins σ H s) (t:Nat):Inv X pins σ H { s with toks:=t }:=I.un (h':=s.heap) (t':=t) Un.refl I.hok
theorem Inv.kept {t':Nat} (I:Inv X pins σ H s) (k:∀b u,s.heap.get? b=some u→h'.get? b=some u):Inv X pins σ H { s with heap:=h',toks:=t' }:=I.un (Un.kept k) (I.hok.kept k)
theorem Inv.laid {a:Addr} {o:HO} {t':Nat} (I:Inv X pins σ H s) (k:∀b u,s.heap.get? b=some u→h'.get? b=some u) (hp:s.heap.objs.size≤a) (new:c6 X.prog X.w (upd H a o) h' a o) :
  Inv X pins σ (upd H a o) { s with heap:=h',toks:=t' }:=I.un (Un.laid k hp (I.hok.fresh hp)) (I.hok.laid k hp new)
theorem Inv.write {x e:Addr} {o:HO} {t':Nat} (I:Inv X pins σ H s) (mu:JN (H x)) (he:e=x∨H e=some (.own x)) (k:∀b u,b≠e→s.heap.get? b=some u→h'.get? b=some u) (heo:∃u,h'.get? e=some u)
  (new:c6 X.prog X.w (upd H x o) h' x o):Inv X pins σ (upd H x o) { s with heap:=h',toks:=t' }:=I.un (Un.write mu he k heo) (I.hok.write mu he k heo new)
theorem Inv.zB {pins':List (Addr×Obj)} (I:Inv X pins σ H s) (h:∀p∈pins',s.heap.get? p.1=some p.2∧H p.1=none∧p.1≠X.env.locals∧p.1∉X.fs∧∀v,p.2.data≠.cell v):Inv X pins' σ H s :=
 ⟨I.ok,I.os,I.bare,I.base,I.loc,I.cell,I.free,I.freeC,fun p hp=>(MR.mp hp).elim (fun z=>I.pin p (Np _ z)) (h p),I.hok,I.len⟩
theorem xP {N:List Str} (hN:N.Nodup) {i j:Nat} {x:Str} (a:N[i]?=some x) (b:N[j]?=some x):i=j:=by
 obtain⟨h1,e1⟩:=Mi.mp a;obtain⟨h2,e2⟩:=Mi.mp b;exact (List.getElem_inj hN).mp (e1.trans e2.symm)
theorem tZ {M:Model} {A:Around} {E:Value→Shared→Prop} {i:Nat} {x:Str} {v:V} {u:Value} {Q:Unit→Shared→Prop} (I:Inv X pins σ H s) (hN:X.N.Nodup) (hi:X.N[i]?=some x) (hx:Loc X.env.scope x) (r:RelV v u)
  (h:∀s',Inv X pins (σ.set i (some v)) H s'→(∃a,Heap.SameBut a s.heap s'.heap∧(a=X.env.locals∨X.env.cells.lookup x=some a))→Q () s') (hf:X.fn x=true∨X.env.scope.names.lookup x=some .local:=by first | exact .inl rfl | exact .inr rfl | assumption):wpAny M A (storeName X.env x u) Q E s:=by
 obtain⟨m,hn,hl⟩:=id I.loc;have hcls:(X.env.scope.kind == .class || (X.env.scope.kind == .module && X.env.locals != X.env.globals))=false:=by rw [I.ok.kind];rfl
 have hiσ:i < σ.length:=by rw [I.len];exact (Mi.mp hi).1
 have HG:=I.HG
 have tracked:∀{a:Addr} {h':Heap},(∃o,s.heap.get? a=some o∧H a=none)→Heap.SameBut a s.heap h'→qA X.prog X.w H h':=fun {a h'} ha hs b ob e=>by
  obtain⟨_,_,hfree⟩:=ha;refine (I.hok b ob e).yn (fun c w' hc q=>(hs.2 c ?_).trans q) (fun _ q=>q) fun _ _ q=>q
  rintro rfl;rcases hc with rfl | hc
  ·rw [hfree] at e;cases e
  ·rw [hfree] at hc;cases hc
 rcases hx with hk | hk
 ·refine wpAny_storeName_local hk hn (fun h' hn' hs=>?_) hcls;obtain⟨oL,_,_,hoL,_⟩:=id hn;refine h _ ⟨I.ok,I.os,I.bare,⟨fun b o e n hb hx=>?_,fun b o e n hb hx=>?_,I.base.free,fun b o e hx=>?_,I.base.tups,I.base.frzs,I.base.tbls⟩,⟨_,hn',fun j y v' e1 e2 e3=>?_⟩,fun y c e=>?_,I.free,I.freeC,fun p hp=>?_,tracked ⟨oL,hoL,I.free⟩ hs,by simpa using I.len⟩ ⟨_,hs,.inl rfl⟩
  ·exact (hs.2 b (MY (ME (ML e) I.ok.above))).trans (I.base.keep b o e n hb hx)
  ·obtain⟨sl,e1⟩:=I.base.slot b o e n hb hx;exact⟨sl,(hs.2 b (MY (ME (ML e) I.ok.above))).trans e1⟩
  ·obtain⟨o',e1⟩:=I.base.there b o e hx;exact⟨o',(hs.2 b (MY (ME (ML e) I.ok.above))).trans e1⟩
  ·by_cases hj:j=i
   ·subst hj;rw [hi] at e1;cases e1;rw [Mx hiσ] at e2;cases e2;exact⟨u,r,.inl ⟨hk,by simp⟩⟩
   ·rw [Ml (Ne.symm hj)] at e2;obtain⟨u',r',q⟩:=hl j y v' e1 e2 e3;refine⟨u',r',?_⟩;rcases q with ⟨k,e⟩ | ⟨k,c,e,z⟩
    ·refine .inl ⟨k,?_⟩;have:y≠x:=fun e=>hj (xP hN e1 (e▸hi));simp [this,e]
    ·exact .inr ⟨k,c,e,z.sameBut hs (HG y c e)⟩
  ·obtain⟨w',z⟩:=I.cell y c e;exact⟨w',z.sameBut hs (HG y c e)⟩
  ·obtain⟨e,n,ne,nf,d⟩:=I.pin p hp;exact⟨(hs.2 p.1 ne).trans e,n,ne,nf,d⟩
 ·have hfn:X.fn x=true:=by
   rcases hf with z | z
   ·exact z
   ·rw [z] at hk;cases hk
  obtain⟨c,hc⟩:=I.ok.has x (.inl hk);obtain⟨w',z⟩:=I.cell x c hc;refine wpAny_storeName_cell I.ok.kind hk hc z (fun h' hc' hs=>?_);obtain⟨oc,hoc,hocd⟩:=id z;refine h { s with heap:=h' } ⟨I.ok,I.os,I.bare,⟨fun b o e n hb hx=>?_,fun b o e n hb hx=>?_,I.base.free,fun b o e hx=>?_,I.base.tups,I.base.frzs,I.base.tbls⟩,⟨m,hn.sameBut hs (Ne.symm (HG x c hc)),fun j y v' e1 e2 e3=>?_⟩,fun y c' e=>?_,I.free,I.freeC,fun p hp=>?_,tracked ⟨oc,hoc,I.freeC x c hc⟩ hs,by simpa using I.len⟩ ⟨c,hs,.inr hc⟩
  ·exact (hs.2 b (MY (ME (ML e) (I.ok.cab x c hfn hc)))).trans (I.base.keep b o e n hb hx)
  ·obtain⟨sl,e1⟩:=I.base.slot b o e n hb hx;exact⟨sl,(hs.2 b (MY (ME (ML e) (I.ok.cab x c hfn hc)))).trans e1⟩
  ·obtain⟨o',e1⟩:=I.base.there b o e hx;exact⟨o',(hs.2 b (MY (ME (ML e) (I.ok.cab x c hfn hc)))).trans e1⟩
  ·by_cases hj:j=i
   ·subst hj;rw [hi] at e1;cases e1;rw [Mx hiσ] at e2;cases e2;exact⟨u,r,.inr ⟨.inl hk,c,hc,hc'⟩⟩
   ·rw [Ml (Ne.symm hj)] at e2;obtain⟨u',r',q⟩:=hl j y v' e1 e2 e3;refine⟨u',r',?_⟩;rcases q with q | ⟨k,c',e,z'⟩
    ·exact .inl q
    ·refine .inr ⟨k,c',e,z'.sameBut hs ?_⟩
     rintro rfl;exact hj (xP hN e1 (I.ok.inj _ _ _ e hc▸hi))
  ·by_cases hcc:c'=c
   ·subst hcc;exact⟨_,hc'⟩
   ·obtain⟨w2,z2⟩:=I.cell y c' e;exact⟨w2,z2.sameBut hs hcc⟩
  ·obtain⟨e,n,ne,nf,d⟩:=I.pin p hp;refine⟨(hs.2 p.1 ?_).trans e,n,ne,nf,d⟩;intro q;rw [q,hoc] at e;have q':oc=p.2:=Mq e;exact d w' (by rw [← q'];exact hocd)
theorem mR {M:Model} {A:Around} {E:Value→Shared→Prop} {i:Nat} {x:Str} {v:V} {u:Value} {Q:Unit→Shared→Prop} (I:Inv X pins σ H s) (hN:X.N.Nodup) (hi:X.N[i]?=some x) (hx:Loc X.env.scope x) (r:RelV v u)
  (h:∀s',Inv X pins (σ.set i (some v)) H s'→Q () s') (hf:X.fn x=true∨X.env.scope.names.lookup x=some .local:=by first | exact .inl rfl | exact .inr rfl | assumption):wpAny M A (storeName X.env x u) Q E s :=
 tZ I hN hi hx r (fun s' I' _=>h s' I') hf
theorem Inv.JI {s':Shared} {ch:List Addr} (I:Inv X pins σ H s) (ho:s'.os=s.os) (u:Un (BP X.stack) ch H H' s.heap s'.heap) (hok:qA X.prog X.w H' s'.heap) (hg:AllBare s'.gens)
  (hch:∀b∈ch,(b∈X.ex∨X.s₀.heap.objs.size≤b)∧b≠X.env.locals∧(∀x c,X.env.cells.lookup x=some c→c≠b)∧∀p∈X.pn ++ pins,p.1≠b):Inv X pins σ H' s':=by
 obtain⟨h',g',d',t',o'⟩:=s';have e:o'=s.os:=ho;subst e;exact I.call (g':=g') (t':=t') (d':=d') u hok hg hch
end
abbrev XK:=Value→Option Addr→Hp→Prop
abbrev St:=List (Option V)
abbrev VK:=V→Hp→Prop
abbrev TE:=St→Hp→VK→Prop
abbrev TT:=St→Hp→(Bool→Hp→Prop)→Prop
abbrev TA:=St→Hp→(List V→Hp→Prop)→Prop
structure Ends where
 nx:St→Hp→Prop
 rt:VK
 bk:St→Hp→Prop:=fun _ _=>False
 ct:St→Hp→Prop:=fun _ _=>False
abbrev TS:=Ends→St→Hp→Prop
def EP (X:Cx) (pins:List (Addr×Obj)) (σ:St) (Q:VK) (u:Value) (s':Shared):Prop:=∃v H',Inv X pins σ H' s'∧RelV v u∧Q v H'
def TP (X:Cx) (pins:List (Addr×Obj)) (σ:St) (Q:Bool→Hp→Prop) (b:Bool) (s':Shared):Prop:=∃H',Inv X pins σ H' s'∧Q b H'
def AP (X:Cx) (pins:List (Addr×Obj)) (σ:St) (Q:List V→Hp→Prop) (us:List Value) (s':Shared):Prop:=∃vs H',Inv X pins σ H' s'∧Vals vs us∧Q vs H'
def SP (X:Cx) (pins:List (Addr×Obj)) (D:Ends) (f:Flow) (s':Shared):Prop :=
 match f with
 | .next=>∃σ' H',Inv X pins σ' H' s'∧D.nx σ' H'
 | .brk=>∃σ' H',Inv X pins σ' H' s'∧D.bk σ' H'
 | .cont=>∃σ' H',Inv X pins σ' H' s'∧D.ct σ' H'
 | .ret u=>∃v σ' H',Inv X pins σ' H' s'∧RelV v u∧D.rt v H'
def PE (X:Cx) (e:Expr) (t:TE):Prop :=
 ∀(pins:List (Addr×Obj)) (s:Shared) (σ:St) (H:Hp) (Q:VK),Inv X pins σ H s→t σ H Q→wpAny (model X.prog X.w) X.A (eval e X.env) (EP X pins σ Q) X.xe s
def PT (X:Cx) (e:Expr) (t:TT):Prop :=
 ∀(pins:List (Addr×Obj)) (s:Shared) (σ:St) (H:Hp) (Q:Bool→Hp→Prop),Inv X pins σ H s→t σ H Q→wpAny (model X.prog X.w) X.A (isTrue e X.env (eval e X.env)) (TP X pins σ Q) X.xe s
def PW (X:Cx) (e:Expr) (t:TT):Prop :=
 ∀(whole:Sem Value) (pins:List (Addr×Obj)) (s:Shared) (σ:St) (H:Hp) (Q:Bool→Hp→Prop),Inv X pins σ H s→t σ H Q→wpAny (model X.prog X.w) X.A (isTrue e X.env whole) (TP X pins σ Q) X.xe s
def PA (X:Cx) (es:List Expr) (t:TA):Prop :=
 ∀(pos:Pos) (pins:List (Addr×Obj)) (s:Shared) (σ:St) (H:Hp) (Q:List V→Hp→Prop),Inv X pins σ H s→t σ H Q→wpAny (model X.prog X.w) X.A (spliced (backTo pos (starEach es X.env))) (AP X pins σ Q) X.xe s
def PS (X:Cx) (st:Stmt) (t:TS):Prop :=
 ∀(pins:List (Addr×Obj)) (s:Shared) (σ:St) (H:Hp) (D:Ends),Inv X pins σ H s→t D σ H→wpAny (model X.prog X.w) X.A (exec st X.env) (SP X pins D) X.xe s
def yI (X:Cx) (st:List Stmt) (t:TS):Prop :=
 ∀(pins:List (Addr×Obj)) (s:Shared) (σ:St) (H:Hp) (D:Ends),Inv X pins σ H s→t D σ H→wpAny (model X.prog X.w) X.A (execs st X.env) (SP X pins D) X.xe s
theorem bU {α:Type} {t:Sem α} {Q Q':α→Shared→Prop} {M:Model} {A:Around} {E:Value→Shared→Prop} {s:Shared} (h:wpAny M A t Q E s) (hQ:∀a s,Q a s→Q' a s):wpAny M A t Q' E s:=Nd h hQ fun _ _ x=>x
section
variable {X:Cx}
def Lf (i:Nat):TE:=fun σ H Q=>∃v,σ[i]?=some (some v)∧Q v H
def tC (v:V):TE:=fun _ H Q=>Q v H
theorem cv {i:Nat} {x:Str} {pos:Pos} (hN:X.N[i]?=some x) (hv:qJ X.env.scope x) (hd:(x == ("__debug__" : Str))=false:=by decide) (hcd:(x == ("__classdict__" : Str))=false:=by decide):PE X (.Name x pos) (Lf i):=by
 intro pins s σ H Q I h;obtain⟨v,e,h⟩:=h;obtain⟨m,hn,hl⟩:=I.loc;obtain⟨u,r,l⟩:=hl i x v hN e hv;have fin:EP X pins σ Q u s:=⟨v,H,I,r,h⟩;rcases l with ⟨hk,hm⟩ | ⟨hk,c,hc,hcell⟩
 ·exact wpAny_Name (wpAny_loadName_local I.ok.kind hk hn hm fin) hd
 ·rcases hk with hk | hk
  ·exact wpAny_Name (wpAny_loadName_cell I.ok.kind hk hc hcell fin) hd
  ·exact wpAny_Name (wpAny_loadName_free I.ok.kind hk hc hcell fin hcd) hd
theorem yP {i j pos}:PE X (.Constant (.int i) j pos) (tC (.int i)):=fun _ _ _ H _ I h=>wpAny_Constant_int ⟨.int i,H,I.tok _,⟨_,rfl⟩,h⟩
theorem JU {b j pos}:PE X (.Constant (.bool b) j pos) (tC (.bl b)):=fun _ _ _ H _ I h=>Constant_bool ⟨.bl b,H,I,rfl,h⟩
theorem Dc {j pos}:PE X (.Constant .none j pos) (tC .non):=fun _ _ _ H _ I h=>Constant_none ⟨.non,H,I,rfl,h⟩
theorem H0 {x j pos}:PE X (.Constant (.str x) j pos) (tC (.str x)):=fun _ _ _ H _ I h=>Calls.Constant_str ⟨.str x,H,I.tok _,⟨_,rfl⟩,h⟩
def Gl (X:Cx) (x:Str):Prop:=X.env.kindOf x=some .globalImplicit
theorem uX {E:Value→Shared→Prop} {pins:List (Addr×Obj)} {s:Shared} {σ:St} {H:Hp} {x:Str} {u:Value} {pos:Pos} {Q:Value→Shared→Prop} (I:Inv X pins σ H s) (hg:Gl X x) (hm:X.mg x=some u) (h:Q u s)
  (hd:(x == ("__debug__" : Str))=false:=by decide):wpAny (model X.prog X.w) X.A (eval (.Name x pos) X.env) Q E s :=
 Calls.Name_function_global I.ok.kind hg (Calls.loadGlobal_global (by rw [I.ok.glob];exact I.mod.glob.keeps I.bk) hm h) hd
theorem lP {E:Value→Shared→Prop} {pins:List (Addr×Obj)} {s:Shared} {σ:St} {H:Hp} {x:Str} {u:Value} {pos:Pos} {Q:Value→Shared→Prop} (I:Inv X pins σ H s) (hg:Gl X x) (hm:X.mg x=none) (hv:bootBuiltins x=some u) (h:Q u s)
  (hn:x≠"__name__":=by decide) (hd:(x == ("__debug__" : Str))=false:=by decide):wpAny (model X.prog X.w) X.A (eval (.Name x pos) X.env) Q E s:=by
 obtain⟨mb,h1,h2⟩:=I.mod.blt;exact Calls.Name_function_global I.ok.kind hg (Calls.loadGlobal_builtin (by rw [I.ok.glob];exact I.mod.glob.keeps I.bk) hm (by rw [I.ok.blt];exact h1.keeps I.bk) ((h2 x hn).trans hv) h) hd
theorem Fy {x:Str} {v:V} {u:Value} {pos:Pos} (hg:Gl X x) (hm:X.mg x=none) (hv:bootBuiltins x=some u) (r:RelV v u) (hn:x≠"__name__":=by decide) (hd:(x == ("__debug__" : Str))=false:=by decide):PE X (.Name x pos) (tC v) :=
 fun _ _ _ H _ I h=>lP I hg hm hv ⟨v,H,I,r,h⟩ hn hd
variable {a b:Expr} {ta tb:TE} {pos:Pos}
def tB (t:TE):TT:=fun σ H Q=>t σ H fun x H1=>∃c,x=.bl c∧Q c H1
theorem GG {e:Expr} {t:TE} (h:PE X e t) (he:∀whole,isTrue e X.env whole=(do let v ← whole;standAt e.pos;holding [v] (truthy v)):=by intro _;rfl):PT X e (tB t):=by
 intro pins s σ H Q I hw;refine isTrue_plain (bU (h pins s σ H _ I hw) fun v s1 ⟨x,H1,I1,r1,q1⟩=>?_) (he _);obtain⟨d,rfl,q⟩:=q1;cases r1;exact wpAny_truthy_bool ⟨H1,I1,q⟩
variable {tA tB':TT} {rest:List Expr}
def Lr (t u:TT):TT:=fun σ H Q=>t σ H fun c H1=>if c=true then u σ H1 Q else Q false H1
def Ma (t u:TT):TT:=fun σ H Q=>t σ H fun c H1=>if c=true then Q true H1 else u σ H1 Q
def Li (t:TT):TT:=fun σ H Q=>t σ H fun c H1=>Q (!c) H1
theorem EN (ha:PT X a tA):PW X (.BoolOp .And [a] pos) tA:=by
 intro wh pins s σ H Q I h;refine isTrue_and (bU (ha pins s σ H Q I h) fun c s1 e=>?_)
 cases c with
 | true=>exact isTrue_and_nil e
 | false=>exact e
theorem GV (ha:PT X a tA):PW X (.BoolOp .Or [a] pos) tA:=by
 intro wh pins s σ H Q I h;refine isTrue_or (bU (ha pins s σ H Q I h) fun c s1 e=>?_)
 cases c with
 | false=>exact isTrue_or_nil e
 | true=>exact e
theorem HA (ha:PT X a tA) (hb:PW X (.BoolOp .And (b :: rest) pos) tB'):PW X (.BoolOp .And (a :: b :: rest) pos) (Lr tA tB'):=by
 intro wh pins s σ H Q I h;refine isTrue_and (bU (ha pins s σ H _ I h) fun c s1 ⟨H1,I1,q1⟩=>?_)
 cases c with
 | true=>exact hb wh pins s1 σ H1 Q I1 q1
 | false=>exact⟨H1,I1,q1⟩
theorem JG (ha:PT X a tA) (hb:PW X (.BoolOp .Or (b :: rest) pos) tB'):PW X (.BoolOp .Or (a :: b :: rest) pos) (Ma tA tB'):=by
 intro wh pins s σ H Q I h;refine isTrue_or (bU (ha pins s σ H _ I h) fun c s1 ⟨H1,I1,q1⟩=>?_)
 cases c with
 | true=>exact⟨H1,I1,q1⟩
 | false=>exact hb wh pins s1 σ H1 Q I1 q1
theorem IE (ha:PT X a tA):PT X (.UnaryOp .Not a pos) (Li tA):=by
 intro pins s σ H Q I h;exact isTrue_not (ha pins s σ H (fun c H1=>Q (!c) H1) I h)
def Kq (ta tb:TE):TE:=fun σ H Q=>ta σ H fun x H1=>∃c,x=.bl c∧if c=true then tb σ H1 Q else Q (.bl false) H1
def J5 (ta:TE):TE:=fun σ H Q=>ta σ H fun x H1=>∃c,x=.bl c∧Q (.bl (!c)) H1
theorem GI {op} {t:TE} (h:PE X a t):PE X (.BoolOp op [a] pos) t:=fun pins s σ H Q I hw=>BoolOp_one (h pins s σ H Q I hw)
theorem HJ (ha:PE X a ta) (hb:PE X (.BoolOp .And (b :: rest) pos) tb):PE X (.BoolOp .And (a :: b :: rest) pos) (Kq ta tb):=by
 intro pins s σ H Q I h;refine BoolOp_and (bU (ha pins s σ H _ I h) fun v s1 hq0=>?_);obtain⟨x,H1,I1,r1,q1⟩:=hq0;obtain⟨c,rfl,q1⟩:=q1;cases r1;refine wpAny_truthy_bool ?_
 cases c with
 | true=>exact hb pins s1 σ H1 Q I1 q1
 | false=>exact⟨.bl false,H1,I1,rfl,q1⟩
theorem HB (ha:PE X a ta):PE X (.UnaryOp .Not a pos) (J5 ta):=by
 intro pins s σ H Q I h;refine UnaryOp_ (bU (ha pins s σ H _ I h) fun v s1 hq0=>?_);obtain⟨x,H1,I1,r1,q1⟩:=hq0;obtain⟨c,rfl,q1⟩:=q1;cases r1;exact not_of (wpAny_truthy_bool ⟨.bl (!c),H1,I1,rfl,q1⟩)
def L8 (t:TT) (ta tb:TE):TE:=fun σ H Q=>t σ H fun c H1=>if c=true then ta σ H1 Q else tb σ H1 Q
theorem wJ {c:Expr} (hc:PT X c tA) (ha:PE X a ta) (hb:PE X b tb):PE X (.IfExp c a b pos) (L8 tA ta tb):=by
 intro pins s σ H Q I h;refine wpAny_IfExp (bU (hc pins s σ H _ I h) fun d s1 ⟨H1,I1,q1⟩=>?_)
 cases d with
 | true=>exact ha pins s1 σ H1 Q I1 q1
 | false=>exact hb pins s1 σ H1 Q I1 q1
end
def fU (K:Mn) (H:Hp) (a:Addr) (xs:List V):Prop :=
 Rd H a (.lst xs) ∨
  ∃(o:Obj) (its:Array Value) (n:Nat),K.lookup a=some o∧o.cls=.type "list"∧o.dict=none∧o.data=.seq its n∧its.size≤sizeLine∧Vals xs its.toList
def jv (K:Mn) (H:Hp) (a:Addr) (xs:List V):Prop :=
 Rd H a (.tup xs) ∨
  ∃(o:Obj) (its:Array Value) (n:Nat),K.lookup a=some o∧o.cls=.type "tuple"∧o.data=.seq its n∧its.size≤sizeLine∧Vals xs its.toList∧o.dict=none
def K2:Value→Option V
 | .none=>some .non
 | .bool b=>some (.bl b)
 | .int i _=>some (.int i)
 | .str x _=>some (.str x)
 | .bytes b _=>some (.byt b)
 | .float b _=>some (.flt b)
 | .ref a=>some (.ref a)
 | .type n=>some (.ty n)
 | _=>none
theorem RelV.abs {x:V} {u:Value} (r:RelV x u):K2 u=some x:=by
 cases x with
 | non=>cases r;rfl
 | bl _=>cases r;rfl
 | int _=>obtain⟨t,rfl⟩:=r;rfl
 | str _=>obtain⟨t,rfl⟩:=r;rfl
 | byt _=>obtain⟨t,rfl⟩:=r;rfl
 | flt _=>obtain⟨t,rfl⟩:=r;rfl
 | ref _=>cases r;rfl
 | ty _=>cases r;rfl
theorem RelV.inj {x y:V} {u:Value} (r:RelV x u) (q:RelV y u):x=y:=Mq (r.abs.symm.trans q.abs)
theorem Vals.inj:∀{xs ys:List V} {us:List Value},Vals xs us→Vals ys us→xs=ys
 | _,_,_,.nil,.nil=>rfl
 | _,_,_,.cons r t,.cons r' t'=>by rw [r.inj r',Vals.inj t t']
section
variable {X:Cx} {pins:List (Addr×Obj)} {σ:St} {H:Hp} {s:Shared} {a:Addr} {xs ys:List V}
theorem fU.of {K:Mn} (h:H a=some (.lst xs)):fU K H a xs:=.inl (.inl h)
theorem jv.of {K:Mn} (h:H a=some (.tup xs)):jv K H a xs:=.inl (.inl h)
theorem Inv.list (I:Inv X pins σ H s) (h:fU X.K H a xs):∃its:List Value,Vals xs its∧PlainL s.heap a its.toArray∧xs.length≤sizeLine:=by
 rcases h with h | ⟨o,its,n,hk,hc,hd,hs,hz,r⟩
 ·obtain⟨z,its,n,r,e⟩:=h.ok I.hok;exact⟨its,r,⟨_,n,e,rfl,rfl,rfl⟩,z⟩
 ·refine⟨its.toList,r,⟨o,n,I.uA a o hk,hc,hd,by simpa using hs⟩,?_⟩;have e:=r.length;simp only [Array.length_toList] at e;omega
theorem Inv.tuple (I:Inv X pins σ H s) (h:jv X.K H a xs):∃its:List Value,Vals xs its∧IsTup s.heap a its.toArray∧xs.length≤sizeLine:=by
 rcases h with h | ⟨o,its,n,hk,hc,hs,hz,r,_⟩
 ·obtain⟨z,its,r,p⟩:=h.ok I.hok;exact⟨its,r,p.tup,z⟩
 ·refine⟨its.toList,r,⟨o,I.uA a o hk,hc,n,by simpa using hs⟩,?_⟩;have e:=r.length;simp only [Array.length_toList] at e;omega
theorem Inv.r8 (I:Inv X pins σ H s) (h:fU X.K H a xs) (h':fU X.K H a ys):xs=ys:=by
 obtain⟨its,r,⟨o,n,e,_,_,d⟩,_⟩:=I.list h;obtain⟨its',r',⟨o',n',e',_,_,d'⟩,_⟩:=I.list h';rw [e] at e';cases e';rw [d] at d';injection d' with d1 _
 have:its=its':=by simpa using M0 Array.toList d1
 subst this;exact r.inj r'
theorem Inv.nV (I:Inv X pins σ H s) (h:jv X.K H a xs) (h':jv X.K H a ys):xs=ys:=by
 obtain⟨its,r,⟨o,e,_,n,d⟩,_⟩:=I.tuple h;obtain⟨its',r',⟨o',e',_,n',d'⟩,_⟩:=I.tuple h';rw [e] at e';cases e';rw [d] at d';injection d' with d1 _
 have:its=its':=by simpa using M0 Array.toList d1
 subst this;exact r.inj r'
end
abbrev Cx.tH (X:Cx) (E:Value→Shared→Prop):Cx:={ X with xe:=E }
abbrev Cx.BF (X:Cx):Cx:=X.tH fun _ _=>False
theorem Cx.Ok.tH {X:Cx} (ok:X.Ok) (E:Value→Shared→Prop):(X.tH E).Ok :=
 ⟨ok.mod,ok.kind,ok.glob,ok.blt,ok.above,ok.inj,ok.has,ok.cab,ok.hd,ok.frames,ok.stk,ok.exf,ok.bs,ok.bsz,ok.noex,ok.exfs,ok.pQ,ok.frf⟩
theorem Cx.Ok.jX {X:Cx} {E:Value→Shared→Prop} (ok:(X.tH E).Ok):X.Ok :=
 ⟨ok.mod,ok.kind,ok.glob,ok.blt,ok.above,ok.inj,ok.has,ok.cab,ok.hd,ok.frames,ok.stk,ok.exf,ok.bs,ok.bsz,ok.noex,ok.exfs,ok.pQ,ok.frf⟩
section
variable {X:Cx} {pins:List (Addr×Obj)} {σ:St} {H:Hp} {s:Shared} {E:Value→Shared→Prop}
theorem Inv.tH (I:Inv X pins σ H s) (E:Value→Shared→Prop):Inv (X.tH E) pins σ H s:=⟨I.ok.tH E,I.os,I.bare,I.base,I.loc,I.cell,I.free,I.freeC,I.pin,I.hok,I.len⟩
theorem Inv.jX (I:Inv (X.tH E) pins σ H s):Inv X pins σ H s:=⟨I.ok.jX,I.os,I.bare,I.base,I.loc,I.cell,I.free,I.freeC,I.pin,I.hok,I.len⟩
theorem SP.jX {D:Ends} {f:Flow} {s':Shared} (h:SP (X.tH E) pins D f s'):SP X pins D f s':=by
 cases f with
 | next=>obtain⟨σ',H',I,q⟩:=h;exact⟨σ',H',I.jX,q⟩
 | brk=>obtain⟨σ',H',I,q⟩:=h;exact⟨σ',H',I.jX,q⟩
 | cont=>obtain⟨σ',H',I,q⟩:=h;exact⟨σ',H',I.jX,q⟩
 | ret u=>obtain⟨v,σ',H',I,r,q⟩:=h;exact⟨v,σ',H',I.jX,r,q⟩
theorem yI.BF {st:List Stmt} {t:TS} (h:yI X.BF st t):yI X st t:=fun pins s σ H D I hw =>
 Nd (h pins s σ H D (I.tH _) hw) (fun _ _ q=>q.jX) fun _ _ z=>False.elim z
end
section
variable {X:Cx} {st:Stmt} {rest:List Stmt} {t u:TS} {e:Expr} {te:TE} {pos:Pos}
def J3:TS:=fun D σ H=>D.nx σ H
def Ll (t u:TS):TS:=fun D σ H=>t { D with nx:=u D } σ H
theorem Ep:yI X [] J3:=fun _ _ σ H _ I h=>wpAny_execs_nil ⟨σ,H,I,h⟩
theorem ny (h1:PS X st t) (h2:yI X rest u):yI X (st :: rest) (Ll t u):=by
 intro pins s σ H D I h;refine wpAny_execs_cons (bU (h1 pins s σ H { D with nx:=u D } I h) fun f s1 q=>?_)
 cases f with
 | next =>
  obtain⟨σ',H',I',q⟩:=q
  exact h2 pins s1 σ' H' D I' q
 | ret v=>exact q
 | brk=>exact q
 | cont=>exact q
theorem Aj (h1:PS X st t):yI X [st] t:=by
 intro pins s σ H D I h;refine wpAny_execs_cons (bU (h1 pins s σ H D I h) fun f s1 q=>?_)
 cases f with
 | next=>exact wpAny_execs_nil q
 | ret v=>exact q
 | brk=>exact q
 | cont=>exact q
def Ie:TS:=fun D σ H=>D.bk σ H
theorem BU:PS X (.Break pos) Ie:=fun _ _ σ H _ I h=>wpAny_Break ⟨σ,H,I,h⟩
theorem Inv.quiet {pins:List (Addr×Obj)} {σ:St} {H:Hp} {s:Shared} (I:Inv X pins σ H s):interactive X.env=false:=by simp [interactive,I.ok.kind]
def Jb (te:TE):TS:=fun D σ H=>te σ H fun _ H1=>D.nx σ H1
theorem qf (he:PE X e te) (hs:swapsWith e none pos.line X.env=pure false:=by rfl):PS X (.Expr e pos) (Jb te):=by
 intro pins s σ H D I h;exact wpAny_Expr_any (bU (he pins s σ H _ I h) fun v s1 ⟨x,H1,I1,r1,q1⟩=>⟨σ,H1,I1,q1⟩) I.quiet hs
def LD (te:TE):TS:=fun D σ H=>te σ H D.rt
theorem II (he:PE X e te):PS X (.Return (some e) pos) (LD te):=by
 intro pins s σ H D I h;exact wpAny_Return_some (bU (he pins s σ H _ I h) fun v s1 ⟨x,H1,I1,r1,q1⟩=>⟨x,σ,H1,I1,r1,q1⟩)
def KU (c:TT) (t u:TS):TS:=fun D σ H=>c σ H fun b H1=>if b=true then t D σ H1 else u D σ H1
theorem C9 {c:Expr} {a b:List Stmt} {tc:TT} (hc:PT X c tc) (ha:yI X a t) (hb:yI X b u):PS X (.If c a b pos) (KU tc t u):=by
 intro pins s σ H D I h;refine wpAny_If (bU (hc pins s σ H _ I h) fun d s1 ⟨H1,I1,q1⟩=>?_)
 cases d with
 | true=>exact ha pins s1 σ H1 D I1 q1
 | false=>exact hb pins s1 σ H1 D I1 q1
end
abbrev TG:=V→St→Hp→(St→Hp→Prop)→Prop
abbrev Fm:=List V→St→Hp→(St→Hp→Prop)→Prop
def PG (X:Cx) (target:Expr) (t:TG):Prop :=
 ∀(pins:List (Addr×Obj)) (s:Shared) (σ:St) (H:Hp) (v:V) (u:Value) (Q:St→Hp→Prop),Inv X pins σ H s→RelV v u→t v σ H Q →
  wpAny (model X.prog X.w) X.A (assign target X.env u) (fun _ s'=>∃σ' H',Inv X pins σ' H' s'∧Q σ' H') X.xe s
def IM (X:Cx) (ts:List Expr) (t:Fm):Prop :=
 ∀(pins:List (Addr×Obj)) (s:Shared) (σ:St) (H:Hp) (vs:List V) (us:List Value) (Q:St→Hp→Prop),Inv X pins σ H s→Vals vs us→t vs σ H Q →
  wpAny (model X.prog X.w) X.A (assignInOrder ((assignEach ts X.env).map (·.2)) us) (fun _ s'=>∃σ' H',Inv X pins σ' H' s'∧Q σ' H') X.xe s
abbrev IB:=V→V→V→Hp→(Hp→Prop)→Prop
def G5 (X:Cx) (t:IB):Prop :=
 ∀(pins:List (Addr×Obj)) (s:Shared) (σ:St) (H:Hp) (o i v:V) (ov iv u:Value) (Q:Hp→Prop),Inv X pins σ H s→RelV o ov→RelV i iv→RelV v u→t o i v H Q →
  wpAny (model X.prog X.w) X.A (setItem ov iv u) (fun _ s'=>∃H',Inv X pins σ H' s'∧Q H') X.xe s
abbrev K6:=V→V→Hp→VK→Prop
def L0 (X:Cx) (op:Operator) (t:K6):Prop :=
 ∀(pins:List (Addr×Obj)) (s:Shared) (σ:St) (H:Hp) (x y:V) (v u:Value) (Q:VK),Inv X pins σ H s→RelV x v→RelV y u→t x y H Q →
  wpAny (model X.prog X.w) X.A (inplaceOp op v u) (EP X pins σ Q) X.xe s
section
variable {X:Cx} {pos:Pos}
def FU (i:Nat):TG:=fun v σ H Q=>Q (σ.set i (some v)) H
theorem Fo {i:Nat} {x:Str} (hN:X.N.Nodup) (hi:X.N[i]?=some x) (hx:Loc X.env.scope x) (hf:X.fn x=true∨X.env.scope.names.lookup x=some .local:=by first | exact .inl rfl | exact .inr rfl | assumption):PG X (.Name x pos) (FU i):=by
 intro pins s σ H v u Q I r h;exact wpAny_assign_Name (mR I hN hi hx r (fun s' I'=>⟨_,H,I',h⟩) hf)
def Ly:Fm:=fun vs σ H Q=>vs=[]∧Q σ H
def Jd (t:TG) (u:Fm):Fm:=fun vs σ H Q=>∃v r,vs=v :: r∧t v σ H fun σ' H'=>u r σ' H' Q
theorem ET:IM X [] Ly:=by
 intro pins s σ H vs us Q I r h;obtain⟨e,h⟩:=h;subst e;cases r;exact assignInOrder_nil ⟨σ,H,I,h⟩
theorem Cg {e:Expr} {es:List Expr} {t:TG} {u:Fm} (h1:PG X e t) (h2:IM X es u)
  (hs:(assignEach (e :: es) X.env).map (·.2)=assign e X.env :: (assignEach es X.env).map (·.2):=by rfl):IM X (e :: es) (Jd t u):=by
 intro pins s σ H vs us Q I r h;obtain⟨v,vr,e1,h⟩:=h;subst e1
 cases r with
 | cons r rr =>
  rw [hs];refine assignInOrder_cons (bU (h1 pins s σ H _ _ _ I r h) fun _ s1 ⟨σ1,H1,I1,q1⟩=>?_);exact h2 pins s1 σ1 H1 _ _ Q I1 rr q1
def LJ (K:Mn) (n:Nat) (t:Fm):TG:=fun v σ H Q=>∃a xs,v=.ref a∧jv K H a xs∧xs.length=n∧t xs σ H Q
theorem Hv {es:List Expr} {k:Nat} {t:Fm} {n:Nat} (hc:X.calm=true) (h:IM X es t)
  (hn:(assignEach es X.env).length=n:=by rfl) (hst:(assignEach es X.env).findIdx? (·.1)=none:=by rfl):PG X (.Tuple es k pos) (LJ X.K n t):=by
 intro pins s σ H v u Q I r hw;obtain⟨a,xs,e1,hq,hl,hw⟩:=hw;subst e1;cases r;obtain⟨its,rv,ht,hz⟩:=I.tuple hq;refine assign_Tuple_tuple (I.ok.hd hc) ht (by simp [hn,← hl,rv.length]) hst fun h' hx=>?_;have I1:Inv X pins σ H { s with heap:=h' }:=I.kept (t':=s.toks) fun b o e=>hx b o (MY (ML e)) e;exact h pins _ σ H xs _ Q I1 (by simpa using rv) hw
def LU (to ti:TE) (t:IB):TG:=fun v σ H Q=>to σ H fun o H1=>ti σ H1 fun i H2=>t o i v H2 fun H3=>Q σ H3
theorem BJ {o i:Expr} {to ti:TE} {t:IB} (ho:PE X o to) (hi:PE X i ti) (hs:G5 X t)
  (ha:∀v,assign (.Subscript o i pos) X.env v=(do
   let ov ← holding [v] (eval o X.env)
   let iv ← holding [v,ov] (eval i X.env)
   standAt pos
   holding [v,ov,iv] (setItem ov iv v)
   release [v,ov,iv] []):=by intro _;rfl):PG X (.Subscript o i pos) (LU to ti t):=by
 intro pins s σ H v u Q I r h;rw [ha];refine Mj (wpAny_holding (bU (ho pins s σ H _ I h) fun ov s1 hq0=>?_));obtain⟨x,H1,I1,r1,q1⟩:=hq0;refine Mj (wpAny_holding (bU (hi pins s1 σ H1 _ I1 q1) fun iv s2 hq0=>?_));obtain⟨y,H2,I2,r2,q2⟩:=hq0;refine Mj (wpAny_standAt (Mj (wpAny_holding (bU (hs pins s2 σ H2 x y v ov iv u _ I2 r1 r2 r q2) fun _ s3 ⟨H3,I3,q3⟩=>?_))));exact wpAny_release ⟨σ,H3,I3,q3⟩
def IC (te:TE) (g:TG):TS:=fun D σ H=>te σ H fun x H1=>g x σ H1 D.nx
theorem uN {tg e:Expr} {te:TE} {g:TG} (he:PE X e te) (hg:PG X tg g) (hs:swapsWithSole [tg] e pos.line X.env=pure false:=by rfl) (hw:swappedStores [tg] e X.env=pure none:=by rfl)
  (h1:(assignEach [tg] X.env).map (·.2)=[assign tg X.env]:=by rfl):PS X (.Assign [tg] e pos) (IC te g):=by
 intro pins s σ H D I h;refine wpAny_Assign_stores (bU (he pins s σ H _ I h) fun v s1 hq0=>?_) hs hw;obtain⟨x,H1,I1,r1,q1⟩:=hq0;rw [h1];exact bU (hg pins s1 σ H1 x v _ I1 r1 q1) fun _ s2 q=>q
theorem nU {i:Nat} {x:Str} {e:Expr} {te:TE} {pos':Pos} (hN:X.N.Nodup) (hi:X.N[i]?=some x) (hx:Loc X.env.scope x) (he:PE X e te) (hs:swapsWith e (some (.Name x pos')) pos.line X.env=pure false:=by rfl) (hf:X.fn x=true∨X.env.scope.names.lookup x=some .local:=by first | exact .inl rfl | exact .inr rfl | assumption) :
  PS X (.Assign [.Name x pos'] e pos) (IC te (FU i)):=by
 intro pins s σ H D I h;refine wpAny_Assign_Name (bU (he pins s σ H _ I h) fun v s1 hq0=>?_) hs;obtain⟨y,H1,I1,r1,q1⟩:=hq0;exact mR I1 hN hi hx r1 (fun s2 I2=>⟨_,H1,I2,q1⟩) hf
def Lm (i:Nat) (te:TE) (ti:K6):TS:=fun D σ H=>∃x,σ[i]?=some (some x)∧te σ H fun y H1=>ti x y H1 fun z H2=>D.nx (σ.set i (some z)) H2
theorem ID {i:Nat} {x:Str} {e:Expr} {te:TE} {op:Operator} {ti:K6} {pos':Pos} (hN:X.N.Nodup) (hi:X.N[i]?=some x) (hx:Loc X.env.scope x) (he:PE X e te) (ho:L0 X op ti) (hf:X.fn x=true∨X.env.scope.names.lookup x=some .local:=by first | exact .inl rfl | exact .inr rfl | assumption) :
  PS X (.AugAssign (.Name x pos') op e pos) (Lm i te ti):=by
 intro pins s σ H D I h;obtain⟨v,e1,h⟩:=h;obtain⟨m,hn,hl⟩:=I.loc;have vis:qJ X.env.scope x:=by rcases hx with k | k;exact .inl k;exact .inr (.inl k)
 obtain⟨u,r,l⟩:=hl i x v hi e1 vis;refine wpAny_AugAssign_Name ?_
 have go:wpAny (model X.prog X.w) X.A (eval e X.env) (fun w s₂=>wpAny (model X.prog X.w) X.A (inplaceOp op u w) (fun r s₃=>wpAny (model X.prog X.w) X.A (storeName X.env x r) (fun _=>SP X pins D .next) X.xe s₃) X.xe s₂) X.xe s:=by
  refine bU (he pins s σ H _ I h) fun w s1 hq0=>?_;obtain⟨y,H1,I1,r1,q1⟩:=hq0;refine bU (ho pins s1 σ H1 v y u w _ I1 r r1 q1) fun z s2 hq0=>?_;obtain⟨zv,H2,I2,r2,q2⟩:=hq0;exact mR I2 hN hi hx r2 (fun s3 I3=>⟨_,H2,I3,q2⟩) hf
 rcases l with ⟨hk,hm⟩ | ⟨hk,c,hc,hcell⟩
 ·exact wpAny_loadName_local I.ok.kind hk hn hm go
 ·rcases hk with hk | hk
  ·exact wpAny_loadName_cell I.ok.kind hk hc hcell go
  ·rcases hx with k | k
   ·have:X.env.scope.names.lookup x=some .free:=hk;rw [k] at this;cases this
   ·have:X.env.scope.names.lookup x=some .free:=hk;rw [k] at this;cases this
end
section
variable {X:Cx} {pos:Pos}
def GC (c:TT) (tb:TS):TS:=fun D σ H=>∃W:Nat→St→Hp→Prop,(∃m,W m σ H)∧∀m σ H,W m σ H →
 c σ H fun b H1=>if b=true then ∃N:St→Hp→Prop,(∀σ' H',N σ' H'→∃m',m' < m∧W m' σ' H')∧tb { D with nx:=N,ct:=N,bk:=D.nx } σ H1 else D.nx σ H1
theorem wH {c:Expr} {body:List Stmt} {tc:TT} {tb:TS} (hp:PassesOwn (model X.prog X.w) X.A X.env X.xe) (hc:PT X c tc) (hb:yI X body tb):PS X (.While c body [] pos) (GC tc tb):=by
 intro pins s σ H D I h;obtain⟨W,⟨m0,w0⟩,turn⟩:=h;refine wpAny_While (codeAny_whileLoop (fun n s'=>∃σ' H',Inv X pins σ' H' s'∧W n σ' H') ?_ m0 ⟨σ,H,I,w0⟩)
 rintro n s1 ⟨σ1,H1,I1,w1⟩;refine wpAny_passesOwn hp (bU (hc pins s1 σ1 H1 _ I1 (turn n σ1 H1 w1)) fun b s2 ⟨H2,I2,q2⟩=>?_)
 cases b with
 | true =>
  obtain⟨N,hN,q2⟩:=q2;rw [Mw rfl];refine wpAny_passesOwn hp (bU (hb pins s2 σ1 H2 _ I2 q2) fun f s3 q3=>?_)
  cases f with
  | next =>
   obtain⟨σ3,H3,I3,n3⟩:=q3;obtain⟨m',hm,w3⟩:=hN σ3 H3 n3
   exact⟨m',hm,σ3,H3,I3,w3⟩
  | cont =>
   obtain⟨σ3,H3,I3,n3⟩:=q3;obtain⟨m',hm,w3⟩:=hN σ3 H3 n3
   exact⟨m',hm,σ3,H3,I3,w3⟩
  | brk=>exact q3
  | ret v=>exact q3
 | false =>
  rw [Mo Bool.false_ne_true];exact wpAny_execs_nil ⟨σ1,H2,I2,q2⟩
end
structure It where
 go:Nat→Hp→Prop
 yld:Nat→Hp→V→Hp→Prop
 stop:Nat→Hp→Prop
def mi (X:Cx) (pins:List (Addr×Obj)) (H:Hp) (b:Addr):Prop :=
 H b=none∧b≠X.env.locals∧b∉X.fs∧(b∈X.ex∨X.s₀.heap.objs.size≤b)∧(∀x c,X.env.cells.lookup x=some c→c≠b)∧∀p∈X.pn ++ pins,p.1≠b
theorem Inv.AR {X:Cx} {pins:List (Addr×Obj)} {σ:St} {H H':Hp} {s:Shared} {b:Addr} (I:Inv X pins σ H s) (hb:s.heap.objs.size≤b) (hn:H' b=none):mi X pins H' b:=by
 refine⟨hn,Nat.ne_of_gt (ME I.lt hb),I.Lw hb,.inr (Ni I.sz hb),fun x c e z=>?_,fun p hp z=>?_⟩
 ·obtain⟨v,q⟩:=I.cell x c e;exact absurd (ME q.lt (by rw [z];exact hb)) (Nat.lt_irrefl _)
 ·exact absurd (ME (ML (I.pin p hp).1) (by rw [z];exact hb)) (Nat.lt_irrefl _)
structure Turn (P:Program) (w:World) (K:Mn) (tg:Expr) (J:It) (fp:List Addr) (it:Addr) (tn:Nat→Heap→Prop):Prop where
 mem:it∈fp
 obj:∀i h,tn i h→∀b∈fp,∃o,h.get? b=some o∧∀v,o.data≠.cell v
 keep:∀i h h',tn i h→(∀b∈fp,∀o,h.get? b=some o→h'.get? b=some o)→tn i h'
 item:∀(X:Cx),X.prog=P→X.w=w→X.K=K→X.calm=true→∀(i:Nat) (pins:List (Addr×Obj)) (s:Shared) (σ:St) (H:Hp) (E:Value→Shared→Prop),Inv X pins σ H s→(∀b∈fp,mi X pins H b)→tn i s.heap→J.go i H →
  wpAny (model P w) X.A (pyNext (.ref it)) (fun r s1=>∃u,r=some u ∧
   wpAny (model P w) X.A (letOwnedTupleGo tg (.ref it) u) (fun _ s2=>∃x H',Inv X pins σ H' s2∧RelV x u∧J.yld i H x H'∧tn (i + 1) s2.heap∧∀b∈fp,H' b=none) E s1) E s
 done:∀(X:Cx),X.prog=P→X.w=w→X.K=K→X.calm=true→∀(i:Nat) (pins:List (Addr×Obj)) (s:Shared) (σ:St) (H:Hp) (E:Value→Shared→Prop),Inv X pins σ H s→(∀b∈fp,mi X pins H b)→tn i s.heap→J.stop i H →
  wpAny (model P w) X.A (pyNext (.ref it)) (fun r s1=>r=none∧Inv X pins σ H s1) E s
 self:∀(A:Around) (i:Nat) (s:Shared) (Q:Value→Shared→Prop) (E:Value→Shared→Prop),tn i s.heap→Q (.ref it) s→wpAny (model P w) A (pyIter (.ref it)) Q E s
abbrev TI:=St→Hp→(It→Hp→Prop)→Prop
def JA (X:Cx) (pins:List (Addr×Obj)) (σ:St) (tg:Expr) (R:It→Hp→Prop) (itv:Value) (s2:Shared):Prop :=
 ∃(it:Addr) (fp:List Addr) (tn:Nat→Heap→Prop) (J:It) (H':Hp),itv=.ref it∧Inv X pins σ H' s2∧Turn X.prog X.w X.K tg J fp it tn∧tn 0 s2.heap∧(∀b∈fp,mi X pins H' b)∧R J H'
def PI (X:Cx) (tg iter:Expr) (wi:TI):Prop :=
 ∀(pins:List (Addr×Obj)) (s:Shared) (σ:St) (H:Hp) (R:It→Hp→Prop),Inv X pins σ H s→wi σ H R →
  wpAny (model X.prog X.w) X.A (eval iter X.env) (fun v s1=>wpAny (model X.prog X.w) X.A (pyIter v) (JA X pins σ tg R) X.xe s1) X.xe s
theorem xG {M:Model} {A:Around} {E:Value→Shared→Prop} {s:Shared} {tg:Expr} {it:Addr} {u:Value} {o:Obj} {n:String} {vs:Array Value} {Q:Unit→Shared→Prop} (ho:s.heap.get? it=some o) (hc:o.cls=.type n) (hd:o.data=.fields vs)
    (hn:["enumerate","zip","dict_itemiterator","dict_reverseitemiterator","odict_iterator","itertools.zip_longest","itertools.pairwise"].contains n=false) (hQ:Q () s):wpAny M A (letOwnedTupleGo tg (.ref it) u) Q E s:=by
  unfold letOwnedTupleGo
  cases tg <;> first
    | exact Mp hQ
    | (cases u <;> first
        | exact Mp hQ
        | (refine Mj (wpAny_load ho ?_)
           rw [hc,hd];show wpAny M A (if (["enumerate","zip","dict_itemiterator","dict_reverseitemiterator","odict_iterator","itertools.zip_longest","itertools.pairwise"].contains n && vs[0]? == some (rawInt _))=true then _ else _) Q E s
           rw [Mo (by intro h;rw [hn,Bool.false_and] at h;cases h)]
           exact Mp hQ))
def Kz (K:Mn) (a:Addr):It :=
 ⟨fun i H=>∃xs x,fU K H a xs∧xs[i]?=some x,fun i H x H'=>H'=H∧∀xs,fU K H a xs→xs[i]?=some x,fun i H=>∃xs,fU K H a xs∧xs.length≤i⟩
def Kx (K:Mn) (a:Addr):It :=
 ⟨fun i H=>∃xs x,jv K H a xs∧xs[i]?=some x,fun i H x H'=>H'=H∧∀xs,jv K H a xs→xs[i]?=some x,fun i H=>∃xs,jv K H a xs∧xs.length≤i⟩
def Du (lo:Int) (n:Nat):It:=⟨fun i _=>i < n,fun i H x H'=>H'=H∧x=.int (lo + i),fun i _=>n≤i⟩
theorem AM {P:Program} {w:World} {K:Mn} {tg:Expr} (a it:Addr):Turn P w K tg (Kz K a) [it] it (fun i h=>h.IsListIter it a i) where
 mem:=by simp
 obj:=fun i h st b hb=>by
  have e:b=it:=by simpa using hb
  subst e;obtain⟨o,e,c,d⟩:=st;exact⟨o,e,fun v z=>by rw [d] at z;cases z⟩
 keep:=fun i h h' st k=>st.at fun o e=>k it (by simp) o e
 item:=by
  intro X hP hw hK hc i pins s σ H E I hf st hg;subst hP hw hK;obtain⟨xs,x,hq,hx⟩:=hg;obtain⟨its,rv,p,hz⟩:=I.list hq;obtain⟨u,hu,ru⟩:=rv.get hx;obtain⟨f0,f1,f2,f3,f4,f5⟩:=hf it (by simp);refine wpAny_pyNext_list_item st p.isList (x:=u) (by simpa using hu) fun h' st' sb=>?_;have I1:Inv X pins σ H { s with heap:=h' }:=I.turned (t':=s.toks) (fun b o hb e=>(sb.2 b hb).trans e) f0 f1 f3 f4 f5;obtain⟨o,e,c,d⟩:=id st'
  exact⟨u,rfl,xG (s:={ s with heap:=h' }) e c d (by decide) ⟨x,H,I1,ru,⟨rfl,fun ys hy=>by rw [I.r8 hy hq];exact hx⟩,st',fun b hb=>(hf b hb).1⟩⟩
 done:=by
  intro X hP hw hK hc i pins s σ H E I hf st hg;subst hP hw hK;obtain⟨xs,hq,hx⟩:=hg;obtain⟨its,rv,p,hz⟩:=I.list hq;obtain⟨f0,f1,f2,f3,f4,f5⟩:=hf it (by simp);have hl:=rv.length;exact wpAny_pyNext_list_end (I.ok.hd hc) st p.isList (by simp;omega) fun h' eb=>⟨rfl,I.turned (t':=s.toks) (fun b o hb e=>eb b o hb e) f0 f1 f3 f4 f5⟩
 self:=fun _ _ _ _ _ st h=>wpAny_pyIter_listiter st h
theorem yR {P:Program} {w:World} {K:Mn} {tg:Expr} (a it:Addr):Turn P w K tg (Kx K a) [it] it (fun i h=>h.IsTupleIter it a i) where
 mem:=by simp
 obj:=fun i h st b hb=>by
  have e:b=it:=by simpa using hb
  subst e;obtain⟨o,e,c,d⟩:=st;exact⟨o,e,fun v z=>by rw [d] at z;cases z⟩
 keep:=fun i h h' st k=>st.at fun o e=>k it (by simp) o e
 item:=by
  intro X hP hw hK hc i pins s σ H E I hf st hg;subst hP hw hK;obtain⟨xs,x,hq,hx⟩:=hg;obtain⟨its,rv,p,hz⟩:=I.tuple hq;obtain⟨u,hu,ru⟩:=rv.get hx;obtain⟨f0,f1,f2,f3,f4,f5⟩:=hf it (by simp);refine wpAny_pyNext_tuple_item st (show s.heap.IsTuple a its.toArray from p) (x:=u) (by simpa using hu) fun h' st' sb=>?_;have I1:Inv X pins σ H { s with heap:=h' }:=I.turned (t':=s.toks) (fun b o hb e=>(sb.2 b hb).trans e) f0 f1 f3 f4 f5
  obtain⟨o,e,c,d⟩:=id st';exact⟨u,rfl,xG (s:={ s with heap:=h' }) e c d (by decide) ⟨x,H,I1,ru,⟨rfl,fun ys hy=>by rw [I.nV hy hq];exact hx⟩,st',fun b hb=>(hf b hb).1⟩⟩
 done:=by
  intro X hP hw hK hc i pins s σ H E I hf st hg;subst hP hw hK;obtain⟨xs,hq,hx⟩:=hg;obtain⟨its,rv,p,hz⟩:=I.tuple hq;obtain⟨f0,f1,f2,f3,f4,f5⟩:=hf it (by simp);have hl:=rv.length;exact wpAny_pyNext_tuple_end (I.ok.hd hc) st (show s.heap.IsTuple a its.toArray from p) (by simp;omega) fun h' eb=>⟨rfl,I.turned (t':=s.toks) (fun b o hb e=>eb b o hb e) f0 f1 f3 f4 f5⟩
 self:=fun _ _ _ _ _ st h=>wpAny_pyIter_tupleiter st h
theorem yM {P:Program} {w:World} {K:Mn} {tg:Expr} (it:Addr) (lo:Int) (n:Nat):Turn P w K tg (Du lo n) [it] it (fun i h=>IsRangeIter h it (lo + (i:Nat) * 1) ((n:Int) - (i:Nat)) 1) where
 mem:=by simp
 obj:=fun i h st b hb=>by
  have e:b=it:=by simpa using hb
  subst e
  exact⟨_,st,fun v z=>by
   have z':Data.fields _=Data.cell v:=z
   cases z'⟩
 keep:=fun i h h' st k=>k it (by simp) _ st
 item:=by
  intro X hP hw hK hc i pins s σ H E I hf st hg;subst hP hw hK;obtain⟨f0,f1,f2,f3,f4,f5⟩:=hf it (by simp);have W:=Walks.range (prog:=X.prog) (w:=X.w) (I.ok.hd hc) it lo 1 n;refine W.item i s _ _ hg st fun v h' tk hv st' kk=>?_;obtain⟨t,rfl⟩:=hv;have I1:Inv X pins σ H { s with heap:=h',toks:=tk }:=I.turned (fun b o hb e=>kk b o (by simpa using hb) e) f0 f1 f3 f4 f5;refine⟨_,rfl,xG (s:={ s with heap:=h',toks:=tk }) (n:="range_iterator") st' rfl rfl (by decide) ⟨.int (lo + i),H,I1,⟨t,?_⟩,⟨rfl,rfl⟩,st',fun b hb=>(hf b hb).1⟩⟩
  rw [Int.mul_one]
 done:=by
  intro X hP hw hK hc i pins s σ H E I hf st hg;subst hP hw hK;obtain⟨f0,f1,f2,f3,f4,f5⟩:=hf it (by simp);exact wpAny_pyNext_range_end (I.ok.hd hc) st (by have:n≤i:=hg;omega) fun h' eb=>⟨rfl,I.turned (t':=s.toks) (fun b o hb e=>eb b o hb e) f0 f1 f3 f4 f5⟩
 self:=fun _ _ _ _ _ st h=>wpAny_pyIter_rangeiter st h
section
variable {X:Cx} {tg:Expr}
theorem xv {pins:List (Addr×Obj)} {σ:St} {H:Hp} {s:Shared} {R:It→Hp→Prop} {E:Value→Shared→Prop} {lo hi:Int} {t u v:Tok} {tk:Nat} (I:Inv X pins σ H s) (h1:-(2 ^ 62)≤lo) (h2:lo < 2 ^ 62) (h3:-(2 ^ 62)≤hi) (h4:hi < 2 ^ 62)
  (q:R (Du lo (hi - lo).toNat) H):wpAny (model X.prog X.w) X.A (pyIter (.ref s.heap.objs.size)) (JA X pins σ tg R) E { s with heap:=s.heap.push { cls:=.type "range",data:=.fields #[.int lo t,.int hi u,.int 1 v] },toks:=tk }:=by
 refine wpAny_pyIter_range (IsRange.new ..) (small_one h1 h2 h3 h4) ?_;have I1:Inv X pins σ H { s with heap:=s.heap.push { cls:=.type "range",data:=.fields #[.int lo t,.int hi u,.int 1 v] },toks:=tk }:=I.kept fun b o e=>Mz _ e
 refine⟨(s.heap.push { cls:=.type "range",data:=.fields #[.int lo t,.int hi u,.int 1 v] }).objs.size,[(s.heap.push { cls:=.type "range",data:=.fields #[.int lo t,.int hi u,.int 1 v] }).objs.size],_,_,H,rfl,
  I1.kept (t':=tk) fun b o e=>Mz _ e,yM _ lo (hi - lo).toNat,?_,fun b hb=>?_,q⟩
 ·have e1:lo + ((0:Nat):Int) * 1=lo:=by simp
  have e2:(((hi - lo).toNat:Nat):Int) - ((0:Nat):Int)=Builtin.Range.rangeSize lo hi 1:=by rw [rangeSize_one];split <;> omega
  show IsRangeIter _ _ (lo + ((0:Nat):Int) * 1) ((((hi - lo).toNat:Nat):Int) - ((0:Nat):Int)) 1
  rw [e1,e2];exact MM _ rfl
 ·have e:b=(s.heap.push { cls:=.type "range",data:=.fields #[.int lo t,.int hi u,.int 1 v] }).objs.size:=by simpa using hb
  subst e;exact I1.AR (Mv _) (I1.hok.fresh (Mv _))
def Ji (ta:TA):TI:=fun σ H R=>ta σ H fun vs H1=>∃j:Int,vs=[.int j]∧-(2 ^ 62)≤j∧j < 2 ^ 62∧R (Du 0 j.toNat) H1
def Jv (ta:TA):TI:=fun σ H R=>ta σ H fun vs H1=>∃i j:Int,vs=[.int i,.int j]∧(-(2 ^ 62)≤i∧i < 2 ^ 62∧-(2 ^ 62)≤j∧j < 2 ^ 62)∧R (Du i (j - i).toNat) H1
theorem iQ {a:Expr} {ta:TA} {p pos:Pos} (hg:Gl X "range") (hm:X.mg "range" = none) (ha:PA X [a] ta) (hs:starEach [a] X.env=[(false,eval a X.env)]:=by rfl):PI X tg (.Call (.Name "range" p) [a] [] pos) (Ji ta):=by
 intro pins s σ H R I h;refine Call_ (lP I hg hm boot_range (PyProof.Rows.callWith_type1 (bU (ha pos pins s σ H _ I h) fun us s1 ⟨vs,H1,I1,r1,q1⟩=>?_) hs rfl));obtain⟨j,e,q1,q2,q⟩:=q1;subst e
 cases r1 with
 | cons r rr =>
  cases rr;obtain⟨t,rfl⟩:=r;exact call_range_1 (xv I1 (by omega) (by omega) q1 q2 (by simpa using q))
theorem Bu {a b:Expr} {ta:TA} {p pos:Pos} (hg:Gl X "range") (hm:X.mg "range" = none) (ha:PA X [a,b] ta) (hs:starEach [a,b] X.env=[(false,eval a X.env),(false,eval b X.env)]:=by rfl) (hs2:starEach [b] X.env=[(false,eval b X.env)]:=by rfl) :
  PI X tg (.Call (.Name "range" p) [a,b] [] pos) (Jv ta):=by
 intro pins s σ H R I h;refine Call_ (lP I hg hm boot_range (PyProof.Rows.callWith_type1 (bU (ha pos pins s σ H _ I h) fun us s1 ⟨vs,H1,I1,r1,q1⟩=>?_) (by rw [hs,hs2]) (by rw [hs2];rfl)));obtain⟨i,j,e,⟨q1,q2,q3,q4⟩,q⟩:=q1;subst e
 cases r1 with
 | cons r rr =>
  cases rr with
  | cons r' rr =>
   cases rr;obtain⟨t,rfl⟩:=r;obtain⟨t',rfl⟩:=r';exact call_range_2 (xv I1 q1 q2 q3 q4 q)
def KW (wi:TI) (g:TG) (tb:TS):TS:=fun D σ H=>wi σ H fun J H1=>∃W:Nat→Nat→St→Hp→Prop,(∃m,W 0 m σ H1)∧∀i m σ H,W i m σ H →
 (J.stop i H∧D.nx σ H)∨(J.go i H∧∃N:St→Hp→Prop,(∀σ' H',N σ' H'→∃m',m' < m∧W (i + 1) m' σ' H')∧∀x H',J.yld i H x H'→g x σ H' fun σ2 H2=>tb { D with nx:=N,ct:=N,bk:=D.nx } σ2 H2)
def oP (fp:List Addr) (h:Heap):List (Addr×Obj):=fp.filterMap fun b=>(h.get? b).map fun o=>(b,o)
theorem fN {fp:List Addr} {h:Heap} {b:Addr} {o:Obj} (hb:b∈fp) (e:h.get? b=some o):(b,o)∈oP fp h:=List.mem_filterMap.mpr ⟨b,hb,by rw [e];rfl⟩
theorem Bz {fp:List Addr} {h:Heap} {p:Addr×Obj} (hp:p∈oP fp h):p.1∈fp∧h.get? p.1=some p.2:=by
 obtain⟨b,hb,e⟩:=List.mem_filterMap.mp hp
 cases q:h.get? b with
 | none=>rw [q] at e;cases e
 | some o =>
  rw [q] at e;have e':(b,o)=p:=Mq e;subst e';exact⟨hb,q⟩
theorem Inv.pinned {pins:List (Addr×Obj)} {σ:St} {H:Hp} {s:Shared} {fp:List Addr} (I:Inv X pins σ H s) (hf:∀b∈fp,mi X pins H b) (ho:∀b∈fp,∃o,s.heap.get? b=some o∧∀v,o.data≠.cell v):Inv X (pins ++ oP fp s.heap) σ H s :=
 I.zB fun p hp=>(MR.mp hp).elim (fun z=>I.pin p (MX _ z)) fun z=>by
  obtain⟨hb,e⟩:=Bz z;obtain⟨f0,f1,f2,_⟩:=hf p.1 hb;obtain⟨o,e',d⟩:=ho p.1 hb;rw [e] at e';cases e';exact⟨e,f0,f1,f2,d⟩
theorem Inv.kf {pins pl:List (Addr×Obj)} {σ:St} {H:Hp} {s:Shared} (I:Inv X (pins ++ pl) σ H s):Inv X pins σ H s:=I.zB fun p hp=>I.pin p (MX _ (Np _ hp))
theorem oe {iter:Expr} {body:List Stmt} {wi:TI} {g:TG} {tb:TS} {pos:Pos} (hp:PassesOwn (model X.prog X.w) X.A X.env X.xe) (hc:X.calm=true) (hi:PI X tg iter wi) (hg:PG X tg g) (hb:yI X body tb)
  (hs:∀x,M3 iter X.env x=pure x:=by intro _;rfl):PS X (.For tg iter body [] pos) (KW wi g tb):=by
 intro pins s σ H D I h;refine wpAny_For (bU (hi pins s σ H _ I h) fun v s1 h1=>bU h1 fun itv s2 h2=>?_) hs;obtain⟨it,fp,tn,J,H2,e,I2,T,st2,f2,W,⟨m0,w0⟩,turn⟩:=h2;subst e;have stat:∀{H':Hp},(∀b∈fp,H' b=none)→∀b∈fp,mi X pins H' b:=fun hn b hb=>⟨hn b hb,(f2 b hb).2⟩;refine codeAny_forLoop_any (fun n s'=>∃i σ' H',Inv X pins σ' H' s'∧tn i s'.heap∧(∀b∈fp,H' b=none)∧W i n σ' H') ?_ m0 ⟨0,σ,H2,I2,st2,fun b hb=>(f2 b hb).1,w0⟩
 rintro n s3 ⟨i,σ3,H3,I3,st3,fr3,w3⟩;rcases turn i n σ3 H3 w3 with ⟨stop,qn⟩ | ⟨go,N,hN,step⟩
 ·refine wpAny_passesOwn hp (bU (T.done X rfl rfl rfl hc i pins s3 σ3 H3 X.xe I3 (stat fr3) st3 stop) fun r s4 ⟨hr,I4⟩=>?_);subst hr;exact wpAny_execs_nil ⟨σ3,H3,I4,qn⟩
 ·refine wpAny_passesOwn hp (bU (T.item X rfl rfl rfl hc i pins s3 σ3 H3 X.xe I3 (stat fr3) st3 go) fun r s4 ⟨u,hr,h4⟩=>?_);subst hr;refine wpAny_passesOwn hp (bU h4 fun _ s5 hq0=>?_);obtain⟨x,H5,I5,r5,y5,st5,fr5⟩:=hq0;have I5':=I5.pinned (stat fr5) (T.obj _ _ st5);refine wpAny_passesOwn hp (bU (hg _ s5 σ3 H5 x u _ I5' r5 (step x H5 y5)) fun _ s6 ⟨σ6,H6,I6,q6⟩=>?_);refine wpAny_passesOwn hp (bU (hb _ s6 σ6 H6 _ I6 q6) fun f s7 q7=>?_)
  have again:∀{σ7:St} {H7:Hp},Inv X (pins ++ oP fp s5.heap) σ7 H7 s7→N σ7 H7→∃m,m < n∧∃i σ' H',Inv X pins σ' H' s7∧tn i s7.heap∧(∀b∈fp,H' b=none)∧W i m σ' H':=fun {σ7 H7} I7 n7=>by
   obtain⟨m',hm,w7⟩:=hN σ7 H7 n7;refine⟨m',hm,i + 1,σ7,H7,I7.kf,T.keep _ _ _ st5 fun b hb o e=>(I7.pin (b,o) (MX _ (MX _ (fN hb e)))).1,fun b hb=>?_,w7⟩;obtain⟨o,e,d⟩:=T.obj _ _ st5 b hb;exact (I7.pin (b,o) (MX _ (MX _ (fN hb e)))).2.1
  cases f with
  | next=>obtain⟨σ7,H7,I7,n7⟩:=q7;exact again I7 n7
  | cont=>obtain⟨σ7,H7,I7,n7⟩:=q7;exact again I7 n7
  | brk=>obtain⟨σ7,H7,I7,q7⟩:=q7;exact⟨σ7,H7,I7.kf,q7⟩
  | ret v=>obtain⟨x7,σ7,H7,I7,r7,q7⟩:=q7;exact⟨x7,σ7,H7,I7.kf,r7,q7⟩
end
abbrev R2:=V→V→Hp→VK→Prop
def kY (X:Cx) (f:Value→Value→Sem Value) (r:R2):Prop :=
 ∀(pins:List (Addr×Obj)) (s:Shared) (σ:St) (H:Hp) (x y:V) (v u:Value) (Q:VK),Inv X pins σ H s→RelV x v→RelV y u→r x y H Q →
  wpAny (model X.prog X.w) X.A (f v u) (EP X pins σ Q) X.xe s
def Ku (X:Cx) (f:Value→Sem Value) (r:V→Hp→VK→Prop):Prop :=
 ∀(pins:List (Addr×Obj)) (s:Shared) (σ:St) (H:Hp) (x:V) (v:Value) (Q:VK),Inv X pins σ H s→RelV x v→r x H Q →
  wpAny (model X.prog X.w) X.A (f v) (EP X pins σ Q) X.xe s
def eQ (X:Cx) (f:Value) (r:List V→Hp→VK→Prop):Prop :=
 ∀(pins:List (Addr×Obj)) (s:Shared) (σ:St) (H:Hp) (xs:List V) (us:List Value) (Q:VK),Inv X pins σ H s→Vals xs us→r xs H Q →
  wpAny (model X.prog X.w) X.A (call f us) (EP X pins σ Q) X.xe s
def LI (X:Cx) (r:V→Hp→(Bool→Hp→Prop)→Prop):Prop :=
 ∀(pins:List (Addr×Obj)) (s:Shared) (σ:St) (H:Hp) (x:V) (v:Value) (Q:Bool→Hp→Prop),Inv X pins σ H s→RelV x v→r x H Q →
  wpAny (model X.prog X.w) X.A (truthy v) (TP X pins σ Q) X.xe s
def IJ (r:R2) (ta tb:TE):TE:=fun σ H Q=>ta σ H fun x H1=>tb σ H1 fun y H2=>r x y H2 Q
def L9 (r:V→Hp→VK→Prop) (ta:TE):TE:=fun σ H Q=>ta σ H fun x H1=>r x H1 Q
def rI (C:Int→Int→Prop) (g:Int→Int→V):R2:=fun x y H Q=>∃i j,x=.int i∧y=.int j∧C i j∧Q (g i j) H
def Eb (g:Int→Int→V):R2:=fun x y H Q=>∃i j,x=.int i∧y=.int j∧Q (g i j) H
def rU (g:Int→V):V→Hp→VK→Prop:=fun x H Q=>∃i,x=.int i∧Q (g i) H
section
variable {X:Cx} {a b c:Expr} {ta tb tc:TE} {pos:Pos}
theorem Hr (ha:PE X a ta) (hb:PE X b tb) {pins:List (Addr×Obj)} {s:Shared} {σ:St} {H:Hp} {R:V→V→Hp→Prop} (I:Inv X pins σ H s)
  (h:ta σ H fun x H1=>tb σ H1 fun y H2=>R x y H2) {Q:Value→Shared→Prop} {f:Value→Value→Sem Value}
  (hf:∀v u s2 x y H2,Inv X pins σ H2 s2→RelV x v→RelV y u→R x y H2→wpAny (model X.prog X.w) X.A (f v u) Q X.xe s2) :
  wpAny (model X.prog X.w) X.A (eval a X.env) (fun v s₁=>wpAny (model X.prog X.w) X.A (eval b X.env) (fun u s₂=>wpAny (model X.prog X.w) X.A (f v u) Q X.xe s₂) X.xe s₁) X.xe s:=by
 refine bU (ha pins s σ H _ I h) fun v s1 hq0=>?_;obtain⟨x,H1,I1,r1,q1⟩:=hq0;refine bU (hb pins s1 σ H1 _ I1 q1) fun u s2 hq0=>?_;obtain⟨y,H2,I2,r2,q2⟩:=hq0;exact hf v u s2 x y H2 I2 r1 r2 q2
theorem JT {op:Operator} {r:R2} (ho:kY X (binaryOp op) r) (ha:PE X a ta) (hb:PE X b tb):PE X (.BinOp a op b pos) (IJ r ta tb):=by
 intro pins s σ H Q I h;exact wpAny_BinOp (Hr ha hb I h fun v u s2 x y H2 I2 rx ry q=>ho pins s2 σ H2 x y v u Q I2 rx ry q)
theorem Kl {op:UnaryOp} {r:V→Hp→VK→Prop} (ho:Ku X (unaryOp op) r) (ha:PE X a ta):PE X (.UnaryOp op a pos) (L9 r ta):=by
 intro pins s σ H Q I h;exact UnaryOp_ (bU (ha pins s σ H _ I h) fun v s1 ⟨x,H1,I1,r1,q1⟩=>ho pins s1 σ H1 x v Q I1 r1 q1)
theorem Kw {f:Value→Value→Sem Value} {C:Int→Int→Prop} {g:Int→Int→Int}
  (rule:∀(i j:Int) (t u:Tok) (s:Shared) (Q:Value→Shared→Prop) (E:Value→Shared→Prop),C i j→Q (.int (g i j) s.toks) { s with toks:=s.toks + 1 }→wpAny (model X.prog X.w) X.A (f (.int i t) (.int j u)) Q E s) :
  kY X f (rI C fun i j=>.int (g i j)):=by
 intro pins s σ H x y v u Q I rx ry h;obtain⟨i,j,rfl,rfl,hc,q⟩:=h;obtain⟨t,rfl⟩:=rx;obtain⟨t',rfl⟩:=ry;exact rule i j t t' s _ _ hc ⟨.int (g i j),H,I.tok _,⟨_,rfl⟩,q⟩
theorem Ki {f:Value→Value→Sem Value} {g:Int→Int→Int}
  (rule:∀(i j:Int) (t u:Tok) (s:Shared) (Q:Value→Shared→Prop) (E:Value→Shared→Prop),Q (.int (g i j) s.toks) { s with toks:=s.toks + 1 }→wpAny (model X.prog X.w) X.A (f (.int i t) (.int j u)) Q E s) :
  kY X f (Eb fun i j=>.int (g i j)):=by
 intro pins s σ H x y v u Q I rx ry h;obtain⟨i,j,rfl,rfl,q⟩:=h;obtain⟨t,rfl⟩:=rx;obtain⟨t',rfl⟩:=ry;exact rule i j t t' s _ _ ⟨.int (g i j),H,I.tok _,⟨_,rfl⟩,q⟩
theorem GR {f:Value→Value→Sem Value} {g:Int→Int→Bool}
  (rule:∀(i j:Int) (t u:Tok) (s:Shared) (Q:Value→Shared→Prop) (E:Value→Shared→Prop),Q (.bool (g i j)) s→wpAny (model X.prog X.w) X.A (f (.int i t) (.int j u)) Q E s) :
  kY X f (Eb fun i j=>.bl (g i j)):=by
 intro pins s σ H x y v u Q I rx ry h;obtain⟨i,j,rfl,rfl,q⟩:=h;obtain⟨t,rfl⟩:=rx;obtain⟨t',rfl⟩:=ry;exact rule i j t t' s _ _ ⟨.bl (g i j),H,I,rfl,q⟩
def GQ (i j:Int):Prop:=0≤j∧j≤1000000∧i.natAbs < 2 ^ 64
theorem Ia:kY X (binaryOp .Add) (Eb fun i j=>.int (i + j)):=Ki fun _ _ _ _ _ _ _ q=>add_int q
theorem G6:kY X (binaryOp .Sub) (Eb fun i j=>.int (i - j)):=Ki fun _ _ _ _ _ _ _ q=>sub_int q
theorem Ey:kY X (binaryOp .Mod) (rI (fun _ j=>j≠0) fun i j=>.int (i.fmod j)):=Kw fun _ _ _ _ _ _ _ hc q=>mod_int' hc q
theorem HH:kY X (binaryOp .Pow) (rI GQ fun i j=>.int (i ^ j.toNat)):=Kw fun _ _ _ _ _ _ _ hc q=>pow_int_small hc.1 hc.2.1 hc.2.2 q
theorem L6 {f:Value→Sem Value} {g:Int→Int}
  (rule:∀(i:Int) (t:Tok) (s:Shared) (Q:Value→Shared→Prop) (E:Value→Shared→Prop),Q (.int (g i) s.toks) { s with toks:=s.toks + 1 }→wpAny (model X.prog X.w) X.A (f (.int i t)) Q E s) :
  Ku X f (rU fun i=>.int (g i)):=by
 intro pins s σ H x v Q I rx h;obtain⟨i,rfl,q⟩:=h;obtain⟨t,rfl⟩:=rx;exact rule i t s _ _ ⟨.int (g i),H,I.tok _,⟨_,rfl⟩,q⟩
theorem G7:Ku X (unaryOp .USub) (rU fun i=>.int (-i)):=L6 fun _ _ _ _ _ q=>neg_int q
end
section
variable {X:Cx} {a b c:Expr} {ta tb tc:TE} {pos:Pos}
theorem Jq:kY X (compareOp .Lt) (Eb fun i j=>.bl (decide (i < j))):=GR fun _ _ _ _ _ _ _ q=>lt_int q
theorem IP:kY X (compareOp .Gt) (Eb fun i j=>.bl (decide (j < i))):=GR fun _ _ _ _ _ _ _ q=>gt_int q
theorem Jc:kY X (compareOp .GtE) (Eb fun i j=>.bl (decide (j≤i))):=GR fun _ _ _ _ _ _ _ q=>ge_int q
theorem kY.or {f:Value→Value→Sem Value} {r r':R2} (h:kY X f r) (h':kY X f r'):kY X f (fun x y H Q=>r x y H Q∨r' x y H Q):=by
 intro pins s σ H x y v u Q I rx ry q;rcases q with q | q
 ·exact h pins s σ H x y v u Q I rx ry q
 ·exact h' pins s σ H x y v u Q I rx ry q
theorem kz (b:Expr) {op:CmpOp} (h:op≠.In:=by decide) (h2:op≠.NotIn:=by decide):behindInMarks op b=false:=by
 have e1:(op == CmpOp.In)=false:=by cases op <;> first | rfl | exact absurd rfl h
 have e2:(op == CmpOp.NotIn)=false:=by cases op <;> first | rfl | exact absurd rfl h2
 cases b <;> simp [behindInMarks,e1,e2]
theorem EI {op:CmpOp} {r:R2} (ho:kY X (compareOp op) r) (ha:PE X a ta) (hb:PE X b tb) (hm:behindInMarks op b=false):PE X (.Compare a [op] [b] pos) (IJ r ta tb):=by
 intro pins s σ H Q I h;exact wpAny_Compare1 (Hr ha hb I h fun v u s2 x y H2 I2 rx ry q=>ho pins s2 σ H2 x y v u Q I2 rx ry q) hm
def IT (t:TE):TT:=fun σ H Q=>t σ H fun x H'=>∃k,x=.bl k∧Q k H'
theorem mC {op:CmpOp} {r:R2} (ho:kY X (compareOp op) r) (ha:PE X a ta) (hb:PE X b tb) (hm:behindInMarks op b=false):PT X (.Compare a [op] [b] pos) (IT (IJ r ta tb)):=by
 intro pins s σ H Q I h
 refine wpAny_isTrue_Compare1 (bU (ha pins s σ H _ I h) fun v s1 ⟨x,H1,I1,r1,q1⟩=>bU (hb pins s1 σ H1 _ I1 q1) fun u s2 ⟨y,H2,I2,r2,q2⟩ =>
  bU (ho pins s2 σ H2 x y v u _ I2 r1 r2 q2) fun c s3 ⟨z,H3,I3,r3,k,e,q3⟩=>?_) hm
 subst e;cases r3;exact wpAny_truthy_bool ⟨H3,I3,q3⟩
def JL (K:Mn) (x:V) (H:Hp) (k:Bool):Prop :=
 match x with
 | .non=>k=false
 | .bl b=>k=b
 | .int i=>k=(i != 0)
 | .str y=>y.length≤sizeLine∧k=((y.length:Int) != 0)
 | .byt y=>y.size≤sizeLine∧k=((y.size:Int) != 0)
 | .ref p=>(∃xs,fU K H p xs∧k = !xs.isEmpty)∨(∃xs,jv K H p xs∧k = !xs.isEmpty)∨∃kvs,H p=some (.dK kvs)∧k = !kvs.isEmpty
 | _=>False
theorem yi {κ:Type} {kvs:List (κ×V)} {vs:List (κ×Value)} (r:KV kvs vs):(!vs.isEmpty) = !kvs.isEmpty:=by
 cases r <;> rfl
theorem rT {xs:List V} {its:List Value} (r:Vals xs its):(!its.toArray.isEmpty) = !xs.isEmpty:=by
 cases r <;> simp
theorem mf:(sizeLine:Nat) < 2 ^ 63:=by rw [sizeLine_eq];decide
theorem Il:LI X (fun x H Q=>∃k,JL X.K x H k∧Q k H):=by
 intro pins s σ H x v Q I rx h;obtain⟨k,e,q⟩:=h;have hl:=mf;have hs:sizeLine=16777216:=sizeLine_eq
 cases x with
 | non =>
  cases rx;have e':k=false:=e;subst e'
  exact truthy_none ⟨H,I,q⟩
 | bl b =>
  cases rx;have e':k=b:=e;subst e'
  exact wpAny_truthy_bool ⟨H,I,q⟩
 | int i =>
  obtain⟨t,rfl⟩:=rx;have e':k=(i != 0):=e;subst e'
  exact PySem.P.truthy_int ⟨H,I,q⟩
 | str y =>
  obtain⟨t,rfl⟩:=rx;obtain⟨hy,e'⟩:y.length≤sizeLine∧k=((y.length:Int) != 0):=e;subst e'
  exact PySem.P.truthy_str (by omega) ⟨H,I.tok _,q⟩
 | byt y =>
  obtain⟨t,rfl⟩:=rx;obtain⟨hy,e'⟩:y.size≤sizeLine∧k=((y.size:Int) != 0):=e;subst e'
  exact PySem.W.truthy_bytes (by omega) ⟨H,I.tok _,q⟩
 | ref p =>
  cases rx;have e':(∃xs,fU X.K H p xs∧k = !xs.isEmpty)∨(∃xs,jv X.K H p xs∧k = !xs.isEmpty)∨∃kvs,H p=some (.dK kvs)∧k = !kvs.isEmpty:=e;rcases e' with ⟨xs,hx,e'⟩ | ⟨xs,hx,e'⟩ | ⟨kvs,hx,e'⟩
  ·subst e';obtain⟨its,r,pl,hz⟩:=I.list hx;have hlen:=r.length;exact wpAny_truthy_list pl.isList (by simp only [MH];omega) ⟨H,I.tok _,by rw [rT r];exact q⟩
  ·subst e';obtain⟨its,r,pl,hz⟩:=I.tuple hx;have hlen:=r.length;exact truthy_tuple pl (by simp only [MH];omega) ⟨H,I.tok _,by rw [rT r];exact q⟩
  ·subst e';obtain⟨hz,hS,vs,r,m⟩:kvs.length≤sizeLine∧(p == sysModules)=false∧∃vs,KV kvs vs∧s.heap.DictOf (qx X.prog X.w) p vs:=I.hok p _ hx;have hlen:kvs.length=vs.length:=Paired.length r
   exact wpAny_truthy_dict hS m (by omega) ⟨H,I.tok _,by rw [yi r];exact q⟩
 | _=>exact (show False from e).elim
theorem Cp (ha:PE X a ta) (he:∀whole,isTrue a X.env whole=(do let v ← whole;standAt a.pos;holding [v] (truthy v))) :
  PT X a (fun σ H Q=>ta σ H fun x H'=>∃k,JL X.K x H' k∧Q k H'):=by
 intro pins s σ H Q I h;exact isTrue_plain (bU (ha pins s σ H _ I h) fun v s1 ⟨x,H1,I1,r1,q1⟩=>Il pins s1 σ H1 x v Q I1 r1 q1) (he _)
theorem yJ:kY X (binaryOp .Add) (fun x y H Q=>∃i j,x=.str i∧y=.str j∧i.length + j.length≤sizeLine∧Q (.str (i ++ j)) H):=by
 intro pins s σ H x y v u Q I rx ry h;obtain⟨i,j,rfl,rfl,hz,q⟩:=h;obtain⟨t,rfl⟩:=rx;obtain⟨t',rfl⟩:=ry;exact add_str (fun t' tk=>⟨.str (i ++ j),H,I.tok _,⟨_,rfl⟩,q⟩) hz
theorem vals1 {x:V} {us:List Value} (r:Vals [x] us):∃u,us=[u]∧RelV x u:=by
 cases r with
 | cons r1 r2=>cases r2;exact⟨_,rfl,r1⟩
theorem vals2 {x y:V} {us:List Value} (r:Vals [x,y] us):∃u w',us=[u,w']∧RelV x u∧RelV y w':=by
 cases r with
 | cons r1 r2 =>
  cases r2 with
  | cons r3 r4=>cases r4;exact⟨_,_,rfl,r1,r3⟩
theorem Cw:eQ X (.builtin "abs") (fun xs H Q=>∃i,xs=[.int i]∧Q (.int (if i < 0 then -i else i)) H):=by
 intro pins s σ H xs us Q I r h;obtain⟨i,rfl,q⟩:=h;obtain⟨u,rfl,t,rfl⟩:=vals1 r;exact call_abs_int fun u tk=>⟨.int (if i < 0 then -i else i),H,I.tok _,⟨_,rfl⟩,q⟩
theorem Bf (hc:X.calm=true):eQ X (.builtin "max") (fun xs H Q=>∃i j,xs=[.int i,.int j]∧Q (.int (if j > i then j else i)) H):=by
 intro pins s σ H xs us Q I r h;obtain⟨i,j,rfl,q⟩:=h;obtain⟨u,w',rfl,⟨t,rfl⟩,⟨t',rfl⟩⟩:=vals2 r;refine max_two_ints (I.ok.hd hc) fun h' tk k=>⟨_,H,I.kept k,?_,q⟩
 by_cases hj:j > i
 ·rw [Mw hj,Mw hj];exact⟨_,rfl⟩
 ·rw [Mo hj,Mo hj];exact⟨_,rfl⟩
theorem A7 (hc:X.calm=true):eQ X (.builtin "min") (fun xs H Q=>∃i j,xs=[.int i,.int j]∧Q (.int (if j < i then j else i)) H):=by
 intro pins s σ H xs us Q I r h;obtain⟨i,j,rfl,q⟩:=h;obtain⟨u,w',rfl,⟨t,rfl⟩,⟨t',rfl⟩⟩:=vals2 r;refine min_two_ints (I.ok.hd hc) fun h' tk k=>⟨_,H,I.kept k,?_,q⟩
 by_cases hj:j < i
 ·rw [Mw hj,Mw hj];exact⟨_,rfl⟩
 ·rw [Mo hj,Mo hj];exact⟨_,rfl⟩
theorem AL:eQ X (.type "int") (fun xs H Q=>(∃i,xs=[.int i]∧Q (.int i) H)∨∃k,xs=[.bl k]∧Q (.int (if k then 1 else 0)) H):=by
 intro pins s σ H xs us Q I r h;rcases h with ⟨i,rfl,q⟩ | ⟨k,rfl,q⟩
 ·obtain⟨u,rfl,t,rfl⟩:=vals1 r;exact call_int_int ⟨.int i,H,I,⟨_,rfl⟩,q⟩
 ·obtain⟨u,rfl,r1⟩:=vals1 r;cases r1;exact call_int_bool ⟨.int (if k then 1 else 0),H,I.tok _,⟨_,rfl⟩,q⟩
end
structure yS (h:Heap) (x dx C:Addr) (mA:Str→Option Value):Prop where
 obj:h.get? x=some (PySem.W.instObj C dx)
 ns:h.Ns1 dx mA
 ne:dx≠x
theorem BA {h:Heap} {dx:Addr} {mA:Str→Option Value} (n:h.Ns1 dx mA):∃od,h.get? dx=some od∧∀name,PySem.W.lookIn name od=some (mA name):=by
 obtain⟨o,es,ep,ho,hd,hk,_,hm⟩:=n;refine⟨o,ho,fun name=>?_⟩;have e:=hm name;unfold nsFind findBy at e;rw [← Array.find?_toList] at e;unfold PySem.W.lookIn;rw [hd];dsimp only
 split
 ·rename_i y q;rw [q] at e;exact M0 some e
 ·rename_i q;rw [q] at e
  have a:es.toList.any (·.refKey)=false:=by
   rw [List.any_eq_false];intro y hy;obtain⟨z,t,hkey⟩:=hk y (Array.mem_toList_iff.mp hy);simp [DictEntry.refKey,hkey]
  have a':¬ es.toList.any (·.refKey)=true:=by rw [a];exact Bool.false_ne_true
  rw [Mo a'];exact M0 some e
theorem yS.look {h:Heap} {x dx C:Addr} {mA:Str→Option Value} (I:yS h x dx C mA):∃od,PySem.W.InstAt h x (PySem.W.instObj C dx) C (some od)∧∀name,PySem.W.lookIn name od=some (mA name) :=
 let ⟨od,ho,hl⟩:=BA I.ns
 ⟨od,⟨I.obj,rfl,rfl,ho⟩,hl⟩
section
variable {prog:Program} {w:World} {A:Around} {E:Value→Shared→Prop} {s:Shared} {K:Mn} {x dx C f:Addr} {mA:Str→Option Value} {name:Str} {v:Value}
theorem get_map {expr:Bool} {Q:Value→Shared→Prop} (X:K.In s.heap) (I:yS s.heap x dx C mA) (hg:PySem.W.plainGet K C name=true) (hh:PySem.W.hasDictIn K C=true)
  (ha:PySem.W.findIn K (.ref C) name=some none) (hv:mA name=some v) (hv':PySem.W.handedIn v=true) (h:Q v { s with toks:=s.toks + 1 }) :
  wpAny (model prog w) A (getAttr (.ref x) name expr) Q E s:=by
 obtain⟨od,J,hl⟩:=I.look;exact PySem.W.get_value X J (PySem.W.plainGet_of hg).1 (PySem.W.findObj_own hh ha rfl (by rw [hl,hv])) hv' h
theorem CO {pl:Sem Bool} {Q:Value×List Value→Shared→Prop} (X:K.In s.heap) (I:yS s.heap x dx C mA) (hg:PySem.W.plainGet K C name=true)
  (hf:PySem.W.findIn K (.ref C) name=some (some (.ref f))) (ht:PySem.W.isFn K (.ref f)=true) (hv:mA name=none) (h:Q (.ref f,[.ref x]) s) :
  wpAny (model prog w) A (getMethod (.ref x) name pl) Q E s:=by
 obtain⟨od,J,hl⟩:=I.look;exact PySem.W.method_fn X J (PySem.W.plainGet_of hg).1 (PySem.W.plainGet_of hg).2 hf (beq_iff_eq.mp ht) (by show (PySem.W.lookIn name od).map (·.isSome)=some false;rw [hl,hv];rfl) h
theorem Fl {ns:List Str} {Q:Unit→Shared→Prop} (X:K.In s.heap) (I:yS s.heap x dx C mA)
  (hs:PySem.W.findIn K (.ref C) "__setattr__" = some (some (.builtin "object.__setattr__"))) (hp:PySem.W.plainOver K C=true) (ht:PySem.W.takerIn K C name=some none) (hh:PySem.W.hasDictIn K C=true)
  (hw:PySem.Within mA ns) (hsz:ns.length≤sizeLine)
  (h:∀h',yS h' x dx C (fun y=>if y=name then some v else mA y)→Heap.SameBut dx s.heap h'→Q () { s with heap:=h',toks:=s.toks + 2 }) :
  wpAny (model prog w) A (setAttr (.ref x) name v) Q E s:=by
 obtain⟨od,J,hl⟩:=I.look;refine PySem.W.set_plain X J hs (PySem.W.osa_open (s:={ s with toks:=s.toks + 1 }) (r:=none) X J hp ht fun b=>?_);obtain⟨cd,hc,hd'⟩:=PySem.W.any_some hh;have hx:s.heap.get? x=some ⟨.ref C,some dx,.plain,#[]⟩:=I.obj;refine Mj (Mp (Mj (Mj (wpAny_loadPart hx (Mj (PySem.W.Looks.here (s:={ s with toks:=s.toks + 1 }) (PySem.W.looks_clsIn X hc) ?_))))));rw [hd'];refine Mp (a:=some dx) (Mj (Mp (Mj ?_)))
 refine wpAny_nsSet1 (s:={ s with toks:=s.toks + 1 }) I.ns fun h' hn2 hs2=>?_;obtain⟨oD,esD,epD,hoD,hdD,hcD⟩:=hn2.count (PySem.Within.cons name v hw);refine Mj (wpAny_lookBehind hoD (by rw [hdD];exact pastItsLine_dict (Ni hcD (by rw [MQ];omega))) ?_);exact Mp (h _ ⟨(hs2.2 _ (Ne.symm I.ne)).trans I.obj,hn2,I.ne⟩ hs2)
theorem B4 {R:Result→Shared→Prop} {vs:List Value} {kw:List (Str×Value)} (X:K.In s.heap) (hm:PySem.W.makesIn K C=true)
  (hi:PySem.W.findIn K (.ref C) "__init__" = some (some (.ref f))) (hf:PySem.W.typeIn K (.ref f)=some (.type "function"))
  (h:codeAny (model prog w) (A.under (.builtin "type.__call__" ⟨.ref C :: vs,kw⟩)) (.call (.ref f) ⟨.ref (s.heap.objs.size + 1) :: vs,kw⟩) (PySem.W.InitBack (s.heap.objs.size + 1) R)
   { s with heap:=(s.heap.push PySem.W.emptyDict).push (PySem.W.instObj C s.heap.objs.size) }) :
  codeAny (model prog w) A (.call (.ref C) ⟨vs,kw⟩) R s:=by
 obtain⟨hh,g,d,t,os⟩:=s;exact PySem.W.make_core (PySem.W.makes_of X hm) (PySem.W.looks_findIn X hi) (fun self=>PySem.W.bind_fn X self hf) (.inl rfl) h
end
def gk (f:Str) (v:V):List (Str×V)→List (Str×V)
 | []=>[(f,v)]
 | (g,x) :: r=>if g=f then (g,v) :: r else (g,x) :: gk f v r
theorem pj (f g:Str) (v:V):∀fs:List (Str×V),(gk f v fs).lookup g=if g=f then some v else fs.lookup g
 | []=>by
  show List.lookup g [(f,v)]=_
  by_cases h:g=f
  ·have hb:(g == f)=true:=beq_iff_eq.mpr h;simp only [List.lookup,hb,Mw h]
  ·have hb:(g == f)=false:=M7.mpr h
   simp only [List.lookup,hb,Mo h]
 | (k,x) :: r=>by
  have ih:=pj f g v r;rw [show gk f v ((k,x) :: r)=(if k=f then (k,v) :: r else (k,x) :: gk f v r) from rfl]
  by_cases hk:k=f
  ·rw [Mw hk]
   by_cases h:g=k
   ·have hb:(g == k)=true:=beq_iff_eq.mpr h;simp only [List.lookup,hb,Mw (h.trans hk)]
   ·have hb:(g == k)=false:=M7.mpr h;simp only [List.lookup,hb,Mo (fun e:g=f=>h (e.trans hk.symm))]
  ·rw [Mo hk]
   by_cases h:g=k
   ·have hb:(g == k)=true:=beq_iff_eq.mpr h;simp only [List.lookup,hb,Mo (fun e:g=f=>hk (h.symm.trans e))]
   ·have hb:(g == k)=false:=M7.mpr h;simp only [List.lookup,hb];exact ih
theorem oS (f:Str) (v:V):∀fs:List (Str×V),f∈(gk f v fs).map (·.1)∧∀g,g∈fs.map (·.1)→g∈(gk f v fs).map (·.1)
 | []=>⟨by simp [gk],fun g h=>by simp at h⟩
 | (k,x) :: r=>by
  obtain⟨i1,i2⟩:=oS f v r;rw [show gk f v ((k,x) :: r)=(if k=f then (k,v) :: r else (k,x) :: gk f v r) from rfl]
  by_cases hk:k=f
  ·rw [Mw hk];subst hk;exact⟨by simp,fun g h=>by simpa using h⟩
  ·rw [Mo hk];refine⟨?_,fun g h=>?_⟩
   ·rw [MP];exact MB _ i1
   ·rw [MP] at h ⊢;rcases MA.mp h with e | e
    ·exact MA.mpr (.inl e)
    ·exact MB _ (i2 g e)
theorem pD (f:Str) (v:V):∀fs:List (Str×V),(gk f v fs).length≤fs.length + 1
 | []=>by simp [gk]
 | (k,x) :: r=>by
  have ih:=pD f v r;rw [show gk f v ((k,x) :: r)=(if k=f then (k,v) :: r else (k,x) :: gk f v r) from rfl]
  by_cases hk:k=f
  ·rw [Mw hk,MQ,MQ];omega
  ·rw [Mo hk,MQ,MQ];omega
theorem tq.some_of {v:V} {o:Option Value} (r:tq (some v) o):∃u,o=some u∧RelV v u:=by
 cases o with
 | none=>exact (show False from r).elim
 | some u=>exact⟨u,rfl,r⟩
theorem tq.none_of {o:Option Value} (r:tq none o):o=none:=by
 cases o with
 | none=>rfl
 | some u=>exact (show False from r).elim
theorem AI {v:V} {u:Value} (r:RelV v u):PySem.W.handedIn u=true:=by
 cases v with
 | non=>cases (show u=Value.none from r);rfl
 | bl b=>cases (show u=Value.bool b from r);rfl
 | int i=>obtain⟨t,e⟩:=(show ∃t,u=Value.int i t from r);cases e;rfl
 | str x=>obtain⟨t,e⟩:=(show ∃t,u=Value.str x t from r);cases e;rfl
 | byt b=>obtain⟨t,e⟩:=(show ∃t,u=Value.bytes b t from r);cases e;rfl
 | flt b=>obtain⟨t,e⟩:=(show ∃t,u=Value.float b t from r);cases e;rfl
 | ref a=>cases (show u=Value.ref a from r);rfl
 | ty n=>cases (show u=Value.type n from r);rfl
section
variable {P:Program} {w:World} {H H':Hp} {h h':Heap} {a C dx:Addr} {fs fs':List (Str×V)}
theorem nI (hok:qA P w H h) (e:H a=some (.ins C dx fs)):∃mA,yS h a dx C mA∧(∀f,tq (fs.lookup f) (mA f))∧PySem.Within mA (fs.map (·.1))∧fs.length≤1000∧H dx=some (.own a):=by
 obtain⟨d,z,ne,ob,mA,n,r,q⟩:=(show c6 P w H h a (.ins C dx fs) from hok a _ e);exact⟨mA,⟨ob,n,ne⟩,r,q,z,d⟩
end
structure wN (K:Mn) (C:Addr):Prop where
 pg:PySem.W.plainGet K C Str.empty=true
 hd:PySem.W.hasDictIn K C=true
 po:PySem.W.plainOver K C=true
 sa:PySem.W.findIn K (.ref C) "__setattr__" = some (some (.builtin "object.__setattr__"))
theorem wN.get {K:Mn} {C:Addr} (c:wN K C) (f:Str):PySem.W.plainGet K C f=true:=c.pg
def dS (K:Mn) (C:Addr) (f:Str):Prop:=PySem.W.findIn K (.ref C) f=some none
theorem dS.Jx {K:Mn} {C:Addr} {f:Str} (n:dS K C f):PySem.W.takerIn K C f=some none:=by
 unfold PySem.W.takerIn;rw [show PySem.W.findIn K (.ref C) f=some none from n];rfl
structure Meth (K:Mn) (C:Addr) (m:Str) (f:Addr):Prop where
 at_:PySem.W.findIn K (.ref C) m=some (some (.ref f))
 fn:PySem.W.isFn K (.ref f)=true
 kp:PySem.W.keepIn K (.ref f)=true
section
variable {X:Cx} {pins:List (Addr×Obj)} {σ:St} {H:Hp} {s:Shared} {a C dx:Addr} {fs:List (Str×V)} {f:Str} {v:V} {A:Around} {E:Value→Shared→Prop}
theorem yC {b:Bool} {Q:Value→Shared→Prop} (I:Inv X pins σ H s) (e:H a=some (.ins C dx fs)) (c:wN X.K C) (n:dS X.K C f) (l:fs.lookup f=some v)
  (h:∀u s',Inv X pins σ H s'→RelV v u→Q u s'):wpAny (model X.prog X.w) A (getAttr (.ref a) f b) Q E s:=by
 obtain⟨mA,O,r,_,_,_⟩:=nI I.hok e;obtain⟨u,hu,ru⟩:=tq.some_of (v:=v) (o:=mA f) (by rw [← l];exact r f);exact get_map I.uA O (c.get f) c.hd n hu (AI ru) (h u _ (I.tok _) ru)
theorem yv {m:Str} {g:Addr} {pl:Sem Bool} {Q:Value×List Value→Shared→Prop} (I:Inv X pins σ H s) (e:H a=some (.ins C dx fs)) (c:wN X.K C) (k:Meth X.K C m g) (l:fs.lookup m=none)
  (h:Q (.ref g,[.ref a]) s):wpAny (model X.prog X.w) A (getMethod (.ref a) m pl) Q E s:=by
 obtain⟨mA,O,r,_,_,_⟩:=nI I.hok e;have hn:mA m=none:=tq.none_of (by rw [← l];exact r m);exact CO I.uA O (c.get m) k.at_ k.fn hn h
theorem yg {y:V} {u:Value} {Q:Unit→Shared→Prop} (I:Inv X pins σ H s) (e:H a=some (.ins C dx fs)) (c:wN X.K C) (n:dS X.K C f) (hl:fs.length < 1000) (ry:RelV y u)
  (h:∀s',Inv X pins σ (upd H a (.ins C dx (gk f y fs))) s'→Q () s'):wpAny (model X.prog X.w) A (setAttr (.ref a) f u) Q E s:=by
 obtain⟨mA,O,r,wi,_,ho⟩:=nI I.hok e;have hz:(fs.map (·.1)).length≤sizeLine:=by rw [My,sizeLine_eq];omega
 refine Fl I.uA O c.sa c.po n.Jx c.hd wi hz fun h' O' sb=>h _ ?_;have hd:∃o,h'.get? dx=some o:=let ⟨o,_,_,e',_⟩:=O'.ns;⟨o,e'⟩
 refine I.write (x:=a) (e:=dx) (by rw [e];exact True.intro) (.inr ho) (fun b q hb z=>(sb.2 b hb).trans z) hd ?_;refine⟨by rw [aq O.ne];exact ho,?_,O.ne,O'.obj,_,O'.ns,fun g=>?_,fun g hg=>?_⟩
 ·have:=pD f y fs;omega
 ·show tq ((gk f y fs).lookup g) (if g=f then some u else mA g)
  rw [pj]
  by_cases q:g=f
  ·rw [Mw q,Mw q];exact ry
  ·rw [Mo q,Mo q];exact r g
 ·by_cases q:g=f
  ·rw [q];exact (oS f y fs).1
  ·refine (oS f y fs).2 g (wi g fun z=>hg ?_);show (if g=f then some u else mA g)=none
   rw [Mo q];exact z
theorem Inv.made (I:Inv X pins σ H s):Inv X pins σ (upd (upd H s.heap.objs.size (.own (s.heap.objs.size + 1))) (s.heap.objs.size + 1) (.ins C s.heap.objs.size []))
  { s with heap:=(s.heap.push PySem.W.emptyDict).push (PySem.W.instObj C s.heap.objs.size) }:=by
 have e1:(s.heap.push PySem.W.emptyDict).get? s.heap.objs.size=some PySem.W.emptyDict:=MM s.heap rfl
 have e2:((s.heap.push PySem.W.emptyDict).push (PySem.W.instObj C s.heap.objs.size)).get? (s.heap.objs.size + 1)=some (PySem.W.instObj C s.heap.objs.size):=by
  have:=MM (s.heap.push PySem.W.emptyDict) (o:=PySem.W.instObj C s.heap.objs.size) rfl
  rwa [Heap.size_push] at this
 have e3:(s.heap.push PySem.W.emptyDict).Ns s.heap.objs.size (fun _=>none):=⟨PySem.W.emptyDict,#[],_,e1,rfl,(fun e he=>absurd he (by simp)),fun _=>rfl⟩;have I1:=I.laid (a:=s.heap.objs.size) (o:=.own (s.heap.objs.size + 1)) (h':=s.heap.push PySem.W.emptyDict) (t':=s.toks) (fun b u q=>Mz _ q) (Mv _) ⟨_,e1⟩;refine I1.laid (a:=s.heap.objs.size + 1) (o:=.ins C s.heap.objs.size []) (t':=s.toks) (fun b u q=>Mz _ q) (Nat.le_of_eq (Heap.size_push _ _)) ?_
 have ne:s.heap.objs.size≠s.heap.objs.size + 1:=MY (Nat.lt_succ_self _);refine⟨by rw [aq ne,au],Nc _,ne,e2,fun _=>none,(Heap.Ns1.of_empty e3).at fun o q=>Mz _ q,fun _=>True.intro,fun y hy=>absurd rfl hy⟩
theorem EL {prog:Program} {w:World} {env:Env} {e:Expr} {f:Str} {pos:Pos} {s:Shared} {Q:Value→Shared→Prop} (hb:attributeBase e f env (eval e env)=eval e env)
  (h:wpAny (model prog w) A (eval e env) (fun o s₁=>wpAny (model prog w) A (getAttr o f true) Q E s₁) E s):wpAny (model prog w) A (eval (.Attribute e f pos) env) Q E s :=
 Attribute_any_ h (by rw [arm_eval_Attribute,hb])
end
def LH (K:Mn) (ta:TE) (f:Str):TE:=fun σ H Q=>ta σ H fun x H1=>∃a C dx fs v,x=.ref a∧H1 a=some (.ins C dx fs)∧wN K C∧dS K C f∧fs.lookup f=some v∧Q v H1
def LF (K:Mn) (ta tv:TE) (f:Str):TS:=fun D σ H=>tv σ H fun y H1=>ta σ H1 fun x H2=>∃a C dx fs,x=.ref a∧H2 a=some (.ins C dx fs)∧wN K C∧dS K C f∧fs.length < 1000 ∧
 D.nx σ (upd H2 a (.ins C dx (gk f y fs)))
section
variable {X:Cx} {o e value:Expr} {f:Str} {pos pos' tpos:Pos} {ta tv:TE}
theorem rD (he:PE X e ta) (hb:attributeBase e f X.env (eval e X.env)=eval e X.env):PE X (.Attribute e f pos) (LH X.K ta f):=by
 intro pins s σ H Q I h;refine EL hb (bU (he pins s σ H _ I h) fun u s1 hq0=>?_);obtain⟨x,H1,I1,rx,a,C,dx,fs,v,ex,ea,c,n,l,q⟩:=hq0;subst ex;obtain rfl:u=Value.ref a:=rx;exact yC I1 ea c n l fun u' s2 I2 ru=>⟨v,H1,I2,ru,q⟩
theorem DF (ha:PE X o ta) (hv:PE X value tv) (hs:swapsWith value (some (.Attribute o f pos')) pos.line X.env=pure false):PS X (.Assign [.Attribute o f pos'] value pos) (LF X.K ta tv f):=by
 intro pins s σ H D I h;refine plainObj_wpAny_Assign_Attribute (bU (hv pins s σ H _ I h) fun u s1 ⟨y,H1,I1,ry,q⟩=>bU (ha pins s1 σ H1 _ I1 q) fun ov s2 hq0=>?_) hs;obtain⟨x,H2,I2,rx,a,C,dx,fs,ex,ea,c,n,l,q2⟩:=hq0;subst ex;obtain rfl:ov=Value.ref a:=rx;exact yg I2 ea c n l ry fun s3 I3=>⟨σ,_,I3,q2⟩
end
structure dG (k:Nat) (A:Around):Prop where
 hd:A.handled=none
 dp:A.depth + 3 * k + 5 < recursionLimit
 un:A.units + 16 * k + 200 < cLine
theorem dG.mono {j k:Nat} {A:Around} (r:dG k A) (h:j≤k):dG j A:=⟨r.hd,by have:=r.dp;omega,by have:=r.un;omega⟩
theorem dG.deeper {k:Nat} {A:Around} (r:dG (k + 1) A) (env:Env):dG k (A.deeper env) :=
 ⟨r.hd,by have:=r.dp;show A.depth + 1 + 3 * k + 5 < _;omega,by have:=r.un;show A.units + 3 + 16 * k + 200 < _;omega⟩
theorem yx {A:Around} {C:Addr} {us:List Value} {kw:List (Str×Value)}:(A.under (.builtin "type.__call__" ⟨.ref C :: us,kw⟩)).depth=A.depth + 1:=by
 first | rfl | simp [Around.under,Code.weight,Code.isCreation,Code.isGuard,Code.isCaller,Code.frames,Code.isFrame,guardIds]
theorem yW {A:Around} {C:Addr} {us:List Value} {kw:List (Str×Value)}:(A.under (.builtin "type.__call__" ⟨.ref C :: us,kw⟩)).units=A.units + 1:=by
 first | rfl | simp [Around.under,Code.cUnits,Code.frames,Code.isFrame]
theorem dG.make {k:Nat} {A:Around} (r:dG (k + 1) A) (C:Addr) (us:List Value) (kw:List (Str×Value)):dG k (A.under (.builtin "type.__call__" ⟨.ref C :: us,kw⟩)) :=
 ⟨r.hd,by have:=r.dp;rw [yx];omega,by have:=r.un;rw [yW];omega⟩
theorem dG.depth {k:Nat} {A:Around} (r:dG k A):A.depth < recursionLimit:=by have:=r.dp;omega
theorem dG.units {k:Nat} {A:Around} (r:dG k A):A.units + 64 < cLine:=by have:=r.un;omega
def KN:TA:=fun _ H Q=>Q [] H
def IW (ta:TE) (tr:TA):TA:=fun σ H Q=>ta σ H fun x H1=>tr σ H1 fun xs H2=>Q (x :: xs) H2
section
variable {X:Cx} {e:Expr} {es:List Expr} {te:TE} {t:TA} {pos:Pos}
theorem ig:PA X [] KN:=fun _ _ _ _ H Q I h=>Calls.spliced_nil ⟨[],H,I,.nil,h⟩
theorem fT (ha:PE X e te) (hr:PA X es t) (hs:starEach (e :: es) X.env=(false,eval e X.env) :: starEach es X.env:=by rfl):PA X (e :: es) (IW te t):=by
 intro pos pins s σ H Q I h;rw [hs];show wpAny _ _ (spliced ((false,eval e X.env) :: backTo pos (starEach es X.env))) _ _ s
 refine Calls.spliced_cons (bU (ha pins s σ H _ I h) fun u s1 hq0=>?_);obtain⟨x,H1,I1,r1,q1⟩:=hq0;exact bU (hr pos pins s1 σ H1 _ I1 q1) fun us s2 ⟨xs,H2,I2,r2,q2⟩=>⟨x :: xs,H2,I2,.cons r1 r2,q2⟩
def Lx (t:TA):TE:=fun σ H Q=>t σ H fun xs H1=>xs.length≤sizeLine∧∀p,H1 p=none→Q (.ref p) (upd H1 p (.tup xs))
def Lk (t:TA):TE:=fun σ H Q=>t σ H fun xs H1=>xs.length≤sizeLine∧∀p,H1 p=none→Q (.ref p) (upd H1 p (.lst xs))
theorem GO {x1} (h:PA X es t):PE X (.Tuple es x1 pos) (Lx t):=by
 intro pins s σ H Q I hq;refine wpAny_Tuple_spliced (bU (h pos pins s σ H _ I hq) fun us s1 ⟨xs,H1,I1,r,z,q⟩=>⟨by rw [← r.length];exact z,?_⟩);have hf:H1 s1.heap.objs.size=none:=I1.hok.fresh (Mv _);refine⟨.ref s1.heap.objs.size,upd H1 s1.heap.objs.size (.tup xs),I1.laid (t':=s1.toks) (fun b u e=>Mz _ e) (Mv _) ?_,rfl,q _ hf⟩;exact⟨z,us,r,⟨_,MM _ rfl,rfl,⟨_,rfl⟩,rfl⟩⟩
theorem ya (h:PA X es t):PE X (.List es pos) (Lk t):=by
 intro pins s σ H Q I hq;refine wpAny_List_spliced (bU (h pos pins s σ H _ I hq) fun us s1 ⟨xs,H1,I1,r,z,q⟩=>⟨by rw [← r.length];exact z,?_⟩);have hf:H1 s1.heap.objs.size=none:=I1.hok.fresh (Mv _);refine⟨.ref s1.heap.objs.size,upd H1 s1.heap.objs.size (.lst xs),I1.laid (t':=s1.toks) (fun b u e=>Mz _ e) (Mv _) ?_,rfl,q _ hf⟩;exact⟨z,us,0,r,MM _ rfl⟩
end
abbrev Sp:=List V→Hp→VK→XK→Prop
abbrev Ed:=List Env→Hp→Shared→XK→Value→Shared→Prop
structure yB (P:Program) (w:World) (K:Mn) (mg:Str→Option Value) (base:Heap) (A:Around) (outer:List Env) (s:Shared) (H:Hp):Prop where
 frames:A.frames=some outer
 mod:Mod K mg base
 bs:∀b o,base.get? b=some o→s.heap.get? b=some o∧H b=none
 bsz:base.objs.size≤s.heap.objs.size
 pQ:s.heap.FunFrames base outer
 frf:∀b∈BP outer,H b=none
 hok:qA P w H s.heap
 bare:AllBare s.gens
def CE (outer:List Env) (P:Program) (w:World) (H:Hp) (s:Shared) (Q:VK) (u:Value) (s':Shared):Prop :=
 ∃v H',s'.os=s.os∧AllBare s'.gens∧Un (BP outer) [] H H' s.heap s'.heap∧qA P w H' s'.heap∧RelV v u∧Q v H'
def CR (CX:Ed) (outer:List Env) (P:Program) (w:World) (H:Hp) (s:Shared) (Q:VK) (E:XK) (r:Result) (s':Shared):Prop :=
 match r with
 | .ok (.ret u)=>CE outer P w H s Q u s'
 | .ok _=>False
 | .error e=>CX outer H s E e s'
structure kW (P:Program) (w:World) (K:Mn) (mg:Str→Option Value) (base:Heap) (CX:Ed) (k:Nat) (f:Addr) (fd:FuncData) (ps:List Str) (sp:Sp):Prop where
 len:∀vs H Q E,sp vs H Q E→vs.length=ps.length
 run:∀(A:Around) (outer:List Env) (s:Shared) (H:Hp) (args:Args) (us:List Value) (vs:List V) (Q:VK) (E:XK),dG k A→yB P w K mg base A outer s H→BindsTo s fd args (ps.zip us)→Vals vs us→sp vs H Q E →
  codeAny (model P w) A (.call (.ref f) args) (CR CX outer P w H s Q E) s
theorem yB.make {P:Program} {w:World} {K:Mn} {mg:Str→Option Value} {base:Heap} {A:Around} {outer:List Env} {s:Shared} {H:Hp} (e:yB P w K mg base A outer s H) (C:Addr) (us:List Value) (kw:List (Str×Value)) :
  yB P w K mg base (A.under (.builtin "type.__call__" ⟨.ref C :: us,kw⟩)) outer s H:=⟨by first | exact e.frames | (simpa [Around.under,Code.envs,Code.isFrame,pushEnvs] using e.frames),e.mod,e.bs,e.bsz,e.pQ,e.frf,e.hok,e.bare⟩
section
variable {X:Cx} {pins:List (Addr×Obj)} {σ:St} {H:Hp} {s s':Shared}
theorem Inv.gv (I:Inv X pins σ H s):yB X.prog X.w X.K X.mg X.base X.A X.stack s H :=
 ⟨I.ok.frames,I.ok.mod,I.bs,Ni I.ok.bsz I.sz,I.stack,I.zE,I.hok,I.bare⟩
theorem Inv.after {Q:VK} {u:Value} (I:Inv X pins σ H s) (h:CE X.stack X.prog X.w H s Q u s'):EP X pins σ Q u s':=by
 obtain⟨v,H',os,bare,un,hok,r,q⟩:=h;obtain⟨hh,g,d,t,os'⟩:=s';obtain rfl:os'=s.os:=os;exact⟨v,H',I.call (h':=hh) (g':=g) (d':=d) (t':=t) (ch:=[]) un hok bare (fun b z=>absurd z (by simp)),r,q⟩
end
def IU (sp:Sp) (dvs:List V) (E:XK) (t:TA):TE:=fun σ H Q=>t σ H fun vs H1=>sp (vs ++ dvs) H1 Q E
def JE (C:Addr) (m:Str) (sp:Sp) (dvs:List V) (E:XK) (ta:TE) (t:TA):TE:=fun σ H Q=>ta σ H fun x H1=>∃a dx fs,x=.ref a∧H1 a=some (.ins C dx fs)∧fs.lookup m=none ∧
 t σ H1 fun vs H2=>sp (x :: (vs ++ dvs)) H2 Q E
def I0 (C:Addr) (sp:Sp) (dvs:List V) (E:XK) (t:TA):TE:=fun σ H Q=>t σ H fun vs H1=>∀x dx,H1 x=none→H1 dx=none→dx≠x →
 sp (.ref x :: (vs ++ dvs)) (upd (upd H1 dx (.own x)) x (.ins C dx [])) (fun v H2=>v=.non∧Q (.ref x) H2) E
def Binds (K:Mn) (fd:FuncData) (ps:List Str) (ds:List Value):Prop :=
 ∀(s:Shared) (us:List Value),K.In s.heap→(us ++ ds).length=ps.length→BindsTo s fd ⟨us,[]⟩ (ps.zip (us ++ ds))
theorem Binds.all {K:Mn} {fd:FuncData} {ps:List Str} (h:∀us:List Value,us.length=ps.length→bindArgs fd ⟨us,[]⟩=pure (ps.zip us)):Binds K fd ps []:=fun s us _ hl=>by
 rw [Nf] at hl ⊢;exact .of_eq (h us hl)
def Passes (CX:Ed) (X:Cx) (E:XK):Prop:=∀(pins:List (Addr×Obj)) (σ:St) (H:Hp) (s:Shared) (e:Value) (s':Shared),Inv X pins σ H s→CX X.stack H s E e s'→X.xe e s'
section
variable {X:Cx} {CX:Ed} {k:Nat} {f C:Addr} {fd:FuncData} {ps:List Str} {sp:Sp} {dvs:List V} {ds:List Value} {E:XK} {x m:Str} {p pos apos:Pos} {e o:Expr} {es:List Expr} {ta:TE} {t:TA}
theorem DJ {pins:List (Addr×Obj)} {σ:St} {H:Hp} {s:Shared} {Q:VK} {us:List Value} {vs:List V} (F:kW X.prog X.w X.K X.mg X.base CX k f fd ps sp) (hr:dG k X.A) (hb:Binds X.K fd ps ds) (hd:Vals dvs ds) (hx:Passes CX X E)
  (I:Inv X pins σ H s) (r:Vals vs us) (h:sp (vs ++ dvs) H Q E):wpAny (model X.prog X.w) X.A (call (.ref f) us) (EP X pins σ Q) X.xe s:=by
 have r2:Vals (vs ++ dvs) (us ++ ds):=r.append hd;have hl:(us ++ ds).length=ps.length:=by rw [← r2.length];exact F.len _ _ _ _ h
 refine wpAny_call (codeAny_mono (F.run X.A X.stack s H ⟨us,[]⟩ (us ++ ds) (vs ++ dvs) Q E hr I.gv (hb s us I.uA hl) r2 h) fun r s' hq=>?_)
 cases r with
 | error e=>exact hx pins σ H s e s' I hq
 | ok fl =>
  cases fl with
  | ret u=>exact I.after hq
  | next=>exact False.elim hq
  | brk=>exact False.elim hq
  | cont=>exact False.elim hq
theorem Et (F:kW X.prog X.w X.K X.mg X.base CX k f fd ps sp) (hr:dG k X.A) (hg:Gl X x) (hm:X.mg x=some (.ref f)) (hk:PySem.W.keepIn X.K (.ref f)=true) (hb:Binds X.K fd ps ds) (hd:Vals dvs ds) (hx:Passes CX X E)
  (ha:PA X (e :: es) t) (hdb:(x == ("__debug__" : Str))=false:=by decide) (he:starEach (e :: es) X.env=(false,eval e X.env) :: starEach es X.env:=by rfl) (hpl:(backTo pos (starEach es X.env)).any (·.1)=false:=by rfl) :
  PE X (.Call (.Name x p) (e :: es) [] pos) (IU sp dvs E t):=by
 intro pins s σ H Q I h;refine wpAny_Call_Name_kw (uX I hg hm ?_ hdb);refine PySem.W.callWith_K (h₀:=X.base) I.ok.mod.kin hk (bU (ha pos pins s σ H _ I h) fun us s1 ⟨vs,H1,I1,r,q⟩=>⟨I1.uA,?_⟩) he hpl;exact DJ F hr hb hd hx I1 r q
theorem zq {pl:Sem Bool} (he:PE X o ta) (c:wN X.K C) (hm:Meth X.K C m f) (F:kW X.prog X.w X.K X.mg X.base CX k f fd ps sp) (hr:dG k X.A) (hb:Binds X.K fd ps ds) (hd:Vals dvs ds) (hx:Passes CX X E) (ha:PA X (e :: es) t)
  (hst:starEach (e :: es) X.env=(false,eval e X.env) :: starEach es X.env:=by rfl) (hpl:(backTo pos (starEach es X.env)).any (·.1)=false:=by rfl)
  (ht:eval (.Call (.Attribute o m apos) (e :: es) [] pos) X.env=(do
   let ov ← eval o X.env
   standAt apos.atName
   let (f,first) ← holding [ov] (getMethod ov m pl)
   callWith pos f first (backTo pos (starEach (e :: es) X.env)) (backToKw pos (keywordEach [] X.env))):=by rfl) :
  PE X (.Call (.Attribute o m apos) (e :: es) [] pos) (JE C m sp dvs E ta t):=by
 intro pins s σ H Q I h;refine PySem.W.methodCall_KW (pl:=pl) (bU (he pins s σ H _ I h) fun u s1 hq0=>?_) ht;obtain⟨x,H1,I1,rx,a,dx,fs,ex,ea,l,q⟩:=hq0;subst ex;obtain rfl:u=Value.ref a:=rx;refine yv I1 ea c hm l ?_;refine PySem.W.callWith_K (first:=[.ref a]) (h₀:=X.base) I.ok.mod.kin hm.kp (bU (ha pos pins s1 σ H1 _ I1 q) fun us s2 ⟨vs,H2,I2,r,q2⟩=>⟨I2.uA,?_⟩) hst hpl;exact DJ (us:=.ref a :: us) (vs:=.ref a :: vs) F hr hb hd hx I2 (.cons rfl r) q2
structure Mk (K:Mn) (C f:Addr):Prop where
 makes:PySem.W.makesIn K C=true
 init:PySem.W.findIn K (.ref C) "__init__" = some (some (.ref f))
 fn:PySem.W.isFn K (.ref f)=true
 kp:PySem.W.keepIn K (.ref C)=true
theorem BX {pins:List (Addr×Obj)} {σ:St} {H:Hp} {s:Shared} {Q:VK} {us:List Value} {vs:List V} (M:Mk X.K C f) (F:kW X.prog X.w X.K X.mg X.base CX k f fd ps sp) (hr:dG (k + 1) X.A) (hb:Binds X.K fd ps ds) (hd:Vals dvs ds)
  (hx:Passes CX X E) (I:Inv X pins σ H s) (r:Vals vs us)
  (h:∀x dx,H x=none→H dx=none→dx≠x→sp (.ref x :: (vs ++ dvs)) (upd (upd H dx (.own x)) x (.ins C dx [])) (fun v H2=>v=.non∧Q (.ref x) H2) E) :
  wpAny (model X.prog X.w) X.A (call (.ref C) us) (EP X pins σ Q) X.xe s:=by
 have hq:=h (s.heap.objs.size + 1) s.heap.objs.size (I.hok.fresh (Nat.le_succ _)) (I.hok.fresh (Mv _)) (MY (Nat.lt_succ_self _));have I2:=Inv.made (C:=C) I;have r2:Vals (V.ref (s.heap.objs.size + 1) :: (vs ++ dvs)) (Value.ref (s.heap.objs.size + 1) :: (us ++ ds)):=.cons rfl (r.append hd)
 have hl:(Value.ref (s.heap.objs.size + 1) :: us ++ ds).length=ps.length:=by
  have e:=r2.length;rw [F.len _ _ _ _ hq] at e;exact e.symm
 refine wpAny_call (B4 (f:=f) I.uA M.makes M.init (beq_iff_eq.mp M.fn) (codeAny_mono (F.run _ X.stack _ _ ⟨Value.ref (s.heap.objs.size + 1) :: us,[]⟩ (Value.ref (s.heap.objs.size + 1) :: (us ++ ds)) _ _ E (hr.make C us [])
  (I2.gv.make C us []) (hb _ (Value.ref (s.heap.objs.size + 1) :: us) I2.uA hl) r2 hq) fun r s' hq'=>?_))
 cases r with
 | error e=>exact hx pins σ _ _ e s' I2 hq'
 | ok fl =>
  cases fl with
  | ret u =>
   obtain⟨v,H',I3,rv,ev,q3⟩:=I2.after hq';subst ev
   exact⟨rv,⟨V.ref (s.heap.objs.size + 1),H',I3,rfl,q3⟩⟩
  | next=>exact False.elim hq'
  | brk=>exact False.elim hq'
  | cont=>exact False.elim hq'
theorem ER (M:Mk X.K C f) (F:kW X.prog X.w X.K X.mg X.base CX k f fd ps sp) (hr:dG (k + 1) X.A) (hg:Gl X x) (hm:X.mg x=some (.ref C)) (hb:Binds X.K fd ps ds) (hd:Vals dvs ds) (hx:Passes CX X E)
  (ha:PA X (e :: es) t) (hdb:(x == ("__debug__" : Str))=false:=by decide) (he:starEach (e :: es) X.env=(false,eval e X.env) :: starEach es X.env:=by rfl) (hpl:(backTo pos (starEach es X.env)).any (·.1)=false:=by rfl) :
  PE X (.Call (.Name x p) (e :: es) [] pos) (I0 C sp dvs E t):=by
 intro pins s σ H Q I h;refine wpAny_Call_Name_kw (uX I hg hm ?_ hdb);refine PySem.W.callWith_K (h₀:=X.base) I.ok.mod.kin M.kp (bU (ha pos pins s σ H _ I h) fun us s1 ⟨vs,H1,I1,r,q⟩=>⟨I1.uA,?_⟩) he hpl;exact BX M F hr hb hd hx I1 r q
end
structure aI (N P:List Str) (sc:Scope):Prop where
 kind:sc.kind=.function
 co:sc.isCoroutine=false
 gen:sc.isGenerator=false
 nd:N.Nodup
 pre:N.take P.length=P
 par:∀x∈P,sc.names.lookup x=some .local∨sc.names.lookup x=some .cell
 nofree:∀y∈sc.names,y.2≠.free
theorem tU {kindOf:Str→Option NameKind} {x:Str}:∀{binds:List (Str×Value)} {m:Str→Option Value},(∀v,(x,v)∉binds)→bindL kindOf binds m x=m x
 | [],_,_=>rfl
 | (n,v) :: r,m,h=>by
  unfold bindL;rw [tU fun w hw=>h w (MB _ hw)]
  split
  ·have:x≠n:=by rintro rfl;exact h v MO
   simp [this]
  ·rfl
theorem tN {kindOf:Str→Option NameKind} {x:Str}:∀{binds:List (Str×Value)} {m:Str→Option Value},(∀v,(x,v)∉binds)→bindC kindOf binds m x=m x
 | [],_,_=>rfl
 | (n,v) :: r,m,h=>by
  unfold bindC;rw [tN fun w hw=>h w (MB _ hw)]
  split
  ·rfl
  ·have:x≠n:=by rintro rfl;exact h v MO
   simp [this]
theorem tY {kindOf:Str→Option NameKind} {x:Str} {v:Value}:∀{P:List Str} {vs:List Value} {i:Nat} {m:Str→Option Value},P.Nodup→P[i]?=some x→vs[i]?=some v→kindOf x=some .local →
  bindL kindOf (P.zip vs) m x=some v
 | [],_,_,_,_,h,_,_=>by simp at h
 | _ :: _,[],_,_,_,_,h,_=>by simp at h
 | p :: P,w :: vs,0,m,nd,h1,h2,hk=>by
  simp at h1 h2;subst h1;subst h2;show bindL kindOf ((p,w) :: P.zip vs) m p=_
  unfold bindL;rw [tU fun v hv=>(M5.mp nd).1 (List.of_mem_zip hv).1,Mw hk]
  simp
 | p :: P,w :: vs,i + 1,m,nd,h1,h2,hk=>by
  show bindL kindOf ((p,w) :: P.zip vs) m x=_
  unfold bindL;exact tY (i:=i) (M5.mp nd).2 (by simpa using h1) (by simpa using h2) hk
theorem tK {kindOf:Str→Option NameKind} {x:Str} {v:Value}:∀{P:List Str} {vs:List Value} {i:Nat} {m:Str→Option Value},P.Nodup→P[i]?=some x→vs[i]?=some v→kindOf x≠some .local →
  bindC kindOf (P.zip vs) m x=some v
 | [],_,_,_,_,h,_,_=>by simp at h
 | _ :: _,[],_,_,_,_,h,_=>by simp at h
 | p :: P,w :: vs,0,m,nd,h1,h2,hk=>by
  simp at h1 h2;subst h1;subst h2;show bindC kindOf ((p,w) :: P.zip vs) m p=_
  unfold bindC;rw [tN fun v hv=>(M5.mp nd).1 (List.of_mem_zip hv).1,Mo hk]
  simp
 | p :: P,w :: vs,i + 1,m,nd,h1,h2,hk=>by
  show bindC kindOf ((p,w) :: P.zip vs) m x=_
  unfold bindC;exact tK (i:=i) (M5.mp nd).2 (by simpa using h1) (by simpa using h2) hk
def start (N:List Str) (vs:List V):St:=vs.map some ++ List.replicate (N.length - vs.length) none
def nA (CX:Ed) (P:Program) (w:World) (K:Mn) (mg:Str→Option Value) (base:Heap) (N:List Str) (qual:Str) (scope:Scope) (f:Addr) (cd:Value) (A:Around) (outer:List Env) (s:Shared) (H:Hp) (E:XK):Cx where
 prog:=P
 w:=w
 K:=K
 mg:=mg
 base:=base
 A:=A.deeper (envOfC qual scope s.heap.objs.size f cd)
 N:=N
 s₀:=s
 H₀:=H
 env:=envOfC qual scope s.heap.objs.size f cd
 outer:=outer
 stack:=envOfC qual scope s.heap.objs.size f cd :: outer
 ex:=[]
 calm:=true
 fn:=fun _=>true
 pn:=[]
 xe:=fun e s'=>wpAny (model P w) (A.deeper (envOfC qual scope s.heap.objs.size f cd)) (leaving (envOfC qual scope s.heap.objs.size f cd) e) (fun _ s''=>CX outer H s E e s'') (fun e' s''=>CX outer H s E e' s'') s'
theorem wZ {sc:Scope} {n:Nat} {x:Str} (h:sc.names.lookup x=some .cell):∃c,(cellsFrom n sc.names []).lookup x=some c:=by
 have q:=PySem.W.cellsFrom_some sc.names n [] (.inl h);exact Option.isSome_iff_exists.mp q
theorem Bq {CX:Ed} {P:Program} {w:World} {K:Mn} {mg:Str→Option Value} {base:Heap} {N ps:List Str} {qual:Str} {scope:Scope} {f:Addr} {cd:Value} {A:Around} {outer:List Env} {s s1:Shared} {H:Hp} {E:XK} {us:List Value} {vs:List V}
  (S:aI N ps scope) (hd:A.handled=none) (e0:yB P w K mg base A outer s H) (hl:vs.length=ps.length) (r:Vals vs us)
  (x:InCallC s s.heap.objs.size (bindL (envOfC qual scope s.heap.objs.size f cd).kindOf (ps.zip us) fun _=>none) (cellsFrom (s.heap.objs.size + 1) scope.names []) (bindC (envOfC qual scope s.heap.objs.size f cd).kindOf (ps.zip us) fun _=>none) s1) :
  Inv (nA CX P w K mg base N qual scope f cd A outer s H E) [] (start N vs) H s1:=by
 have hpl:ps.length≤N.length:=by have:=M0 List.length S.pre;rw [List.length_take] at this;omega
 obtain⟨h1,tk,rfl,hk⟩:=x.done;have noA:∀b:Addr,b∉(nA CX P w K mg base N qual scope f cd A outer s H E).ex:=fun b z=>absurd (show b∈([]:List Addr) from z) (by simp)
 refine⟨⟨e0.mod,S.kind,rfl,rfl,Mv _,fun y z c h1 h2=>?_,fun y hy=>?_,fun y c _ h=>?_,fun _=>hd,Around.frames_deeper e0.frames,.inr ⟨rfl,rfl⟩,fun b z=>absurd z (noA b),e0.bs,e0.bsz,fun b _ _=>noA b,fun b z=>absurd z (noA b),e0.pQ,e0.frf⟩,
  rfl,e0.bare,Un.kept hk,⟨_,x.toInCall.ns,fun i y v h1 h2 h3=>?_⟩,fun y c h=>⟨_,x.cell y c h⟩,e0.hok.fresh (Mv _),fun y c h=>?_,fun p hp=>absurd (show p∈([]:List (Addr×Obj)) from hp) (by simp),e0.hok.kept hk,?_⟩
 ·exact name_of_addr x.apart (PySem.mem_of_lookup h1) (PySem.mem_of_lookup h2)
 ·have hy:scope.names.lookup y=some .cell∨scope.names.lookup y=some .free:=hy;rcases hy with hy | hy
  ·exact wZ hy
  ·exact absurd rfl (S.nofree _ (PySem.mem_of_lookup hy))
 ·exact Nat.le_of_lt (x.above y c (PySem.mem_of_lookup h))
 ·have hi:i < vs.length:=by
   unfold start at h2
   by_cases hi:i < vs.length
   ·exact hi
   ·rw [MF (by simpa using hi)] at h2;rw [M8] at h2
    split at h2 <;> cases h2
  have ha:vs[i]?=some v:=by
   unfold start at h2;rw [MC (by simpa using hi),Ms] at h2
   cases e:vs[i]? with
   | none=>rw [e] at h2;cases h2
   | some a=>rw [e] at h2;cases h2;rfl
  obtain⟨u,hu,rv⟩:=r.get ha
  have hp:ps[i]?=some y:=by
   rw [← S.pre,List.getElem?_take_of_lt (by omega)];exact h1
  have ndP:ps.Nodup:=by rw [← S.pre];exact S.nd.sublist (List.take_sublist _ _)
  refine⟨u,rv,?_⟩;rcases S.par y (Mu hp) with k | k
  ·exact .inl ⟨k,tY ndP hp hu k⟩
  ·obtain⟨c,e⟩:=wZ (n:=s.heap.objs.size + 1) k;refine .inr ⟨.inl k,c,e,?_⟩;have q:=x.cell y c e;rw [tK ndP hp hu (by show scope.names.lookup y≠_;rw [k];decide)] at q;exact q
 ·exact e0.hok.fresh (Nat.le_of_lt (x.above y c (PySem.mem_of_lookup h)))
 ·unfold start;show _=N.length
  rw [MW,My,List.length_replicate];omega
theorem Km {CX:Ed} {P:Program} {w:World} {K:Mn} {mg:Str→Option Value} {base:Heap} {k:Nat} {f:Addr} {name qual:Str} {params:Arguments} {body:List Stmt} {scope:Scope} {dV kV doc pm cdv ct oc:Value} {an od:Option Addr}
  {osl:Array (Option Value)} {N ps:List Str} {sp:Sp} (lk:K.lookup f=some ⟨oc,od,.func (PySem.W.fnOf name qual params body scope dV kV doc pm an cdv ct),osl⟩) (hcd:PySem.W.codeIn K cdv qual=true) (S:aI N ps scope)
  (len:∀vs H Q E,sp vs H Q E→vs.length=ps.length)
  (hbody:∀(A:Around) (outer:List Env) (s:Shared) (H:Hp) (vs:List V) (Q:VK) (E:XK),dG k (A.deeper (envOfC qual scope s.heap.objs.size f cdv))→sp vs H Q E →
   ∃t,yI (nA CX P w K mg base N qual scope f cdv A outer s H E) body t∧t { nx:=fun _ H'=>Q .non H',rt:=Q } (start N vs) H) :
  kW P w K mg base CX (k + 1) f (PySem.W.fnOf name qual params body scope dV kV doc pm an cdv ct) ps sp:=by
 refine⟨len,fun A outer s H args us vs Q E hr e0 hb r hsp=>?_⟩;have hl:=len _ _ _ _ hsp;have KX:K.In s.heap:=e0.mod.kin.keeps fun b o e=>(e0.bs b o e).1;have lim:s.heap.NoLimit:=e0.mod.nolimit.keeps fun b o e=>(e0.bs b o e).1
 have hkind:∀y∈ps.zip us,scope.names.lookup y.1=some .local∨(scope.names.lookup y.1=some .cell∧((cellsFrom (s.heap.objs.size + 1) scope.names []).lookup y.1).isSome=true):=fun⟨n,v⟩ hy=>by
  rcases S.par n (List.of_mem_zip hy).1 with q | q
  ·exact .inl q
  ·exact .inr ⟨q,PySem.W.cellsFrom_some _ _ _ (.inl q)⟩
 refine codeAny_call_function hr.depth (KX _ _ lk) rfl S.co S.gen rfl (PySem.W.codeRec_of KX hcd) (hb _ _ _ _ ?_);refine wpAny_newFunctionEnv_cells S.kind hkind fun env he s1 x=>?_;subst he;refine⟨lim.keeps x.toInCall.keep,codeAny_func ?_⟩;obtain⟨t,ht,hq⟩:=hbody A outer s H vs Q E (hr.deeper _) hsp;have I:Inv (nA CX P w K mg base N qual scope f cdv A outer s H E) [] (start N vs) H s1:=Bq S hr.hd e0 hl r x
 refine Nd (ht [] s1 (start N vs) H _ I hq) (fun fl s' hs=>?_) fun e s' hs=>hs
 have fin:∀{σ':St} {H':Hp} {v:V} {u:Value},Inv (nA CX P w K mg base N qual scope f cdv A outer s H E) [] σ' H' s'→RelV v u→Q v H'→CE outer P w H s Q u s' :=
  fun {σ' H' v u} J rv q=>⟨v,H',J.os,J.bare,J.base,J.hok,rv,q⟩
 cases fl with
 | ret u =>
  obtain⟨v,σ',H',J,rv,q⟩:=hs
  exact fin J rv q
 | next =>
  obtain⟨σ',H',J,q⟩:=hs
  exact fin (v:=V.non) (u:=Value.none) J rfl q
 | brk =>
  obtain⟨_,_,_,q⟩:=hs
  exact False.elim q
 | cont =>
  obtain⟨_,_,_,q⟩:=hs;exact False.elim q
section
variable {X:Cx} {x:Str} {p pos:Pos} {e:Expr} {es:List Expr} {t:TA} {id T:String} {r:List V→Hp→VK→Prop}
def Ls (r:List V→Hp→VK→Prop) (t:TA):TE:=fun σ H Q=>t σ H fun vs H1=>r vs H1 Q
theorem rn (hc:eQ X (.builtin id) r) (hg:Gl X x) (hm:X.mg x=none) (hv:bootBuiltins x=some (.builtin id)) (ha:PA X (e :: es) t) (hn:x≠"__name__":=by decide) (hdb:(x == ("__debug__" : Str))=false:=by decide)
  (he:starEach (e :: es) X.env=(false,eval e X.env) :: starEach es X.env:=by rfl) (hpl:(backTo pos (starEach es X.env)).any (·.1)=false:=by rfl):PE X (.Call (.Name x p) (e :: es) [] pos) (Ls r t):=by
 intro pins s σ H Q I h;refine wpAny_Call_Name_kw (lP I hg hm hv ?_ hn hdb);exact PyProof.Rows.callWith_builtin1 (bU (ha pos pins s σ H _ I h) fun us s1 ⟨vs,H1,I1,r1,q1⟩=>hc pins s1 σ H1 vs us Q I1 r1 q1) he hpl
theorem oE (hc:eQ X (.type T) r) (hg:Gl X x) (hm:X.mg x=none) (hv:bootBuiltins x=some (.type T)) (ha:PA X (e :: es) t) (hn:x≠"__name__":=by decide) (hdb:(x == ("__debug__" : Str))=false:=by decide)
  (he:starEach (e :: es) X.env=(false,eval e X.env) :: starEach es X.env:=by rfl) (hpl:(backTo pos (starEach es X.env)).any (·.1)=false:=by rfl):PE X (.Call (.Name x p) (e :: es) [] pos) (Ls r t):=by
 intro pins s σ H Q I h;refine wpAny_Call_Name_kw (lP I hg hm hv ?_ hn hdb);exact PyProof.Rows.callWith_type1 (bU (ha pos pins s σ H _ I h) fun us s1 ⟨vs,H1,I1,r1,q1⟩=>hc pins s1 σ H1 vs us Q I1 r1 q1) he hpl
end
end L2
namespace HT
open PySem PyProof.Rows
section
variable {prog:Program} {w:World} {A:Around} {E:Value→Shared→Prop} {s:Shared}
theorem FF {t b:Addr} {vs ws:List Value} {Q:Value→Shared→Prop} (ht:IsTup s.heap t vs.toArray) (hb:IsTup s.heap b ws.toArray) (hv:vs≠[])
  (h1:ws=[]→Q (.ref t) s) (h2:ws≠[]→Q (.ref s.heap.objs.size) { s with heap:=s.heap.push { cls:=.type "tuple",data:=.seq (vs ++ ws).toArray } })
  (hsz:vs.length + ws.length≤sizeLine):wpAny (model prog w) A (binaryOp .Add (.ref t) (.ref b)) Q E s:=by
 obtain⟨⟨cls,dd,data,sl⟩,ho,hc,n,hd⟩:=id ht;obtain⟨⟨cls2,dd2,data2,sl2⟩,ho2,hc2,n2,hd2⟩:=id hb;simp only at hc hd hc2 hd2;subst hc hd hc2 hd2;have e:vs.toArray ++ ws.toArray=(vs ++ ws).toArray:=by simp
 by_cases hw:ws=[]
 ·exact concat_meets ⟨_,ho,rfl⟩ ⟨_,ho2,rfl⟩ noFill_tuple_add seq_tuple_add PySem.F.slot_tuple_add PySem.F.entry_tuple_add (PySem.F.args_tuple_add_2 _ _)
   (tuple_addW1 t b vs.toArray ws.toArray n n2 dd dd2 sl sl2 (by simpa using hv) (by simp [hw])) ⟨ho,ho2,h1 hw⟩
 ·refine concat_meets ⟨_,ho,rfl⟩ ⟨_,ho2,rfl⟩ noFill_tuple_add seq_tuple_add PySem.F.slot_tuple_add PySem.F.entry_tuple_add (PySem.F.args_tuple_add_2 _ _)
   (tuple_addW2 t b vs.toArray ws.toArray n n2 dd dd2 sl sl2 (by simpa using hv) (by simpa using hw) (by rw [MH,MH];exact hsz)) ⟨ho,ho2,?_⟩
  rw [e];exact h2 hw
def fy (n d:Nat):Option Int→Nat
 | none=>d
 | some v=>if v < 0 then (v + (n:Int)).toNat else min v.toNat n
theorem Al (n d k:Nat):fy n d (some (k:Int))=min k n:=by
 show (if (k:Int) < 0 then ((k:Int) + (n:Int)).toNat else min (k:Int).toNat n)=min k n
 rw [Mo (by omega),Int.toNat_natCast]
theorem GL (n d:Nat) (hd:d≤n) (o:Option Int):fy n d o≤n:=by
 cases o with
 | none=>exact hd
 | some v =>
  show (if v < 0 then (v + (n:Int)).toNat else min v.toNat n)≤n
  by_cases hv:v < 0
  ·rw [Mw hv];omega
  ·rw [Mo hv];exact Nat.min_le_right _ _
theorem zw (v:Int) (n d:Nat):(if v < 0 then max (v + (n:Int)) 0 else min v (n:Int))=((fy n d (some v):Nat):Int):=by
 show (if v < 0 then max (v + (n:Int)) 0 else min v (n:Int))=(((if v < 0 then (v + (n:Int)).toNat else min v.toNat n):Nat):Int)
 by_cases hv:v < 0
 ·simp only [Mw hv];omega
 ·simp only [Mo hv];omega
theorem yK (lo hi:Option Int) (n:Nat):Builtin.Slice.sliceAdjust lo hi 1 (n:Int)=(((fy n 0 lo:Nat):Int),((fy n n hi:Nat):Int)):=by
 have h1:¬ ((1:Int) < 0):=by omega
 unfold Builtin.Slice.sliceAdjust;simp only [h1,if_false];refine Nk ?_ ?_
 ·cases lo with
  | none=>rfl
  | some v=>exact zw v n 0
 ·cases hi with
  | none=>rfl
  | some v=>exact zw v n n
theorem zh (i j:Nat):Builtin.Slice.slicePlaces (i:Int) (j:Int) 1=j - i:=by
 unfold Builtin.Slice.slicePlaces;have h1:(1:Int) > 0:=by omega
 simp only [h1,if_true,Int.ediv_one]
 split <;> omega
theorem sA {v:Value} {o:Option Int} {Q:Option Int→Shared→Prop} (p:IsPart v o) (h:Q o s):wpAny (model prog w) A (Builtin.Slice.slicePartIndex v) Q E s:=by
 cases p with
 | none=>exact slicePart_none h
 | int i t=>exact slicePart_int h
theorem oR {sl:Addr} {vl vu:Value} {lo hi:Option Int} {n:Nat} {Q:Int×Int×Nat→Shared→Prop} (hs:s.heap.IsSliceOf sl vl vu .none) (pl:IsPart vl lo) (pu:IsPart vu hi)
  (h:Q (((fy n 0 lo:Nat):Int),1,fy n n hi - fy n 0 lo) s):wpAny (model prog w) A (Builtin.Slice.sliceApplied (.ref sl) (pure (n:Int))) Q E s:=by
 obtain⟨os,hos,hcs,hds⟩:=id hs;unfold Builtin.Slice.sliceApplied Builtin.Slice.sliceFields;refine Mj (Mj (wpAny_field hos hds (x:=vl) rfl (Mj (wpAny_field hos hds (x:=vu) rfl (Mj (wpAny_field hos hds (x:=.none) rfl (Mp ?_)))))));refine Mj (slicePart_none ?_);show wpAny _ _ (if ((1:Int) == 0)=true then _ else _) _ _ s
 rw [Mo (by decide)];refine Mj (sA pl (Mj (sA pu (Mj (Mp ?_)))));show wpAny _ _ (match Builtin.Slice.sliceAdjust lo hi 1 (n:Int) with | (lo,hi)=>pure (lo,(1:Int),Builtin.Slice.slicePlaces lo hi 1)) _ _ s
 rw [yK lo hi n];show wpAny _ _ (pure (((fy n 0 lo:Nat):Int),(1:Int),Builtin.Slice.slicePlaces ((fy n 0 lo:Nat):Int) ((fy n n hi:Nat):Int) 1)) _ _ s
 rw [zh];exact Mp h
theorem CT (xs:Array Value) (i k:Nat):((List.range k).filterMap fun (m:Nat)=>xs[((i:Int) + (m:Int) * 1).toNat]?).toArray=((xs.toList.drop i).take k).toArray:=by
 have e:(fun (m:Nat)=>xs[((i:Int) + (m:Int) * 1).toNat]?)=fun m=>xs[i + m]?:=by
  funext m;have:((i:Int) + (m:Int) * 1).toNat=i + m:=by omega
  rw [this]
 rw [e];have:=pick_run xs i k;rw [List.filterMap_map] at this;have e2:((fun x=>xs[x]?)∘fun x=>i + x)=fun m=>xs[i + m]?:=rfl;rw [e2] at this;rw [this]
theorem mQ {t sl:Addr} {items:Array Value} {vl vu:Value} {lo hi:Option Int} {Q:Value→Shared→Prop} (ht:IsTup s.heap t items) (hs:s.heap.IsSliceOf sl vl vu .none) (pl:IsPart vl lo) (pu:IsPart vu hi)
  (hw:¬ (fy items.size 0 lo=0∧fy items.size items.size hi=items.size))
  (h:Q (.ref s.heap.objs.size) { s with heap:=s.heap.push { cls:=.type "tuple",data:=.seq ((items.toList.drop (fy items.size 0 lo)).take (fy items.size items.size hi - fy items.size 0 lo)).toArray } })
  (hsz:items.size≤sizeLine):wpAny (model prog w) A (getItem (.ref t) (.ref sl)) Q E s:=by
 have htake:sizeOk (.seq ((items.toList.drop (fy items.size 0 lo)).take (fy items.size items.size hi - fy items.size 0 lo)).toArray):=by
  show ((items.toList.drop (fy items.size 0 lo)).take (fy items.size items.size hi - fy items.size 0 lo)).toArray.size≤sizeLine
  rw [MH,List.length_take,List.length_drop,Array.length_toList];omega
 have hj:fy items.size items.size hi≤items.size:=GL _ _ (Mv _) hi;obtain⟨os,hos,hcs,hds⟩:=id hs;have hTs:s.TypeIs (.ref sl) "slice":=⟨os,hos,hcs⟩
 unfold getItem
 try with_reducible refine wpAny_holding ?_
 first | refine Mj (Mp ?_) | skip
 refine Mj (wpAny_sequenceKey ht.typeIs (by decide) ?_)
 refine Mj (Nb (name:=Str.ofString "__getitem__") ht.typeIs PyProof.Rows.slot_tuple_getitem
  (wpAny_call_entry PyProof.Rows.slot_tuple_getitem ht.typeIs entry_tuple_getitem ?_ (args_tuple_getitem _ _)))
 show wpAny _ _ (Builtin.Tuple.tupleItemsOf (.ref t) >>= _) _ _ s
 refine Mj (tupleItemsOf_ ht ?_);refine Mj (wpAny_typeOf hTs ?_);rw [Mw (by decide)];refine Mj (oR hs pl pu ?_)
 have hno:¬ ((((fy items.size 0 lo:Nat):Int) == 0 && (1:Int) == 1 && (fy items.size items.size hi - fy items.size 0 lo) == items.size)=true):=by
  intro q;rw [Bool.and_eq_true,Bool.and_eq_true] at q;have q1:((fy items.size 0 lo:Nat):Int)=0:=eq_of_beq q.1.1;have q2:fy items.size items.size hi - fy items.size 0 lo=items.size:=eq_of_beq q.2;exact hw ⟨by omega,by omega⟩
 show wpAny _ _ (if (((fy items.size 0 lo:Nat):Int) == 0 && (1:Int) == 1 && (fy items.size items.size hi - fy items.size 0 lo) == items.size)=true then _ else _) _ _ s
 rw [Mo hno,CT]
 first
  | exact Mj (m:=Builtin.Tuple.tupleExact _) (wpAny_newObj_type (Mp ⟨_,rfl,Mp h⟩) htake)
  | exact Mj (m:=Builtin.Tuple.tupleExact _) (wpAny_newObj_type (Mj (Mp (Mp ⟨_,rfl,Mp h⟩))) htake)
  | exact Mj (Mj (m:=Builtin.Tuple.tupleExact _) (wpAny_newObj_type (Mp (Mp ⟨_,rfl,Mp h⟩)) htake))
  | exact Mj (Mj (m:=Builtin.Tuple.tupleExact _) (wpAny_newObj_type (Mp ⟨_,rfl,Mp h⟩) htake))
end
end HT
namespace L2
open PySem PySem.Spec PyProof.Rows
abbrev TO:=St→Hp→(Option Int→Hp→Prop)→Prop
def PO (X:Cx) (e:Option Expr) (t:TO):Prop :=
 ∀(pins:List (Addr×Obj)) (s:Shared) (σ:St) (H:Hp) (Q:Option Int→Hp→Prop),Inv X pins σ H s→t σ H Q →
  wpAny (model X.prog X.w) X.A (evalPart e X.env) (fun u s'=>∃o H',Inv X pins σ H' s'∧IsPart u o∧Q o H') X.xe s
def Je (t:TE):TO:=fun σ H Q=>t σ H fun x H1=>∃i,x=.int i∧Q (some i) H1
section
variable {X:Cx} {e:Expr} {te:TE} {lo hi:Option Expr} {tl th:TO} {pos p2:Pos}
theorem Es (h:PE X e te):PO X (some e) (Je te):=by
 intro pins s σ H Q I hw;rw [evalPart_some];refine bU (h pins s σ H _ I hw) fun u s1 hq0=>?_;obtain⟨x,H1,I1,r1,q1⟩:=hq0;obtain⟨i,rfl,q⟩:=q1;obtain⟨t,rfl⟩:=r1;exact⟨some i,H1,I1,.int i t,q⟩
def Gy (X:Cx) (r:V→Option Int→Option Int→Hp→VK→Prop):Prop :=
 ∀(pins:List (Addr×Obj)) (s:Shared) (σ:St) (H:Hp) (x:V) (v vl vu:Value) (lo hi:Option Int) (sl:Addr) (Q:VK),Inv X pins σ H s→RelV x v→s.heap.IsSliceOf sl vl vu .none→IsPart vl lo→IsPart vu hi→r x lo hi H Q →
  ∃T id,typeLookup (.type T) "__getitem__" = pure (some (.builtin id))∧s.TypeIs v T∧wpAny (model X.prog X.w) X.A (getItem v (.ref sl)) (EP X pins σ Q) X.xe s
theorem Gy.or {r r':V→Option Int→Option Int→Hp→VK→Prop} (h:Gy X r) (h':Gy X r'):Gy X (fun x lo hi H Q=>r x lo hi H Q∨r' x lo hi H Q):=by
 intro pins s σ H x v vl vu lo hi sl Q I rx hs pl pu q;rcases q with q | q
 ·exact h pins s σ H x v vl vu lo hi sl Q I rx hs pl pu q
 ·exact h' pins s σ H x v vl vu lo hi sl Q I rx hs pl pu q
def Mc (r:V→Option Int→Option Int→Hp→VK→Prop) (te:TE) (tl th:TO):TE:=fun σ H Q=>te σ H fun x H1=>tl σ H1 fun l H2=>th σ H2 fun u H3=>r x l u H3 Q
theorem BH {r:V→Option Int→Option Int→Hp→VK→Prop} (hr:Gy X r) (he:PE X e te) (hl:PO X lo tl) (hu:PO X hi th):PE X (.Subscript e (.Slice lo hi none p2) pos) (Mc r te tl th):=by
 intro pins s σ H Q I h;refine Subscript_ (bU (he pins s σ H _ I h) fun v s1 hq0=>?_);obtain⟨x,H1,I1,r1,q1⟩:=hq0;refine wpAny_Slice (bU (hl pins s1 σ H1 _ I1 q1) fun vl s2 ⟨l,H2,I2,pl,q2⟩=>bU (hu pins s2 σ H2 _ I2 q2) fun vu s3 hq0=>?_);obtain⟨u,H3,I3,pu,q3⟩:=hq0;rw [evalPart_none];refine Mp ?_;have I4:Inv X pins σ H3 { s3 with heap:=s3.heap.push { cls:=.type "slice",data:=.fields #[vl,vu,.none] } }:=I3.kept (t':=s3.toks) fun b ob q=>Mz _ q
 obtain⟨T,id,hT,ht,hg⟩:=hr pins { s3 with heap:=s3.heap.push { cls:=.type "slice",data:=.fields #[vl,vu,.none] } } σ H3 x v vl vu l u s3.heap.objs.size Q I4 r1 (Heap.IsSliceOf.new ..) pl pu q3
 show wpAny (model X.prog X.w) X.A (subscriptTail e (.Slice lo hi none p2) v (.ref s3.heap.objs.size)) (EP X pins σ Q) X.xe { s3 with heap:=s3.heap.push { cls:=.type "slice",data:=.fields #[vl,vu,.none] } }
 exact tail_any (ops:=[.ref s3.heap.objs.size,v]) ht hT hg (by with_unfolding_all rfl)
def sM (xs:List V) (lo hi:Option Int):List V:=(xs.drop (HT.fy xs.length 0 lo)).take (HT.fy xs.length xs.length hi - HT.fy xs.length 0 lo)
theorem pA (xs:List V) (lo hi:Option Int):(sM xs lo hi).length≤xs.length:=by
 unfold sM;rw [List.length_take,List.length_drop];omega
def LO (K:Mn):V→Option Int→Option Int→Hp→VK→Prop:=fun x lo hi H Q=>∃a xs,x=.ref a∧jv K H a xs ∧
 ¬ (HT.fy xs.length 0 lo=0∧HT.fy xs.length xs.length hi=xs.length)∧∀p,H p=none→Q (.ref p) (upd H p (.tup (sM xs lo hi)))
theorem IF:Gy X (LO X.K):=by
 intro pins s σ H x v vl vu lo hi sl Q I rx hs pl pu h;obtain⟨a,xs,rfl,hx,hw,q⟩:=h;cases rx;obtain⟨its,r,ht,hz⟩:=I.tuple hx;have hlen:its.toArray.size=xs.length:=by rw [MH];exact r.length.symm
 refine⟨"tuple",_,PyProof.Rows.slot_tuple_getitem.lookup,ht.typeIs,?_⟩
 refine HT.mQ ht hs pl pu (by rw [hlen];exact hw) ?_ (by rw [hlen];exact hz);rw [hlen];refine⟨.ref s.heap.objs.size,_,I.laid (t':=s.toks) (o:=.tup (sM xs lo hi)) (fun b ob q=>Mz _ q) (Mv _) ?_,rfl,q _ (I.hok.fresh (Mv _))⟩;exact⟨Ni (pA xs lo hi) hz,_,(r.drop (HT.fy xs.length 0 lo)).take (HT.fy xs.length xs.length hi - HT.fy xs.length 0 lo),uO.new _ _⟩
def FV (K:Mn):R2:=fun x y H Q=>∃a b xs ys,x=.ref a∧y=.ref b∧jv K H a xs∧jv K H b ys∧xs≠[]∧xs.length + ys.length≤sizeLine ∧
 (ys=[]→Q (.ref a) H)∧(ys≠[]→∀p,H p=none→Q (.ref p) (upd H p (.tup (xs ++ ys))))
theorem Vals.uz {xs:List V} {us:List Value} (r:Vals xs us):us=[]↔xs=[]:=by
 cases r with
 | nil=>simp
 | cons _ _=>simp
theorem E6:kY X (binaryOp .Add) (FV X.K):=by
 intro pins s σ H x y v u Q I rx ry h;obtain⟨a,b,xs,ys,rfl,rfl,ha,hb,hx,hz,q1,q2⟩:=h;cases rx;cases ry;obtain⟨its,r1,p1,_⟩:=I.tuple ha;obtain⟨its2,r2,p2,_⟩:=I.tuple hb;refine HT.FF p1 p2 (fun z=>hx (r1.uz.mp z)) (fun z=>⟨.ref a,H,I,rfl,q1 (r2.uz.mp z)⟩) (fun z=>?_) (by rw [← r1.length,← r2.length];exact hz);refine⟨.ref s.heap.objs.size,_,I.laid (t':=s.toks) (o:=.tup (xs ++ ys)) (fun b ob q=>Mz _ q) (Mv _) ?_,rfl,q2 (fun w=>z (r2.uz.mpr w)) _ (I.hok.fresh (Mv _))⟩
 exact⟨by rw [MW];exact hz,_,r1.append r2,uO.new _ _⟩
end
def vT (n:Nat) (i:Int):Option Nat:=if 0≤i then (if i < n then some i.toNat else none) else if -(n:Int)≤i then some (i + n).toNat else none
def lD {α:Type} (xs:List α) (i:Int):Option α:=(vT xs.length i).bind fun j=>xs[j]?
theorem qj {n:Nat} {i:Int} {j:Nat} (h:vT n i=some j):seqIndex? i n=some j∧j < n∧-(n:Int)≤i∧i < n:=by
 unfold vT at h
 by_cases h0:0≤i
 ·rw [Mw h0] at h
  by_cases h1:i < n
  ·rw [Mw h1] at h;have e:i.toNat=j:=Mq h;exact⟨by rw [seqIndex_of h0 h1,e],by omega,by omega,h1⟩
  ·rw [Mo h1] at h;cases h
 ·rw [Mo h0] at h
  by_cases h1:-(n:Int)≤i
  ·rw [Mw h1] at h;have e:(i + n).toNat=j:=Mq h;exact⟨by rw [seqIndex_neg (by omega) h1,e],by omega,h1,by omega⟩
  ·rw [Mo h1] at h;cases h
theorem vI {α:Type} {xs:List α} {i:Int} {v:α} (h:lD xs i=some v):∃j,seqIndex? i xs.length=some j∧xs[j]?=some v∧j < xs.length∧-(xs.length:Int)≤i∧i < xs.length:=by
 unfold lD at h
 cases e:vT xs.length i with
 | none=>rw [e] at h;cases h
 | some j =>
  rw [e] at h;obtain⟨h1,h2,h3,h4⟩:=qj e;exact⟨j,h1,h,h2,h3,h4⟩
def mZ (b:Expr):Prop:=∀o i,subscripted b false o i=operate [o,i] (getItem o i)
def DG (X:Cx) (r:R2):Prop :=
 ∀(value slice:Expr) (pins:List (Addr×Obj)) (s:Shared) (σ:St) (H:Hp) (x y:V) (v u:Value) (Q:VK),Inv X pins σ H s→RelV x v→RelV y u→r x y H Q →
  subscripted slice false v u=operate [v,u] (getItem v u)→wpAny (model X.prog X.w) X.A (subscriptTail value slice v u) (EP X pins σ Q) X.xe s
def L4 (X:Cx) (id:String) (r:V→List V→Hp→VK→Prop):Prop :=
 ∀(pins:List (Addr×Obj)) (s:Shared) (σ:St) (H:Hp) (x:V) (xs:List V) (v:Value) (us:List Value) (Q:VK),Inv X pins σ H s→RelV x v→Vals xs us→r x xs H Q →
  wpAny (model X.prog X.w) X.A (call (.builtin id) (v :: us)) (EP X pins σ Q) X.xe s
section
variable {X:Cx} {a b:Expr} {ta tb:TE} {pos:Pos}
theorem DG.or {r r':R2} (h:DG X r) (h':DG X r'):DG X (fun x y H Q=>r x y H Q∨r' x y H Q):=by
 intro value slice pins s σ H x y v u Q I rx ry q hs;rcases q with q | q
 ·exact h value slice pins s σ H x y v u Q I rx ry q hs
 ·exact h' value slice pins s σ H x y v u Q I rx ry q hs
theorem zG {r:R2} (hr:DG X r) (ha:PE X a ta) (hb:PE X b tb) (hs:mZ b):PE X (.Subscript a b pos) (IJ r ta tb):=by
 intro pins s σ H Q I h;exact Subscript_ (Hr ha hb I h fun v u s2 x y H2 I2 rx ry q=>hr a b pins s2 σ H2 x y v u Q I2 rx ry q (hs _ _))
def J7 (K:Mn):R2:=fun x y H Q=>∃p xs i v,x=.ref p∧y=.int i∧fU K H p xs∧lD xs i=some v∧Q v H
def J2 (K:Mn):R2:=fun x y H Q=>∃p xs i v,x=.ref p∧y=.int i∧jv K H p xs∧lD xs i=some v∧Q v H
def Jz:R2:=fun x y H Q=>∃z i c,x=.str z∧y=.int i∧z.length≤sizeLine∧lD z.cps.toList i=some c∧Q (.str ⟨#[c]⟩) H
theorem zV:DG X (J7 X.K):=by
 intro value slice pins s σ H x y v u Q I rx ry h hs;obtain⟨p,xs,i,z,rfl,rfl,hq,he,q⟩:=h;cases rx;obtain⟨t,rfl⟩:=ry;obtain⟨its,r,pl,hz⟩:=I.list hq;obtain⟨j,h1,h2,h3,h4,h5⟩:=vI he;obtain⟨w,ew,rw'⟩:=r.get h2;have hl:=r.length;have hn:=mf;have fin:EP X pins σ Q w s:=⟨z,H,I,rw',q⟩
 by_cases h0:0≤i
 ·have hj:i.toNat=j:=by
   rw [seqIndex_of h0 h5] at h1;exact Mq h1
  exact item_listR pl.isList h0 (by omega) (by rw [hj];simpa using ew) fin hs
 ·have hj:(i + (its.toArray.size:Int)).toNat=j:=by
   rw [seqIndex_neg (by omega) h4] at h1;rw [MH,← hl];exact Mq h1
  exact subscriptTail_builtinR (x:=w) pl.isList.typeIs slot_list_getitem.lookup
   (wpAny_getItem_list_neg (Q:=fun r s'=>r=w∧EP X pins σ Q r s') pl.isList (by omega) (by rw [MH] <;> omega) (by omega) (by rw [hj];simpa using ew) ⟨rfl,fin⟩) hs
theorem G9:DG X (J2 X.K):=by
 intro value slice pins s σ H x y v u Q I rx ry h hs;obtain⟨p,xs,i,z,rfl,rfl,hq,he,q⟩:=h;cases rx;obtain⟨t,rfl⟩:=ry;obtain⟨its,r,pl,hz⟩:=I.tuple hq;obtain⟨j,h1,h2,h3,h4,h5⟩:=vI he;obtain⟨w,ew,rw'⟩:=r.get h2;have hl:=r.length;have hn:=mf;have fin:EP X pins σ Q w s:=⟨z,H,I,rw',q⟩
 exact subscriptTail_builtinR (x:=w) pl.typeIs slot_tuple_getitem.lookup
  (getItem_tuple (j:=j) (Q:=fun r s'=>r=w∧EP X pins σ Q r s') pl (by omega) (by omega) (by rw [MH,← hl];exact h1) (by simpa using ew) ⟨rfl,fin⟩) hs
theorem GY:DG X Jz:=by
 intro value slice pins s σ H x y v u Q I rx ry h hs;obtain⟨z,i,c,rfl,rfl,hz,he,q⟩:=h;obtain⟨t,rfl⟩:=rx;obtain⟨t',rfl⟩:=ry;obtain⟨j,h1,h2,h3,h4,h5⟩:=vI he;have hl:z.cps.toList.length=z.length:=by simp [Str.length]
 rw [hl] at h1 h4 h5;have hn:=mf
 exact tail_any (typeIs_str s z t) slot_str_getitem.lookup (getItem_str (c:=c) (by
  have e1:decide (i < -(2 ^ 63:Int))=false:=decide_eq_false (by omega);have e2:decide (i≥2 ^ 63)=false:=decide_eq_false (by omega)
  rw [e1,e2,Bool.or_false]) (by rw [h1];simpa using h2) ⟨.str ⟨#[c]⟩,H,I.tok _,⟨_,rfl⟩,q⟩) hs
def Lg (K:Mn):R2:=fun x y H Q=>J7 K x y H Q∨J2 K x y H Q∨Jz x y H Q
theorem BI:DG X (Lg X.K):=zV.or (G9.or GY)
theorem yU (its:List Value) (n j:Nat) (u:Value):Obj.mapSeq (·.setIfInBounds j u) { cls:=.type "list",data:=.seq its.toArray n }={ cls:=.type "list",data:=.seq (its.set j u).toArray n }:=by
 simp [Obj.mapSeq]
theorem Inv.lst {pins:List (Addr×Obj)} {σ:St} {H:Hp} {s:Shared} {p:Addr} {xs:List V} (I:Inv X pins σ H s) (h:H p=some (.lst xs)) :
  ∃(its:List Value) (n:Nat),Vals xs its∧s.heap.get? p=some { cls:=.type "list",data:=.seq its.toArray n }∧xs.length≤sizeLine:=by
 obtain⟨z,its,n,r,e⟩:=I.hok p _ h;exact⟨its,n,r,e,z⟩
theorem Inv.Hx {pins:List (Addr×Obj)} {σ:St} {H:Hp} {s:Shared} {p:Addr} {xs ys:List V} {its its':List Value} {n n':Nat} {f:Obj→Obj} (I:Inv X pins σ H s) (h:H p=some (.lst xs))
  (ho:s.heap.get? p=some { cls:=.type "list",data:=.seq its.toArray n }) (hf:f { cls:=.type "list",data:=.seq its.toArray n }={ cls:=.type "list",data:=.seq its'.toArray n' }) (r:Vals ys its') (hz:ys.length≤sizeLine) (t:Nat) :
  Inv X pins σ (upd H p (.lst ys)) { s with heap:=s.heap.update p f,toks:=t }:=by
 have e:(s.heap.update p f).get? p=some { cls:=.type "list",data:=.seq its'.toArray n' }:=by
  rw [Heap.get?_update_self f ho (by rw [hf] <;> rfl),hf]
 refine I.write (x:=p) (e:=p) (by rw [h];trivial) (.inl rfl) (fun b u hb q=>(Heap.get?_update_other _ _ (Ne.symm hb)).trans q) ⟨_,e⟩ ?_
 exact⟨hz,its',n',r,e⟩
def JX:V→V→V→Hp→(Hp→Prop)→Prop:=fun o i v H Q=>∃p xs k j,o=.ref p∧i=.int k∧H p=some (.lst xs)∧vT xs.length k=some j∧Q (upd H p (.lst (xs.set j v)))
theorem set_list:G5 X JX:=by
 intro pins s σ H o i v ov iv u Q I ro ri rv h;obtain⟨p,xs,k,j,rfl,rfl,hp,hj,q⟩:=h;cases ro;obtain⟨t,rfl⟩:=ri;obtain⟨its,n,r,ho,hz⟩:=I.lst hp;obtain⟨h1,h2,h3,h4⟩:=qj hj;have hl:=r.length;have hn:=mf
 have I':Inv X pins σ (upd H p (.lst (xs.set j v))) { s with heap:=s.heap.update p (Obj.mapSeq (·.setIfInBounds j u)) } :=
  I.Hx hp ho (yU its n j u) (r.set rv j) (by rw [List.length_set];exact hz) s.toks
 by_cases h0:0≤k
 ·have hk:k.toNat=j:=by
   rw [seqIndex_of h0 h4] at h1;exact Mq h1
  exact PySem.W.ki_setAt ho h0 (by omega) (by rw [MH,← hl];exact h4) (by rw [hk];exact⟨_,I',q⟩)
 ·have hk:(k + (its.toArray.size:Int)).toNat=j:=by
   rw [seqIndex_neg (by omega) h3] at h1;rw [MH,← hl];exact Mq h1
  exact PySem.W.ki_setBack ho (by omega) (by rw [MH,← hl];exact h3) (by omega) (by rw [hk];exact⟨_,I',q⟩)
theorem vd (lo hi:Option Int) (n:Nat):(sliceBounds lo hi none n).1=((HT.fy n 0 lo:Nat):Int)∧(sliceBounds lo hi none n).2.1=((HT.fy n n hi:Nat):Int)∧(sliceBounds lo hi none n).2.2=1:=by
 refine⟨?_,?_,rfl⟩
 ·cases lo with
  | none=>simp [sliceBounds,HT.fy]
  | some i =>
   simp only [sliceBounds,HT.fy,Option.getD_none,show (1:Int) > 0 by decide,if_true]
   by_cases h:i < 0
   ·simp only [h,if_true] <;> omega
   ·simp only [h,if_false] <;> omega
 ·cases hi with
  | none=>simp [sliceBounds,HT.fy]
  | some i =>
   simp only [sliceBounds,HT.fy,Option.getD_none,show (1:Int) > 0 by decide,if_true]
   by_cases h:i < 0
   ·simp only [h,if_true] <;> omega
   ·simp only [h,if_false] <;> omega
theorem tG (its:List Value) (lo hi:Option Int):slicePick its.toArray lo hi none=((its.drop (HT.fy its.length 0 lo)).take (HT.fy its.length its.length hi - HT.fy its.length 0 lo)).toArray:=by
 obtain⟨h1,h2,h3⟩:=vd lo hi its.toArray.size;unfold slicePick;rw [h1,h2,h3];simp only [sliceRange_one,pick_run,MH] <;> rfl
def KZ (K:Mn):V→Option Int→Option Int→Hp→VK→Prop:=fun x lo hi H Q=>∃a xs,x=.ref a∧fU K H a xs∧∀p,H p=none→Q (.ref p) (upd H p (.lst (sM xs lo hi)))
theorem Ei:Gy X (KZ X.K):=by
 intro pins s σ H x v vl vu lo hi sl Q I rx hs pl pu h;obtain⟨a,xs,rfl,hx,q⟩:=h;cases rx;obtain⟨its,r,ht,hz⟩:=I.list hx;have hlen:=r.length;refine⟨"list",_,slot_list_getitem.lookup,ht.isList.typeIs,?_⟩
 refine wpAny_getItem_list_slice ht.isList hs pl pu .none (by simp) ?_ (by rw [MH] <;> omega)
 rw [tG,← hlen];refine⟨.ref s.heap.objs.size,_,I.laid (t':=s.toks) (o:=.lst (sM xs lo hi)) (fun b ob q=>Mz _ q) (Mv _) ?_,rfl,q _ (I.hok.fresh (Mv _))⟩;exact⟨Ni (pA xs lo hi) hz,_,0,(r.drop (HT.fy xs.length 0 lo)).take (HT.fy xs.length xs.length hi - HT.fy xs.length 0 lo),MM _ rfl⟩
theorem nK:eQ X (.builtin "len") (fun xs H Q=>∃p ys,xs=[.ref p]∧(fU X.K H p ys∨jv X.K H p ys)∧Q (.int ys.length) H):=by
 intro pins s σ H xs us Q I r h;obtain⟨p,ys,rfl,hq,q⟩:=h;obtain⟨u,rfl,rx⟩:=vals1 r;cases rx;have hn:=mf;rcases hq with hq | hq
 ·obtain⟨its,r',pl,hz⟩:=I.list hq;have hlen:=r'.length;exact Calls.call_len_list pl.isList (by simp only [MH] <;> omega) ⟨.int ys.length,H,I.tok _,⟨s.toks + 1,by rw [MH,hlen]⟩,q⟩
 ·obtain⟨its,r',pl,hz⟩:=I.tuple hq;have hlen:=r'.length;exact len_tuple pl (by simp only [MH] <;> omega) ⟨.int ys.length,H,I.tok _,⟨s.toks + 1,by rw [MH,hlen]⟩,q⟩
theorem uQ:eQ X (.builtin "len") (fun xs H Q=>∃z,xs=[.str z]∧z.length≤sizeLine∧Q (.int z.length) H):=by
 intro pins s σ H xs us Q I r h;obtain⟨z,rfl,hz,q⟩:=h;obtain⟨u,rfl,t,rfl⟩:=vals1 r;have hn:=mf;exact len_str (by omega) ⟨.int z.length,H,I.tok _,⟨_,rfl⟩,q⟩
theorem eQ.or {f:Value} {r r':List V→Hp→VK→Prop} (h:eQ X f r) (h':eQ X f r'):eQ X f (fun xs H Q=>r xs H Q∨r' xs H Q):=by
 intro pins s σ H xs us Q I rs q;rcases q with q | q
 ·exact h pins s σ H xs us Q I rs q
 ·exact h' pins s σ H xs us Q I rs q
theorem vC:eQ X (.type "list") (fun xs H Q=>∃p ys,xs=[.ref p]∧(fU X.K H p ys∨jv X.K H p ys)∧∀l,H l=none→Q (.ref l) (upd H l (.lst ys))):=by
 intro pins s σ H xs us Q I r h;obtain⟨p,ys,rfl,hq,q⟩:=h;obtain⟨u,rfl,rx⟩:=vals1 r;cases rx
 have fin:∀(its:List Value),Vals ys its→ys.length≤sizeLine→∀(h':Heap) (c':Nat),(∀b o',s.heap.get? b=some o'→h'.get? b=some o') →
   h'.get? s.heap.objs.size=some { cls:=.type "list",dict:=none,data:=.seq its.toArray c',slots:=#[] }→EP X pins σ Q (.ref s.heap.objs.size) { s with heap:=h' }:=fun its r' hz h' c' kp e =>
  ⟨.ref s.heap.objs.size,_,I.laid (t':=s.toks) kp (Mv _) (show c6 X.prog X.w _ h' _ (.lst ys) from ⟨hz,its,c',r',e⟩),rfl,q _ (I.hok.fresh (Mv _))⟩
 rcases hq with hq | hq
 ·obtain⟨its,r',pl,hz⟩:=I.list hq;have hlen:=r'.length;obtain⟨o,ho,hc,n,hd⟩:=pl.isList;exact call_list_seq p (.inl rfl) ho hc hd (fun h' c' kp e=>fin its r' hz h' c' kp e) (by simp only [MH] <;> omega)
 ·obtain⟨its,r',pl,hz⟩:=I.tuple hq;have hlen:=r'.length;obtain⟨o,ho,hc,n,hd⟩:=pl;exact call_list_seq p (.inr rfl) ho hc hd (fun h' c' kp e=>fin its r' hz h' c' kp e) (by simp only [MH] <;> omega)
theorem sL:eQ X (.type "tuple") (fun xs H Q=>∃p ys,xs=[.ref p]∧((fU X.K H p ys∧∀l,H l=none→Q (.ref l) (upd H l (.tup ys)))∨(jv X.K H p ys∧Q (.ref p) H))):=by
 intro pins s σ H xs us Q I r h;obtain⟨p,ys,rfl,h⟩:=h;obtain⟨u,rfl,rx⟩:=vals1 r;cases rx;rcases h with ⟨hq,q⟩ | ⟨hq,q⟩
 ·obtain⟨its,r',pl,hz⟩:=I.list hq;have hlen:=r'.length;refine call_tuple_list pl.isList (fun h' kp=>?_) (by simp only [MH] <;> omega)
  have I1:Inv X pins σ H { s with heap:=h' }:=I.kept (t':=s.toks) kp
  have I2:Inv X pins σ (upd H h'.objs.size (.tup ys)) { s with heap:=h'.push { cls:=.type "tuple",data:=.seq its.toArray } } :=
   I1.laid (t':=s.toks) (fun b o e=>Mz _ e) (Mv _) (show c6 X.prog X.w _ _ _ (.tup ys) from ⟨hz,its,r',uO.new _ _⟩)
  exact⟨.ref h'.objs.size,_,I2,rfl,q _ (I1.hok.fresh (Mv _))⟩
 ·obtain⟨its,r',pl,hz⟩:=I.tuple hq;exact call_tuple_same pl ⟨.ref p,H,I,rfl,q⟩
def Ln (K:Mn) (T:String) (x:V) (H:Hp):Prop:=match x with
 | .str _=>T = "str"
 | .int _=>T = "int"
 | .ref p=>(T = "list"∧∃xs,fU K H p xs)∨(T = "tuple"∧∃o,K.lookup p=some o∧o.cls=.type "tuple"∧o.dict=none) ∨
   (T = "dict"∧((∃kvs,H p=some (.dK kvs))∨∃kvs,H p=some (.dT kvs)))∨(T = "set"∧∃S n,H p=some (.set S n))
 | _=>False
theorem DK {pins:List (Addr×Obj)} {σ:St} {H:Hp} {s:Shared} {T:String} {x:V} {v:Value} (I:Inv X pins σ H s) (r:RelV x v) (ty:Ln X.K T x H) :
  s.TypeIs v T∧∀a,v=.ref a→∃ob,s.heap.get? a=some ob∧ob.dict=none:=by
 cases x with
 | str z =>
  obtain⟨t,rfl⟩:=r;cases (show T = "str" from ty)
  exact⟨typeIs_str s z t,fun _ e=>nomatch e⟩
 | int i =>
  obtain⟨t,rfl⟩:=r;cases (show T = "int" from ty)
  exact⟨typeIs_int s i t,fun _ e=>nomatch e⟩
 | ref p =>
  cases r;rcases ty with ⟨rfl,xs,hq⟩ | ⟨rfl,o,hk,hc,hd⟩ | ⟨rfl,hk⟩ | ⟨rfl,S,n,hk⟩
  ·obtain⟨its,_,pl,_⟩:=I.list hq;refine⟨pl.isList.typeIs,fun a e=>?_⟩;cases e;obtain⟨o,n,e,c,hd,_⟩:=pl;exact⟨o,e,hd⟩
  ·refine⟨⟨o,I.uA p o hk,hc⟩,fun a e=>?_⟩;cases e;exact⟨o,I.uA _ o hk,hd⟩
  ·have z:∃o,s.heap.get? p=some o∧o.ExactDict:=by
    rcases hk with ⟨kvs,hk⟩ | ⟨kvs,hk⟩
    ·obtain⟨_,_,_,_,o,_,_,e,ex,_⟩:=I.hok p _ hk;exact⟨o,e,ex⟩
    ·obtain⟨_,_,_,_,o,_,_,e,ex,_⟩:=I.hok p _ hk;exact⟨o,e,ex⟩
   obtain⟨o,e,ex⟩:=z;refine⟨⟨o,e,ex.1⟩,fun a e2=>?_⟩;cases e2;exact⟨o,e,ex.2.1⟩
  ·obtain⟨o,_,_,_,e,ex,_⟩:=I.hok p _ hk;refine⟨⟨o,e,ex.1⟩,fun a e2=>?_⟩;cases e2
   exact⟨o,e,ex.2.1⟩
 | _=>exact False.elim ty
def KP (K:Mn) (T:String) (r:V→List V→Hp→VK→Prop) (to:TE):TE:=fun σ H Q=>to σ H fun x H1=>Ln K T x H1∧r x [] H1 Q
def Md (K:Mn) (T:String) (r:V→List V→Hp→VK→Prop) (to:TE) (t:TA):TE:=fun σ H Q=>to σ H fun x H1=>Ln K T x H1∧t σ H1 fun xs H2=>r x xs H2 Q
variable {o e:Expr} {es:List Expr} {to:TE} {t:TA} {name:Str} {apos cpos:Pos} {T id:String} {r:V→List V→Hp→VK→Prop}
theorem GN (pa:PlainAttrs T) (slot:Slot T name id) (hty:typeOf (.builtin id)=pure (.type "method_descriptor")) (hm:L4 X id r) (ho:PE X o to)
  (hbase:attributeBase o name X.env (eval o X.env)=eval o X.env:=by rfl) (hline:(apos.endLine == cpos.line)=true:=by rfl):PE X (.Call (.Attribute o name apos) [] [] cpos) (KP X.K T r to):=by
 intro pins s σ H Q I h;refine wpAny_Call_method0_late hbase hline (bU (ho pins s σ H _ I h) fun v s1 hq0=>?_);obtain⟨x,H1,I1,r1,ty,q1⟩:=hq0;obtain⟨h1,h2⟩:=DK I1 r1 ty;exact⟨T,id,pa,slot,hty,h1,h2,Calls.callWith_builtin rfl (PySem.evalArgs_none (hm pins s1 σ H1 x [] v [] Q I1 r1 .nil q1))⟩
theorem Af (pa:PlainAttrs T) (slot:Slot T name id) (hty:typeOf (.builtin id)=pure (.type "method_descriptor")) (hm:L4 X id r) (ho:PE X o to) (ha:PA X (e :: es) t)
  (hbase:attributeBase o name X.env (eval o X.env)=eval o X.env:=by rfl)
  (hfew:((backTo cpos (starEach (e :: es) X.env)).all (fun x=>!x.1) && (backToKw cpos (keywordEach [] X.env)).all (fun x=>x.1.isSome)
   && decide ((e :: es).length + ([]:List Keyword).length + (if ([]:List Keyword).isEmpty then 0 else 1) < 30))=true:=by rfl)
  (hline:(apos.endLine == cpos.line)=true:=by rfl) (hs:starEach (e :: es) X.env=(false,eval e X.env) :: starEach es X.env:=by rfl) (hplain:(backTo cpos (starEach es X.env)).any (·.1)=false:=by rfl) :
  PE X (.Call (.Attribute o name apos) (e :: es) [] cpos) (Md X.K T r to t):=by
 intro pins s σ H Q I h;refine wpAny_Call_method_late hbase hfew hline rfl (bU (ho pins s σ H _ I h) fun v s1 hq0=>?_);obtain⟨x,H1,I1,r1,ty,q1⟩:=hq0;obtain⟨h1,h2⟩:=DK I1 r1 ty;refine⟨T,id,pa,slot,hty,h1,h2,?_⟩;have hA:=ha cpos pins s1 σ H1 _ I1 q1;rw [hs] at hA ⊢;refine Calls.callWith_builtin (by show (false || (backTo cpos (starEach es X.env)).any (·.1))=false;rw [hplain] <;> rfl) (Calls.evalArgs_plain ?_)
 exact bU hA fun us s2 ⟨vs,H2,I2,r2,q2⟩=>hm pins s2 σ H2 x vs v us Q I2 r1 r2 q2
end
def Ky (X:Cx) (id:String) (r:V→List V→Hp→VK→Prop):Prop :=
 ∀(pins:List (Addr×Obj)) (s:Shared) (σ:St) (H:Hp) (x:V) (xs:List V) (v:Value) (us:List Value) (Q:VK),Inv X pins σ H s→RelV x v→Vals xs us→r x xs H Q →
  wpAny (model X.prog X.w) X.A (call (.builtin id) (v :: us)) (EP X pins σ Q) X.xe s
theorem Vals.one:∀{x:V} {us:List Value},Vals [x] us→∃u,us=[u]∧RelV x u
 | _,_,.cons r .nil=>⟨_,rfl,r⟩
theorem Vals.two {x y:V} {us:List Value} (h:Vals [x,y] us):∃u v,us=[u,v]∧RelV x u∧RelV y v:=by
 cases h with
 | cons r q =>
  cases q with
  | cons q z=>cases z;exact⟨_,_,rfl,r,q⟩
theorem Vals.zero:∀{us:List Value},Vals [] us→us=[]
 | _,.nil=>rfl
theorem Vals.dropLast {xs:List V} {us:List Value} (h:Vals xs us):Vals xs.dropLast us.dropLast:=by
 induction h with
 | nil=>exact .nil
 | cons r t ih =>
  cases t with
  | nil=>exact .nil
  | cons q t'=>exact .cons r ih
theorem Vals.eraseIdx:∀{xs:List V} {us:List Value} (i:Nat),Vals xs us→Vals (xs.eraseIdx i) (us.eraseIdx i)
 | _,_,_,.nil=>.nil
 | _,_,0,.cons _ t=>t
 | _,_,i + 1,.cons r t=>.cons r (Vals.eraseIdx i t)
theorem yw {α:Type} (l:List α):l.eraseIdx (l.length - 1)=l.dropLast:=by
 induction l with
 | nil=>rfl
 | cons a r ih =>
  cases r with
  | nil=>rfl
  | cons b r =>
   have e:(a :: b :: r).length - 1=((b :: r).length - 1) + 1:=by
    have h1:(a :: b :: r).length=r.length + 2:=rfl;have h2:(b :: r).length=r.length + 1:=rfl;omega
   rw [e,List.eraseIdx_cons_succ,ih]
   all_goals rfl
theorem ua {α:Type}:∀(l:List α) (i:Nat),(l.eraseIdx i).length≤l.length
 | [],_=>Mv _
 | _ :: _,0=>Nat.le_succ _
 | _ :: r,i + 1=>Nat.succ_le_succ (ua r i)
section
variable {X:Cx} {pins:List (Addr×Obj)} {σ:St} {H:Hp} {s:Shared} {l b:Addr} {xs ys zs:List V}
theorem Inv.El {its its':List Value} {n:Nat} {f:Array Value→Array Value} {t':Nat} (I:Inv X pins σ H s) (hH:H l=some (.lst xs))
  (e:s.heap.get? l=some { cls:=.type "list",data:=.seq its.toArray n }) (hf:f its.toArray=its'.toArray) (hv:Vals ys its') (hz:ys.length≤sizeLine) :
  Inv X pins σ (upd H l (.lst ys)) { s with heap:=s.heap.update l (Obj.mapSeq f),toks:=t' }:=by
 have q:=PySem.IsL.update e f;rw [hf] at q;refine I.write (x:=l) (e:=l) (by rw [hH];exact trivial) (.inl rfl) (fun b' u hb hu=>(Heap.get?_update_other s.heap (Obj.mapSeq f) (Ne.symm hb)).trans hu) ⟨_,q⟩ ?_;exact⟨hz,its',_,hv,q⟩
theorem Inv.LQ {its:List Value} {t':Nat} (I:Inv X pins σ H s) (hv:Vals ys its) (hz:ys.length≤sizeLine) :
  Inv X pins σ (upd H s.heap.objs.size (.lst ys)) { s with heap:=s.heap.push { cls:=.type "list",data:=.seq its.toArray },toks:=t' } :=
 I.laid (fun _ _ q=>Mz _ q) (Mv _) ⟨hz,its,0,hv,MM _ rfl⟩
theorem Inv.fresh (I:Inv X pins σ H s):H s.heap.objs.size=none:=I.hok.fresh (Mv _)
theorem Inv.FG (I:Inv X pins σ H s) (hH:H l=some (.lst xs)):xs.length≤sizeLine∧∃(its:List Value) (n:Nat),Vals xs its∧xs.length=its.length∧s.heap.get? l=some { cls:=.type "list",data:=.seq its.toArray n }:=by
 obtain⟨z,its,n,r,e⟩:=I.hok l _ hH;exact⟨z,its,n,r,r.length,e⟩
end
section
variable {X:Cx}
def Fc:V→List V→Hp→VK→Prop:=fun x vs H Q=>∃l xs y,x=.ref l∧vs=[y]∧H l=some (.lst xs)∧xs.length < sizeLine∧Q .non (upd H l (.lst (xs ++ [y])))
theorem tM:Ky X "list.append" Fc:=by
 intro pins s σ H x vs v us Q I rx rv h;obtain⟨l,xs,y,rfl,rfl,hH,hz,q⟩:=h;cases rx;obtain⟨u,rfl,ru⟩:=rv.one;obtain⟨z,its,n,r,hl,e⟩:=I.FG hH;refine call_meets F.slot_list_append ⟨_,e,rfl⟩ F.entry_list_append (F.args_list_append_2 _ _) (PySem.list_append l its.toArray n u (by rw [MH];omega)) ⟨e,?_⟩;refine⟨.non,_,I.El (its':=its ++ [u]) hH e (by simp) (r.append (.cons ru .nil)) ?_,rfl,q⟩;rw [MW,List.length_singleton]
 omega
def Lv:V→List V→Hp→VK→Prop:=fun x vs H Q=>∃l xs y,x=.ref l∧vs=[]∧H l=some (.lst xs)∧xs[xs.length - 1]?=some y∧Q y (upd H l (.lst xs.dropLast))
theorem GH:Ky X "list.pop" Lv:=by
 intro pins s σ H x vs v us Q I rx rv h;obtain⟨l,xs,y,rfl,rfl,hH,hy,q⟩:=h;cases rx;have hus:=rv.zero;subst hus;obtain⟨z,its,n,r,hl,e⟩:=I.FG hH;obtain⟨u,hu,ru⟩:=r.get hy
 have hy':its.toArray[its.toArray.size - 1]?=some u:=by
  show its.toArray[its.length - 1]?=some u
  rw [← Nl,← hl];exact hu
 refine call_meets F.slot_list_pop ⟨_,e,rfl⟩ F.entry_list_pop (F.args_list_pop_1 _) (MeetsSeq.list_pop_last l its.toArray n u hy' (by rw [MH];omega)) ⟨e,?_⟩;refine⟨y,_,I.El (its':=its.dropLast) hH e ?_ r.dropLast ?_,ru,q⟩
 ·show its.toArray.eraseIdxIfInBounds (its.toArray.size - 1)=its.dropLast.toArray
  rw [MH,List.eraseIdxIfInBounds_toArray,yw]
 ·rw [List.length_dropLast];omega
def GS:V→List V→Hp→VK→Prop:=fun x vs H Q=>∃l xs i k y,x=.ref l∧vs=[.int i]∧H l=some (.lst xs)∧-(2 ^ 63)≤i∧i < 2 ^ 63∧seqIndex? i xs.length=some k∧xs[k]?=some y∧Q y (upd H l (.lst (xs.eraseIdx k)))
theorem wX:Ky X "list.pop" GS:=by
 intro pins s σ H x vs v us Q I rx rv h;obtain⟨l,xs,i,k,y,rfl,rfl,hH,h1,h2,hk,hy,q⟩:=h;cases rx;obtain⟨u,rfl,ru⟩:=rv.one;obtain⟨t,rfl⟩:=ru;obtain⟨z,its,n,r,hl,e⟩:=I.FG hH;obtain⟨w,hw,rw'⟩:=r.get hy
 refine call_meets F.slot_list_pop ⟨_,e,rfl⟩ F.entry_list_pop (F.args_list_pop_2 _ _)
  (MeetsSeq.list_pop_at l its.toArray n i t k w (fitsIndex_both h1 h2) (by rw [MH,← hl];exact hk) (by rw [← Nl];exact hw) (by rw [MH];omega)) ⟨e,?_⟩
 refine⟨y,_,I.El (its':=its.eraseIdx k) hH e ?_ (r.eraseIdx k) ?_,rw',q⟩
 ·show its.toArray.eraseIdxIfInBounds k=(its.eraseIdx k).toArray
  rw [List.eraseIdxIfInBounds_toArray]
 ·have:=ua xs k;omega
end
end L2
namespace Att
open PySem PySem.W PySem.Calls PyProof.Rows
theorem pW {P:Params} {h:Heap}:∀(ns:List Int) (vs:List Value),WellAll P h vs (ns.map WData.int)→IntsAre vs ns:=by
 intro ns
 induction ns with
 | nil =>
  intro vs w;rw [List.map_nil] at w;cases w
  exact .nil
 | cons n ns ih =>
  intro vs w;rw [MP] at w
  cases w with
  | cons a b =>
   cases a;exact .cons _ _ (ih _ b)
theorem Ba {l:OpenLaw} {n:Nat} (hn:l.most=some n) {P:Params} {h:Heap} {args:List WData} {vals:List Value}
  (hpre:l.row.toRowW.claim.pre args=true) (hwl:WellAll P h vals args) :
  ∃a vs ns,vals=[Value.ref a]∧args=[WData.list (ns.map WData.int)]∧h.get? a=some { cls:=.type "list",data:=.seq vs.toArray }∧IntsAre vs ns∧ns.length≤n:=by
 have hsh:WShape.hasAll [] args [.list .int]=true:=(pre_splitW hpre).1;have hc:l.pre.holds [] { args:=args }=true:=(pre_splitW hpre).2;obtain⟨d,r,rfl,h1,h2⟩:=hasAllW_cons hsh;obtain rfl:=hasAllW_nil h2;obtain⟨xs,rfl,h3⟩:=hasW_list h1;obtain⟨ns,rfl⟩:=items_int h3
 have hlen:ns.length≤n:=by
  unfold OpenLaw.pre at hc
  have h4:(WTm.not (.lt (.lit (.int (n:Int))) (.len (.arg 0)))).holds [] { args:=[.list (ns.map .int)] }=true:=by
   have h4:=(holds_andW hc).1;rw [hn] at h4;exact h4
  have h5:=condW_of h4 (w_not (w_lt w_lit (w_len_list (w_arg rfl))));rw [My] at h5;refine Nat.le_of_not_lt fun q=>?_;have q':(n:Int) < ((ns.length:Nat):Int):=by omega
  first
   | (rw [decide_eq_true q'] at h5;exact absurd h5 (by decide))
   | (simp at h5;omega)
 cases hwl with
 | cons w1 w2 =>
  cases w2
  cases w1 with
  | list ho hall=>exact⟨_,_,ns,rfl,rfl,ho,pW ns _ hall,hlen⟩
theorem Bn (l:OpenLaw) (args:List WData):l.row.toRowW.claim.post args (.bool true) args=true :=
 postW_of (r:=l.row.toRowW) (X:=(true == true))
  (show WShape.has [] (.bool true) .bool=true by first | rfl | decide | simp [WShape.has,WShape.arms,WShape.armsAll])
  (show (WTm.eq .res (.lit (.bool true))).value [] { args:=args,res:=some (.bool true),after:=args }=some (.bool (true == true)) from w_eq_bool (w_res rfl) w_lit) rfl
theorem xk {l:OpenLaw} {n:Nat} {q:Program} {loose:List Str} {XP:(Str→Option Value)→Heap→Prop} {YP:World→Heap→Prop} {d:DefRec}
  (hn:l.most=some n) (hdf:d.params.defaults=[])
  (call:∀(w:World) (s₀ s₁:Shared) (mg mb:Str→Option Value) (fa:Addr) (o:Obj) (pm cd doc:Value) (a:Addr) (vs:List Value) (ns:List Int),
   Ground q loose [] XP w s₀ mg mb s₁.heap→YP w s₁.heap →
   s₁.heap.get? fa=some o→o.data=.func (docDef d.name d.params d.body d.scope pm cd doc)→s₁.heap.CodeRec cd d.name→mg d.name=some (.ref fa) →
   s₁.heap.get? a=some { cls:=.type "list",data:=.seq vs.toArray }→IntsAre vs ns→ns.length≤n→s₁.gens=#[] →
   codeAny (model l.prog w) callerA (.call (.ref fa) ⟨[.ref a],[]⟩) (fun r s'=>r=.ok (.ret (.bool true))∧OldK s₁.heap s'.heap∧s'.os=s₁.os∧AllBare s'.gens) s₁) :
  WalkO q loose XP YP l.row.toRowW d [] (fun f vs=>PySem.call f vs):=by
 intro w s₀ s₁ mg mb G Y fa o pm cd doc dV kV ho hd hcd hD hmg hg args vals as hpre hlay hrd hwl hlo;obtain rfl:dV=.none:=Dflts.none hD hdf;obtain rfl:kV=.none:=Dflts.noKw hD;obtain⟨a,vs,ns,rfl,rfl,hobj,hints,hlen⟩:=Ba hn hpre hwl;refine enter_call (codeAny_mono (call w s₀ s₁ mg mb fa o pm cd doc a vs ns G Y ho (fd_plain hd) hcd hmg hobj hints hlen hg) fun r s' hq=>?_);obtain⟨rfl,h2,h3,h4⟩:=hq;exact⟨.inl ⟨.bool true,.bool true,[],rfl,fun _=>rfl,.bool true,Bn l _,fun _=>⟨List.Pairwise.nil,fun _ hm=>(nomatch hm)⟩⟩,h2,h3,h4⟩
end Att
namespace L2
open PySem PySem.Spec PyProof.Rows
theorem kC:∀{vs:List Value} {ns:List Int},IntsAre vs ns→Vals (ns.map V.int) vs
 | _,_,.nil=>.nil
 | _,_,.cons n t h=>.cons ⟨t,rfl⟩ (kC h)
def Hu (H:Hp):Prop:=∀b,H b=none∨∃o xs,H b=some (.frz o (.lst xs))
theorem CY {P:Program} {w:World} {K:Mn} {mg mb:Str→Option Value} {CX:Ed} {k:Nat} {fa a:Addr} {fd:FuncData} {x:Str} {sp:Sp} {s₁:Shared} {vs:List Value} {ns:List Int}
  (KX:K.In s₁.heap) (hns:s₁.heap.Ns mainGlobals mg) (hb:s₁.heap.Ns builtinsNs mb) (hbb:∀x:Str,x≠"__name__"→mb x=bootBuiltins x) (hlim:s₁.heap.NoLimit) (hg:s₁.gens=#[])
  (ha:s₁.heap.get? a=some { cls:=.type "list",data:=.seq vs.toArray }) (hi:IntsAre vs ns) (hl:ns.length≤sizeLine) (hr:dG k callerA)
  (F:∀base:Heap,K.In base→base.Ns mainGlobals mg→kW P w K mg base CX k fa fd [x] sp) (hbind:∀(s:Shared) (u:Value),BindsTo s fd ⟨[u],[]⟩ [(x,u)])
  (hsp:∀H:Hp,Hu H→fU K H a (ns.map V.int)→sp [.ref a] H (fun v _=>v=.bl true) fun _ _ _=>False)
  (hCX:∀H e s',CX [] H s₁ (fun _ _ _=>False) e s'→False) :
  codeAny (model P w) callerA (.call (.ref fa) ⟨[.ref a],[]⟩) (fun r s'=>r=.ok (.ret (.bool true))∧OldK s₁.heap s'.heap∧s'.os=s₁.os∧AllBare s'.gens) s₁:=by
 have rv:=kC hi;have lenV:=hi.length
 have core:∀H:Hp,Hu H→fU K H a (ns.map V.int)→qA P w H s₁.heap→(∀b,H b≠none→b=a)→(H a≠none→K.lookup a=none) →
   codeAny (model P w) callerA (.call (.ref fa) ⟨[.ref a],[]⟩) (fun r s'=>r=.ok (.ret (.bool true))∧OldK s₁.heap s'.heap∧s'.os=s₁.os∧AllBare s'.gens) s₁:=by
  intro H hO hS hok hA hK;have base_of:∀{b:Addr} {o:Obj},s₁.heap.get? b=some o→H b=none→(uW s₁.heap H).get? b=some o:=fun e n=>B7 e n
  have noA:∀{b:Addr} {o:Obj} {es:Array DictEntry} {ep:Nat},s₁.heap.get? b=some o→o.data=.dict es ep→H b=none:=fun {b o es ep} e d=>by
   cases q:H b with
   | none=>rfl
   | some u =>
    have e':b=a:=hA b (by rw [q];simp);subst e';rw [ha] at e;cases e;have d':Data.seq vs.toArray _=Data.dict es ep:=d;cases d'
  have nsK:∀{b:Addr} {m:Str→Option Value},s₁.heap.Ns b m→(uW s₁.heap H).Ns b m:=fun {b m} ⟨o,es,ep,e,d,r⟩=>⟨o,es,ep,base_of e (noA e d),d,r⟩
  have hKb:K.In (uW s₁.heap H):=fun b o e=>base_of (KX b o e) (by
   cases q:H b with
   | none=>rfl
   | some u =>
    have e':b=a:=hA b (by rw [q];simp);subst e'
    rw [hK (by rw [q];simp)] at e;cases e)
  have hM:Mod K mg (uW s₁.heap H):=⟨hKb,nsK hns,⟨mb,nsK hb,hbb⟩,let ⟨mc,h1,h2⟩:=hlim;⟨mc,nsK h1,h2⟩⟩
  have e0:yB P w K mg (uW s₁.heap H) callerA [] s₁ H:=⟨rfl,hM,fun b o e=>E2 e,Nat.le_of_eq (AH _ _),trivial,fun b hb=>absurd (show b∈([]:List Addr) from hb) (by simp),hok,.of_eq hg⟩;refine codeAny_mono ((F _ hKb (nsK hns)).run callerA [] s₁ H ⟨[.ref a],[]⟩ [.ref a] [.ref a] _ _ hr e0 (hbind s₁ (.ref a)) (.cons rfl .nil) (hsp H hO hS)) fun r s' h=>?_
  cases r with
  | error e=>exact (hCX H e s' h).elim
  | ok fl =>
   cases fl with
   | next=>exact False.elim h
   | brk=>exact False.elim h
   | cont=>exact False.elim h
   | ret u =>
    obtain⟨v,H',os,bare,un,hok',r',q⟩:=h;have q':v=.bl true:=q;subst q';obtain rfl:u=Value.bool true:=r';refine⟨rfl,OldK.of_keep fun b o e=>?_,os,bare⟩
    cases q:H b with
    | none=>exact un.keep b o e q (by intro z;exact absurd (show b∈([]:List Addr) from z) (by simp)) (by simp)
    | some u =>
     rcases hO b with z | ⟨ob,xs,z⟩
     ·rw [q] at z;cases z
     ·have z2:=un.frzs b ob _ z;obtain⟨e1,_⟩:=hok b _ z;obtain⟨e2,_⟩:=hok' b _ z2;rw [e] at e1;cases e1;exact e2
 cases hk:K.lookup a with
 | some o =>
  have e:=KX a o hk;rw [ha] at e;cases e
  refine core (fun _=>none) (fun _=>.inl rfl) (.inr ⟨_,vs.toArray,_,hk,rfl,rfl,rfl,by rw [MH,lenV];exact hl,by simpa using rv⟩) (fun b u z=>by have z':(none:Option HO)=some u:=z;cases z') (fun b z=>absurd rfl z) fun z=>absurd rfl z
 | none =>
  refine core (fun b=>if b=a then some (.frz { cls:=.type "list",data:=.seq vs.toArray } (.lst (ns.map V.int))) else none) (fun b=>?_) (.inl (.inr ⟨{ cls:=.type "list",data:=.seq vs.toArray },Mw rfl⟩)) (fun b u z=>?_) (fun b z=>?_) fun _=>hk
  ·by_cases hb:b=a
   ·exact .inr ⟨_,_,Mw hb⟩
   ·exact .inl (Mo hb)
  ·by_cases hb:b=a
   ·have z':=(Mw hb).symm.trans z;cases z';subst hb;exact⟨ha,by rw [My];exact hl,vs,_,rv,ha⟩
   ·have z':=(Mo hb).symm.trans z;cases z'
  ·by_cases hb:b=a
   ·exact hb
   ·exact absurd (Mo hb) z
theorem FD {l:PySem.W.OpenLaw} {n k:Nat} {q:Program} {loose:List Str} {XP:(Str→Option Value)→Heap→Prop} {YP:World→Heap→Prop} {d:DefRec} {K:Params→Mn} {CX:World→Ed} {sp:World→Sp} {x:Str}
  (hn:l.most=some n) (hn2:n≤sizeLine) (hdf:d.params.defaults=[]) (hr:dG k callerA)
  (hY:∀(w:World) (h:Heap),YP w h→(K w.params).In h)
  (F:∀(w:World) (mg:Str→Option Value) (fa:Addr) (h:Heap),(K w.params).In h→h.Ns mainGlobals mg→mg d.name=some (.ref fa) →
   ∃fd:FuncData,(∀(s:Shared) (u:Value),BindsTo s fd ⟨[u],[]⟩ [(x,u)]) ∧
    ∀base:Heap,(K w.params).In base→base.Ns mainGlobals mg→kW l.prog w (K w.params) mg base (CX w) k fa fd [x] (sp w))
  (hsp:∀(w:World) (H:Hp) (a:Addr) (ns:List Int),ns.length≤n→Hu H→fU (K w.params) H a (ns.map V.int)→sp w [.ref a] H (fun v _=>v=.bl true) fun _ _ _=>False)
  (hCX:∀(w:World) (H:Hp) (s:Shared) (e:Value) (s':Shared),CX w [] H s (fun _ _ _=>False) e s'→False) :
  PySem.W.WalkO q loose XP YP l.row.toRowW d [] (fun f vs=>PySem.call f vs):=by
 refine Att.xk hn hdf fun w s₀ s₁ mg mb fa o pm cd doc a vs ns G Y ho hd hcd hmg hobj hints hlen hg=>?_;have KX:=hY w _ Y;obtain⟨fd,hb,hF⟩:=F w mg fa _ KX G.T.g hmg;exact CY KX G.T.g G.T.b G.T.builtins G.T.nolimit hg hobj hints (Ni hlen hn2) hr hF hb (fun H hO hS=>hsp w H a ns hlen hO hS) fun H e s'=>hCX w H s₁ e s'
def gD (s:Stmt):Arguments:=match s with
 | .FunctionDef _ a _ _ _ _ _ _ _ _=>a
 | _=>{ posonlyargs:=[],args:=[],vararg:=none,kwonlyargs:=[],kw_defaults:=[],kwarg:=none,defaults:=[] }
def cA (s:Stmt):List Stmt:=match s with
 | .FunctionDef _ _ b _ _ _ _ _ _ _=>b
 | _=>[]
def ak (s:Stmt):Scope:=match s with
 | .FunctionDef _ _ _ _ _ _ sc _ _ _=>sc
 | _=>{ kind:=.function,names:=[],isGenerator:=false,isCoroutine:=false }
abbrev vJ:Ed:=fun _ _ _ _ _ _=>False
abbrev E0:XK:=fun _ _ _=>False
theorem zR {X:Cx}:Passes vJ X E0:=fun _ _ _ _ _ _ _ h=>h.elim
structure pU (K:Mn) (x qual:Str) (st:Stmt) (f:Addr) (fd:FuncData):Prop where
 ex:∃(oc:Value) (od:Option Addr) (kV doc pm:Value) (an:Option Addr) (cdv ct:Value) (osl:Array (Option Value)),
  fd=PySem.W.fnOf x qual (gD st) (cA st) (ak st) .none kV doc pm an cdv ct∧K.lookup f=some ⟨oc,od,.func fd,osl⟩∧PySem.W.codeIn K cdv qual=true
 kp:PySem.W.keepIn K (.ref f)=true
section
variable {P:Program} {w:World} {K:Mn} {mg:Str→Option Value} {base:Heap}
theorem pU.ok {x qual:Str} {st:Stmt} {f:Addr} {fd:FuncData} {N ps:List Str} {k:Nat} {sp:Sp} (F:pU K x qual st f fd) (S:aI N ps (ak st)) (len:∀vs H Q E,sp vs H Q E→vs.length=ps.length)
  (hbody:∀(cdv:Value) (A:Around) (outer:List Env) (s:Shared) (H:Hp) (vs:List V) (Q:VK) (E:XK),dG k (A.deeper (envOfC qual (ak st) s.heap.objs.size f cdv))→sp vs H Q E →
   ∃t,yI (nA vJ P w K mg base N qual (ak st) f cdv A outer s H E).BF (cA st) t∧t { nx:=fun _ H'=>Q .non H',rt:=Q } (start N vs) H):kW P w K mg base vJ (k + 1) f fd ps sp:=by
 obtain⟨oc,od,kV,doc,pm,an,cdv,ct,osl,rfl,lk,hcd⟩:=F.ex;refine Km lk hcd S len fun A outer s H vs Q E hr hsp=>?_;obtain⟨t,h,q⟩:=hbody cdv A outer s H vs Q E hr hsp;exact⟨t,h.BF,q⟩
theorem pU.binds {x qual:Str} {st:Stmt} {f:Addr} {fd:FuncData} {ps:List Str} (F:pU K x qual st f fd)
  (h:∀(kV doc pm:Value) (an:Option Addr) (cdv ct:Value) (us:List Value),us.length=ps.length→bindArgs (PySem.W.fnOf x qual (gD st) (cA st) (ak st) .none kV doc pm an cdv ct) ⟨us,[]⟩=pure (ps.zip us)):Binds K fd ps []:=by
 obtain⟨oc,od,kV,doc,pm,an,cdv,ct,osl,rfl,lk,hcd⟩:=F.ex;exact .all (h kV doc pm an cdv ct)
theorem yp {x qual:Str} {st:Stmt} {f:Addr} {oc:Value} {od an:Option Addr} {osl:Array (Option Value)} {kV doc pm cdv ct:Value} (l:K.lookup f=some ⟨oc,od,.func (PySem.W.fnOf x qual (gD st) (cA st) (ak st) .none kV doc pm an cdv ct),osl⟩)
  (c:PySem.W.codeIn K cdv qual=true) (k:PySem.W.keepIn K (.ref f)=true):pU K x qual st f (PySem.W.fnOf x qual (gD st) (cA st) (ak st) .none kV doc pm an cdv ct):=⟨⟨oc,od,kV,doc,pm,an,cdv,ct,osl,rfl,l,c⟩,k⟩
end
def ao (H H':Hp):Prop:=∀b o,H b=some o→H' b=some o
theorem ao.refl (H:Hp):ao H H:=fun _ _ h=>h
theorem ao.trans {H H1 H2:Hp} (a:ao H H1) (b:ao H1 H2):ao H H2:=fun c o h=>b c o (a c o h)
theorem ao.free {H H':Hp} (e:ao H H') {l:Addr} (h:H' l=Option.none):H l=Option.none:=by
 cases q:H l with
 | none=>rfl
 | some o =>
  rw [e l o q] at h;cases h
theorem ao.seq {K:Mn} {H H':Hp} {a:Addr} {xs:List V} (e:ao H H') (h:fU K H a xs):fU K H' a xs:=by
 rcases h with (h | ⟨o,h⟩) | h
 ·exact .inl (.inl (e _ _ h))
 ·exact .inl (.inr ⟨o,e _ _ h⟩)
 ·exact .inr h
end L2
set_option maxHeartbeats 8000000
namespace L2
open PySem PySem.Spec PyProof.Rows
section
variable {κ:Type} [DecidableEq κ]
theorem KV.length {kvs:List (κ×V)} {vs:List (κ×Value)} (r:KV kvs vs):kvs.length=vs.length:=Paired.length r
end
section
variable {X:Cx} {pins:List (Addr×Obj)} {σ:St} {H:Hp} {s:Shared} {a:Addr} {y v:V} {u r:Value} {o:Option V} {A:Around} {E:Value→Shared→Prop}
theorem Inv.big (I:Inv X pins σ H s):sysModules < s.heap.objs.size:=by
 have h:mainGlobals < s.heap.objs.size:=(I.mod.glob.keeps I.bk).lt;exact Nat.lt_trans (by decide) h
theorem m9 {h':Heap} {t':Nat} {ob:HO} (I:Inv X pins σ H s) (mu:JN (H a)) (hs:Heap.SameBut a s.heap h') (he:∃q,h'.get? a=some q) (new:c6 X.prog X.w (upd H a ob) h' a ob) :
  Inv X pins σ (upd H a ob) { s with heap:=h',toks:=t' } :=
 I.write (x:=a) (e:=a) mu (.inl rfl) (fun b q hb z=>(hs.2 b hb).trans z) he new
end
def Er (i:Expr):Prop:=∀ov iv,subscripted i false ov iv=operate [ov,iv] (getItem ov iv)
theorem E3 {prog:Program} {w:World} {A:Around} {E:Value→Shared→Prop} {s:Shared} {env:Env} {value slice:Expr} {pos:Pos} {T id:String} {Q:Value→Shared→Prop}
  (hl:typeLookup (.type T) "__getitem__" = pure (some (.builtin id))) (hs:Er slice)
  (h:wpAny (model prog w) A (eval value env) (fun o s₁=>wpAny (model prog w) A (eval slice env) (fun i s₂=>s₂.TypeIs o T∧wpAny (model prog w) A (getItem o i) Q E s₂) E s₁) E s) :
  wpAny (model prog w) A (eval (.Subscript value slice pos) env) Q E s:=by
 refine Subscript_ (Nd h (fun o s₁ h₁=>Nd h₁ (fun i s₂ h₂=>?_) fun _ _ x=>x) fun _ _ x=>x);obtain⟨hT,h₂⟩:=h₂;unfold subscriptTail;refine Mj ?_;rw [getitemInPython_of_ne hT.not_modules];refine Mj (wpAny_specialOf hT hl ?_)
 have fin:wpAny (model prog w) A (subscripted slice false o i) (fun r s₃=>wpAny (model prog w) A (letTemporaryGo value o r >>= fun _=>pure r) Q E s₃) E s₂:=by
  rw [hs o i];exact wpAny_operating (Nd h₂ (fun r s₃ h₃=>Mj (wpAny_letTemporaryGo (Mp h₃))) fun _ _ x=>x)
 first
  | exact Mp (Mj fin)
  | exact Mj (Mp (Mj fin))
  | exact Mj fin
def ze:List (TE×TE)→St→Hp→(List (V×V)→Hp→Prop)→Prop
 | [],_,H,Q=>Q [] H
 | (tk,tv) :: r,σ,H,Q=>tk σ H fun x H1=>tv σ H1 fun y H2=>ze r σ H2 fun ps H3=>Q ((x,y) :: ps) H3
abbrev VV:List (V×V)→List (Value×Value)→Prop:=Paired fun p q=>RelV p.1 q.1∧RelV p.2 q.2
def KA (X:Cx) (pos:Pos) (keys:List (Option Expr)) (values:List Expr) (trs:List (TE×TE)):Prop :=
 ∀(pins:List (Addr×Obj)) (s:Shared) (σ:St) (H:Hp) (Q:List (V×V)→Hp→Prop),Inv X pins σ H s→ze trs σ H Q →
  wpAny (model X.prog X.w) X.A (evalPairs (pairTrees keys values X.env pos)) (fun vs s'=>∃ps H',Inv X pins σ H' s'∧VV ps vs∧Q ps H') X.xe s
theorem Ex {X:Cx} {pos:Pos}:KA X pos [] [] []:=fun pins s σ H Q I h=>pairTrees_nil_walk ⟨[],H,I,.nil,h⟩
theorem xI {X:Cx} {pos:Pos} {k v:Expr} {ks:List (Option Expr)} {vs:List Expr} {tk tv:TE} {trs:List (TE×TE)} (hk:PE X k tk) (hv:PE X v tv) (hr:KA X pos ks vs trs) :
  KA X pos (some k :: ks) (v :: vs) ((tk,tv) :: trs):=fun pins s σ H Q I h =>
 pairTrees_cons_walk (bU (hk pins s σ H _ I h) fun u s1 ⟨x,H1,I1,rx,q1⟩=>bU (hv pins s1 σ H1 _ I1 q1) fun w2 s2 ⟨y,H2,I2,ry,q2⟩ =>
  bU (hr pins s2 σ H2 _ I2 q2) fun ws s3 ⟨ps,H3,I3,rel,q3⟩=>⟨(x,y) :: ps,H3,I3,.cons ⟨rx,ry⟩ rel,q3⟩)
structure M1 (X:Cx) (o:Expr) (m:Str) (apos:Pos) (e:Expr) (cpos:Pos):Prop where
 base:attributeBase o m X.env (eval o X.env)=eval o X.env
 few:((backTo cpos (starEach [e] X.env)).all (fun x=>!x.1) && (backToKw cpos (keywordEach [] X.env)).all (fun x=>x.1.isSome)
  && decide (([e]:List Expr).length + ([]:List Keyword).length + (if ([]:List Keyword).isEmpty then 0 else 1) < 30))=true
 line:(apos.endLine == cpos.line)=true
 trees:backTo cpos (starEach [e] X.env)=[(false,eval e X.env)]
end L2
namespace L2.L3
open PySem PySem.Spec PyProof.Rows
inductive D where
 | non | bl (b:Bool) | int (i:Int) | str (x:Str) | tup (xs:List D) | lst (xs:List D) | dct (ks:List Key) (xs:List D) | ty (n:String) | exc (c:Str) | cls (c:Str) | obj (P:Mn→Hp→Addr→Prop)
def excAt (a C:Addr) (h:Heap):Prop:=∃o vs,h.get? a=some o∧o.cls=.ref C∧o.dict=none∧o.data=.fields vs
mutual
def Den (K:Mn) (F:Hp):D→V→Prop
 | .non,v=>v=V.non
 | .bl b,v=>v=V.bl b
 | .int i,v=>v=V.int i
 | .str x,v=>v=V.str x
 | .ty n,v=>v=V.ty n
 | .exc c,v=>∃a C,v=V.ref a∧PySem.W.nsIn K mainGlobals c=some (some (.ref C))∧F a=some (.ext (excAt a C))
 | .cls c,v=>∃C,v=V.ref C∧PySem.W.nsIn K mainGlobals c=some (some (.ref C))
 | .tup ds,v=>∃a vs,v=V.ref a∧jv K F a vs∧aj K F ds vs
 | .lst ds,v=>∃a vs,v=V.ref a∧fU K F a vs∧aj K F ds vs
 | .obj P,v=>∃a,v=V.ref a∧∀G,ao F G→P K G a
 | .dct ks ds,v=>∃a vs,v=V.ref a∧F a=some (.dK (ks.zip vs))∧vs.length=ks.length∧aj K F ds vs
def aj (K:Mn) (F:Hp):List D→List V→Prop
 | [],vs=>vs=[]
 | d :: ds,vs=>∃v r,vs=v :: r∧Den K F d v∧aj K F ds r
end
theorem ao.cT {K:Mn} {H H':Hp} {a:Addr} {xs:List V} (e:ao H H') (h:jv K H a xs):jv K H' a xs:=by
 rcases h with (h | ⟨o,h⟩) | h
 ·exact .inl (.inl (e _ _ h))
 ·exact .inl (.inr ⟨o,e _ _ h⟩)
 ·exact .inr h
mutual
theorem Den.mono {K:Mn} {F F':Hp} (s:ao F F'):∀(d:D) (v:V),Den K F d v→Den K F' d v
 | .non,_,h=>by simpa only [Den] using h
 | .bl _,_,h=>by simpa only [Den] using h
 | .int _,_,h=>by simpa only [Den] using h
 | .str _,_,h=>by simpa only [Den] using h
 | .ty _,_,h=>by simpa only [Den] using h
 | .cls _,_,h=>by simpa only [Den] using h
 | .exc _,v,h=>by
  simp only [Den] at h ⊢;obtain⟨a,C,e,z,q⟩:=h
  exact⟨a,C,e,z,s _ _ q⟩
 | .tup ds,v,h=>by
  simp only [Den] at h ⊢;obtain⟨a,vs,e,q,r⟩:=h
  exact⟨a,vs,e,ao.cT s q,aj.mono s ds vs r⟩
 | .lst ds,v,h=>by
  simp only [Den] at h ⊢;obtain⟨a,vs,e,q,r⟩:=h
  exact⟨a,vs,e,s.seq q,aj.mono s ds vs r⟩
 | .obj _,v,h=>by
  simp only [Den] at h ⊢;obtain⟨a,e,q⟩:=h
  exact⟨a,e,fun G sG=>q G (s.trans sG)⟩
 | .dct ks ds,v,h=>by
  simp only [Den] at h ⊢;obtain⟨a,vs,e,q,l,r⟩:=h;exact⟨a,vs,e,s _ _ q,l,aj.mono s ds vs r⟩
theorem aj.mono {K:Mn} {F F':Hp} (s:ao F F'):∀(ds:List D) (vs:List V),aj K F ds vs→aj K F' ds vs
 | [],_,h=>by simpa only [aj] using h
 | d :: ds,vs,h=>by
  simp only [aj] at h ⊢;obtain⟨v,r,e,a,b⟩:=h;exact⟨v,r,e,Den.mono s d v a,aj.mono s ds r b⟩
end
section
variable {K:Mn} {F:Hp}
theorem bE {i:Int}:Den K F (.int i) (.int i):=by simp only [Den]
theorem gQ {b:Bool}:Den K F (.bl b) (.bl b):=by simp only [Den]
theorem qo:Den K F .non .non:=by simp only [Den]
theorem mI {x:Str}:Den K F (.str x) (.str x):=by simp only [Den]
theorem Iv {x:String}:Den K F (.ty x) (.ty x):=by simp only [Den]
theorem gx {a:Addr} {vs:List V} {ds:List D} (h:jv K F a vs) (r:aj K F ds vs):Den K F (.tup ds) (.ref a):=by
 simp only [Den];exact⟨a,vs,rfl,h,r⟩
theorem iZ {a:Addr} {vs:List V} {ds:List D} (h:fU K F a vs) (r:aj K F ds vs):Den K F (.lst ds) (.ref a):=by
 simp only [Den];exact⟨a,vs,rfl,h,r⟩
theorem aO:aj K F [] []:=by simp only [aj]
theorem aM {d:D} {v:V} {ds:List D} {vs:List V} (h:Den K F d v) (r:aj K F ds vs):aj K F (d :: ds) (v :: vs):=by
 simp only [aj];exact⟨v,vs,rfl,h,r⟩
theorem aj.length:∀{ds:List D} {vs:List V},aj K F ds vs→ds.length=vs.length
 | [],vs,h=>by simp only [aj] at h;subst h;rfl
 | d :: ds,vs,h=>by
  simp only [aj] at h;obtain⟨v,r,rfl,_,b⟩:=h;simp [aj.length b]
theorem aj.get:∀{ds:List D} {vs:List V} {i:Nat} {d:D},aj K F ds vs→ds[i]?=some d→∃v,vs[i]?=some v∧Den K F d v
 | [],vs,i,d,h,e=>by simp at e
 | x :: ds,vs,i,d,h,e=>by
  simp only [aj] at h;obtain⟨v,r,rfl,a,b⟩:=h
  cases i with
  | zero=>simp at e;subst e;exact⟨v,rfl,a⟩
  | succ i=>simpa using aj.get b (by simpa using e)
theorem aj.Jp:∀{ds:List D} {vs:List V} {i:Nat} {v:V},aj K F ds vs→vs[i]?=some v→∃d,ds[i]?=some d∧Den K F d v
 | [],vs,i,d,h,e=>by simp only [aj] at h;subst h;simp at e
 | x :: ds,vs,i,d,h,e=>by
  simp only [aj] at h;obtain⟨v,r,rfl,a,b⟩:=h
  cases i with
  | zero=>simp at e;subst e;exact⟨x,rfl,a⟩
  | succ i=>simpa using aj.Jp b (by simpa using e)
theorem aj.append:∀{ds es:List D} {vs us:List V},aj K F ds vs→aj K F es us→aj K F (ds ++ es) (vs ++ us)
 | [],es,vs,us,h,g=>by simp only [aj] at h;subst h;exact g
 | x :: ds,es,vs,us,h,g=>by
  simp only [aj] at h;obtain⟨v,r,rfl,a,b⟩:=h;exact aM a (aj.append b g)
theorem aj.take:∀{ds:List D} {vs:List V} (n:Nat),aj K F ds vs→aj K F (ds.take n) (vs.take n)
 | _,_,0,_=>by simpa using aO
 | [],vs,n + 1,h=>by simp only [aj] at h;subst h;simpa using aO
 | x :: ds,vs,n + 1,h=>by
  simp only [aj] at h;obtain⟨v,r,rfl,a,b⟩:=h;exact aM a (aj.take n b)
theorem aj.drop:∀{ds:List D} {vs:List V} (n:Nat),aj K F ds vs→aj K F (ds.drop n) (vs.drop n)
 | _,_,0,h=>by simpa using h
 | [],vs,n + 1,h=>by simp only [aj] at h;subst h;simpa using aO
 | x :: ds,vs,n + 1,h=>by
  simp only [aj] at h;obtain⟨v,r,rfl,a,b⟩:=h;exact aj.drop n b
theorem aj.set {x:D} {v:V} (q:Den K F x v):∀{ds:List D} {vs:List V} (n:Nat),aj K F ds vs→aj K F (ds.set n x) (vs.set n v)
 | [],vs,n,h=>by simp only [aj] at h;subst h;simpa using aO
 | y :: ds,vs,0,h=>by
  simp only [aj] at h;obtain⟨w,r,rfl,a,b⟩:=h
  exact aM q b
 | y :: ds,vs,n + 1,h=>by
  simp only [aj] at h;obtain⟨w,r,rfl,a,b⟩:=h;exact aM a (aj.set q n b)
theorem oN (ns:List Int):aj K F (ns.map D.int) (ns.map V.int):=by
 induction ns with
 | nil=>exact aO
 | cons n r ih=>exact aM bE ih
end
mutual
def Dd:D→Int
 | .int i=>hashInt i
 | .tup ds=>reduceHash (Builtin.Tuple.tupleHashOf (qR ds))
 | .non=>4238894112
 | _=>0
def qR:List D→List Int
 | []=>[]
 | d :: ds=>Dd d :: qR ds
end
def bJ (h:Heap) (d:Addr) (es:Array DictEntry) (ep:Nat):Prop:=∃o,h.get? d=some o∧o.ExactDict∧o.data=.dict es ep
def yl (row:Int×V×V) (e:DictEntry):Prop:=e.hash=row.1∧RelV row.2.1 e.key∧RelV row.2.2 e.val
def bM (p:Addr) (ep:Nat) (rows:List (Int×V×V)):HO:=.ext fun h=>rows.length≤sizeLine∧(p == sysModules)=false∧∃es,bJ h p es ep∧Paired yl rows es.toList
def bc (kvs:List (D×D)) (us vs:List V):List (Int×V×V):=(kvs.map fun kv=>Dd kv.1).zip (us.zip vs)
inductive Lo where
 | d (x:D) | own (xs:List D) | dic (kvs:List (D×D))
abbrev En:=List (Option Lo)
structure Base where
 F:Hp
 H:Hp
 N:Addr→Prop
 nb:∀p,N p→H p≠none
structure Rep (K:Mn) (B:Base) (F H:Hp) (σ:St) (e:En):Prop where
 f0:ao B.F F
 fh:ao F H
 h0:ao B.H H
 nf:∀p,B.N p→F p=none
 dv:∀(i:Nat) x,e[i]?=some (some (.d x))→∃v,σ[i]?=some (some v)∧Den K F x v
 ov:∀(i:Nat) xs,e[i]?=some (some (.own xs))→∃p vs,σ[i]?=some (some (.ref p))∧H p=some (.lst vs)∧F p=none∧B.H p=none∧aj K F xs vs
 ne:∀(i j:Nat) xs ys p,i≠j→e[i]?=some (some (.own xs))→e[j]?=some (some (.own ys))→σ[i]?=some (some (.ref p))→σ[j]?=some (some (.ref p))→False
 mv:∀(i:Nat) kvs,e[i]?=some (some (.dic kvs))→∃p ep us vs,σ[i]?=some (some (.ref p))∧H p=some (bM p ep (bc kvs us vs))∧F p=none∧B.H p=none∧aj K F (kvs.map (·.1)) us∧aj K F (kvs.map (·.2)) vs
 nm:∀(i j:Nat) xs ys p,i≠j→e[i]?=some (some (.dic xs))→e[j]?=some (some (.dic ys))→σ[i]?=some (some (.ref p))→σ[j]?=some (some (.ref p))→False
section
variable {K:Mn} {B:Base} {F H F' H':Hp} {σ:St} {e:En}
theorem Rep.ext (r:Rep K B F H σ e) (a:ao F F') (b:ao F' H') (c:ao H H') (n:∀p,H p≠none→F p=none→F' p=none):Rep K B F' H' σ e where
 f0:=r.f0.trans a
 fh:=b
 h0:=r.h0.trans c
 nf:=fun p hp=>by
  refine n p (fun z=>?_) (r.nf p hp);have q:=B.nb p hp
  cases w:B.H p with
  | none=>exact q w
  | some o=>rw [r.h0 _ _ w] at z;cases z
 dv:=fun i x h=>let ⟨v,h1,h2⟩:=r.dv i x h;⟨v,h1,Den.mono a _ _ h2⟩
 ov:=fun i xs h=>by
  obtain⟨p,vs,h1,h2,h3,h4,h5⟩:=r.ov i xs h;exact⟨p,vs,h1,c _ _ h2,n p (by rw [h2];simp) h3,h4,aj.mono a _ _ h5⟩
 ne:=r.ne
 mv:=fun i xs h=>by
  obtain⟨p,ep,us,vs,h1,h2,h3,h4,h5,h6⟩:=r.mv i xs h;exact⟨p,ep,us,vs,h1,c _ _ h2,n p (by rw [h2];simp) h3,h4,aj.mono a _ _ h5,aj.mono a _ _ h6⟩
 nm:=r.nm
theorem Rep.lM (r:Rep K B F H σ e) {p:Addr} (h:H p=none):F p=none:=r.fh.free h
theorem cu {H:Hp} {p:Addr} {o:HO} (h:H p=none):ao H (upd H p o):=fun b u q=>by rw [aq (fH q h)];exact q
theorem tS {F H:Hp} {p:Addr} {o:HO} (h:ao F H):ao (upd F p o) (upd H p o):=fun b u q=>by
 by_cases e:b=p
 ·subst e;rw [au] at q ⊢;exact q
 ·rw [aq e] at q ⊢;exact h _ _ q
theorem Rep.laid (r:Rep K B F H σ e) {p:Addr} {o:HO} (h:H p=none):Rep K B (upd F p o) (upd H p o) σ e∧ao F (upd F p o):=by
 have hf:=r.lM h;refine⟨r.ext (cu hf) (tS r.fh) (cu h) fun q hq hn=>?_,cu hf⟩
 by_cases z:q=p
 ·subst z;exact absurd h hq
 ·rw [aq z];exact hn
theorem Rep.loose (r:Rep K B F H σ e) {p:Addr} {o:HO} (h:H p=none):Rep K B F (upd H p o) σ e :=
 r.ext (ao.refl _) (r.fh.trans (cu h)) (cu h) fun _ _ hn=>hn
theorem Rep.now (r:Rep K B F H σ e):Rep K ⟨F,B.H,B.N,B.nb⟩ F H σ e:=⟨ao.refl _,r.fh,r.h0,r.nf,r.dv,r.ov,r.ne,r.mv,r.nm⟩
theorem Rep.back {G:Hp} (s:ao B.F G) (r:Rep K ⟨G,B.H,B.N,B.nb⟩ F H σ e):Rep K B F H σ e:=⟨s.trans r.f0,r.fh,r.h0,r.nf,r.dv,r.ov,r.ne,r.mv,r.nm⟩
theorem ba {e:En} {i j:Nat} {l:Lo} {kvs:List (D×D)} (hl:∀z,l≠.dic z) (q:(e.set i (some l))[j]?=some (some (.dic kvs))):i≠j:=fun z=>by
 subst z
 by_cases w:i < e.length
 ·rw [Mx w] at q;cases q;exact hl _ rfl
 ·rw [MI (by simpa using w)] at q;cases q
theorem Rep.set (r:Rep K B F H σ e) {i:Nat} {v:V} {x:D} (h:Den K F x v) (hl:i < σ.length):Rep K B F H (σ.set i (some v)) (e.set i (some (.d x))) where
 f0:=r.f0
 fh:=r.fh
 h0:=r.h0
 nf:=r.nf
 dv:=fun j y q=>by
  by_cases z:i=j
  ·subst z
   by_cases w:i < e.length
   ·rw [Mx w] at q;cases q;exact⟨v,Mx hl,h⟩
   ·rw [MI (by simpa using w)] at q;cases q
  ·rw [Ml z] at q ⊢;exact r.dv j y q
 ov:=fun j y q=>by
  by_cases z:i=j
  ·subst z
   by_cases w:i < e.length
   ·rw [Mx w] at q;cases q
   ·rw [MI (by simpa using w)] at q;cases q
  ·rw [Ml z] at q ⊢;exact r.ov j y q
 ne:=fun j k xs ys p hjk q1 q2 q3 q4=>by
  have own_ne:∀(j:Nat) (ys:List D),(e.set i (some (.d x)))[j]?=some (some (.own ys))→i≠j:=fun j ys q z=>by
   subst z
   by_cases w:i < e.length
   ·rw [Mx w] at q;cases q
   ·rw [MI (by simpa using w)] at q;cases q
  have z1:=own_ne j xs q1;have z2:=own_ne k ys q2;rw [Ml z1] at q1 q3;rw [Ml z2] at q2 q4;exact r.ne j k xs ys p hjk q1 q2 q3 q4
 mv:=fun j y q=>by
  have z:i≠j:=ba (fun _ w=>by cases w) q;rw [Ml z] at q ⊢;exact r.mv j y q
 nm:=fun j k xs ys p hjk q1 q2 q3 q4=>by
  have z1:=ba (fun _ w=>by cases w) q1;have z2:=ba (fun _ w=>by cases w) q2;rw [Ml z1] at q1 q3;rw [Ml z2] at q2 q4;exact r.nm j k xs ys p hjk q1 q2 q3 q4
theorem Rep.Cb (r:Rep K B F H σ e) {i:Nat} {p:Addr} {vs:List V} {xs:List D} (h:H p=none) (hd:aj K F xs vs) (hl:i < σ.length) :
  Rep K B F (upd H p (.lst vs)) (σ.set i (some (.ref p))) (e.set i (some (.own xs))):=by
 have r1:=r.loose (o:=.lst vs) h;have hb:B.H p=none:=r.h0.free h
 have old:∀(j:Nat) (ys:List D),e[j]?=some (some (.own ys))→σ[j]?≠some (some (.ref p)):=fun j ys q z=>by
  obtain⟨q1,_,h1,h2,_⟩:=r.ov j ys q;rw [z] at h1;cases h1;rw [h] at h2;cases h2
 refine⟨r1.f0,r1.fh,r1.h0,r1.nf,fun j y q=>?_,fun j y q=>?_,fun j k ys zs q hjk q1 q2 q3 q4=>?_,fun j y q=>?_,fun j k ys zs q hjk q1 q2 q3 q4=>?_⟩
 ·by_cases z:i=j
  ·subst z
   by_cases w:i < e.length
   ·rw [Mx w] at q;cases q
   ·rw [MI (by simpa using w)] at q;cases q
  ·rw [Ml z] at q ⊢;exact r1.dv j y q
 ·by_cases z:i=j
  ·subst z
   by_cases w:i < e.length
   ·rw [Mx w] at q;cases q;exact⟨p,vs,Mx hl,au,r.lM h,hb,hd⟩
   ·rw [MI (by simpa using w)] at q;cases q
  ·rw [Ml z] at q ⊢;exact r1.ov j y q
 ·by_cases z1:i=j
  ·subst z1;rw [Ml hjk] at q2 q4
   by_cases w:i < e.length
   ·rw [Mx hl] at q3;cases q3;exact old k zs q2 q4
   ·rw [MI (by simpa using w)] at q1;cases q1
  ·rw [Ml z1] at q1 q3
   by_cases z2:i=k
   ·subst z2;rw [Mx hl] at q4;cases q4;exact old j ys q1 q3
   ·rw [Ml z2] at q2 q4;exact r.ne j k ys zs q hjk q1 q2 q3 q4
 ·have z:i≠j:=ba (fun _ w=>by cases w) q;rw [Ml z] at q ⊢;exact r1.mv j y q
 ·have z1:=ba (fun _ w=>by cases w) q1;have z2:=ba (fun _ w=>by cases w) q2;rw [Ml z1] at q1 q3;rw [Ml z2] at q2 q4;exact r.nm j k ys zs q hjk q1 q2 q3 q4
theorem Rep.change (r:Rep K B F H σ e) {i:Nat} {p:Addr} {vs:List V} {xs ys:List D} (h:e[i]?=some (some (.own xs))) (hp:σ[i]?=some (some (.ref p))) (hd:aj K F ys vs) :
  Rep K B F (upd H p (.lst vs)) σ (e.set i (some (.own ys))):=by
 obtain⟨p',_,h1,h2,h3,h4,_⟩:=r.ov i xs h;rw [hp] at h1;cases h1;have wl:i < e.length:=(Mi.mp h).1;have fk:∀q o,F q=some o→q≠p:=fun q o z w=>by subst w;rw [h3] at z;cases z
 have bk:∀q o,B.H q=some o→q≠p:=fun q o z w=>by subst w;rw [h4] at z;cases z
 have ownAt:∀(j:Nat) (zs:List D),(e.set i (some (.own ys)))[j]?=some (some (.own zs))→∃ws,e[j]?=some (some (.own ws)):=fun j zs q=>by
  by_cases z:i=j
  ·subst z;exact⟨xs,h⟩
  ·rw [Ml z] at q;exact⟨zs,q⟩
 refine⟨r.f0,fun b o z=>by rw [aq (fk b o z)];exact r.fh _ _ z,fun b o z=>by rw [aq (bk b o z)];exact r.h0 _ _ z,r.nf,fun j y q=>?_,fun j y q=>?_,fun j k as bs q hjk q1 q2 q3 q4=>?_,fun j y q=>?_,fun j k as bs q hjk q1 q2 q3 q4=>?_⟩
 ·by_cases z:i=j
  ·subst z;rw [Mx wl] at q;cases q
  ·rw [Ml z] at q;exact r.dv j y q
 ·by_cases z:i=j
  ·subst z;rw [Mx wl] at q;cases q;exact⟨p,vs,hp,au,h3,h4,hd⟩
  ·rw [Ml z] at q;obtain⟨p2,us,g1,g2,g3,g4,g5⟩:=r.ov j y q;have:p2≠p:=fun w=>by subst w;exact r.ne j i y xs p2 (Ne.symm z) q h g1 hp
   exact⟨p2,us,g1,by rw [aq this];exact g2,g3,g4,g5⟩
 ·obtain⟨as',w1⟩:=ownAt j as q1;obtain⟨bs',w2⟩:=ownAt k bs q2;exact r.ne j k as' bs' q hjk w1 w2 q3 q4
 ·have z:i≠j:=ba (fun _ w=>by cases w) q;rw [Ml z] at q;obtain⟨p2,ep,us,ws,g1,g2,g3,g4,g5,g6⟩:=r.mv j y q;have:p2≠p:=fun w=>by subst w;rw [h2] at g2;cases g2
  exact⟨p2,ep,us,ws,g1,by rw [aq this];exact g2,g3,g4,g5,g6⟩
 ·have z1:=ba (fun _ w=>by cases w) q1;have z2:=ba (fun _ w=>by cases w) q2;rw [Ml z1] at q1;rw [Ml z2] at q2;exact r.nm j k as bs q hjk q1 q2 q3 q4
theorem Rep.freeze (r:Rep K B F H σ e) {i:Nat} {xs:List D} (h:e[i]?=some (some (.own xs))):∃F',ao F F'∧Rep K B F' H σ (e.set i (some (.d (.lst xs)))):=by
 obtain⟨p,vs,h1,h2,h3,h4,h5⟩:=r.ov i xs h;have wl:i < e.length:=(Mi.mp h).1;have s1:ao F (upd F p (.lst vs)):=cu h3;refine⟨upd F p (.lst vs),s1,r.f0.trans s1,fun b o z=>?_,r.h0,fun q hq=>?_,fun j y q=>?_,fun j y q=>?_,fun j k as bs q hjk q1 q2 q3 q4=>?_,fun j y q=>?_,fun j k as bs q hjk q1 q2 q3 q4=>?_⟩
 ·by_cases w:b=p
  ·subst w;rw [au] at z;cases z;exact h2
  ·rw [aq w] at z;exact r.fh _ _ z
 ·have:q≠p:=fun w=>by subst w;exact B.nb _ hq h4
  rw [aq this];exact r.nf q hq
 ·by_cases z:i=j
  ·subst z;rw [Mx wl] at q;cases q;exact⟨_,h1,iZ (fU.of au) (aj.mono s1 _ _ h5)⟩
  ·rw [Ml z] at q;obtain⟨v,a,b⟩:=r.dv j y q;exact⟨v,a,Den.mono s1 _ _ b⟩
 ·by_cases z:i=j
  ·subst z;rw [Mx wl] at q;cases q
  ·rw [Ml z] at q;obtain⟨p2,us,g1,g2,g3,g4,g5⟩:=r.ov j y q;have:p2≠p:=fun w=>by subst w;exact r.ne j i y xs p2 (Ne.symm z) q h g1 h1
   exact⟨p2,us,g1,g2,by rw [aq this];exact g3,g4,aj.mono s1 _ _ g5⟩
 ·have ownAt:∀(j:Nat) (zs:List D),(e.set i (some (.d (.lst xs))))[j]?=some (some (.own zs))→e[j]?=some (some (.own zs)):=fun j zs q=>by
   by_cases z:i=j
   ·subst z;rw [Mx wl] at q;cases q
   ·rw [Ml z] at q;exact q
  exact r.ne j k as bs q hjk (ownAt j as q1) (ownAt k bs q2) q3 q4
 ·have z:i≠j:=ba (fun _ w=>by cases w) q;rw [Ml z] at q;obtain⟨p2,ep,us,ws,g1,g2,g3,g4,g5,g6⟩:=r.mv j y q;have:p2≠p:=fun w=>by subst w;rw [h2] at g2;cases g2
  exact⟨p2,ep,us,ws,g1,g2,by rw [aq this];exact g3,g4,aj.mono s1 _ _ g5,aj.mono s1 _ _ g6⟩
 ·have z1:=ba (fun _ w=>by cases w) q1;have z2:=ba (fun _ w=>by cases w) q2;rw [Ml z1] at q1;rw [Ml z2] at q2;exact r.nm j k as bs q hjk q1 q2 q3 q4
end
end L2.L3
namespace L2.L3
open PySem PySem.Spec PyProof.Rows
def notStar:Expr→Bool
 | .Starred _ _=>false
 | _=>true
theorem bq {e:Expr} {es:List Expr} {env:Env} (h:notStar e=true):starEach (e :: es) env=(false,eval e env) :: starEach es env:=by
 cases e <;> first | rfl | cases h
abbrev TD:=En→(D→Prop)→Prop
abbrev TB:=En→(Bool→Prop)→Prop
abbrev ft:=En→(List D→Prop)→Prop
structure iI where
 nx:En→Prop
 rt:D→Prop
 bk:En→Prop:=fun _=>False
 ct:En→Prop:=fun _=>False
abbrev bS:=iI→En→Prop
def wE (X:Cx) (e:Expr):TE:=fun σ H Q=>∀(pins:List (Addr×Obj)) (s:Shared),Inv X pins σ H s→wpAny (model X.prog X.w) X.A (eval e X.env) (EP X pins σ Q) X.xe s
def wT (X:Cx) (e:Expr):TT:=fun σ H Q=>∀(pins:List (Addr×Obj)) (s:Shared),Inv X pins σ H s→wpAny (model X.prog X.w) X.A (isTrue e X.env (eval e X.env)) (TP X pins σ Q) X.xe s
def wW (X:Cx) (e:Expr):TT:=fun σ H Q=>∀(whole:Sem Value) (pins:List (Addr×Obj)) (s:Shared),Inv X pins σ H s→wpAny (model X.prog X.w) X.A (isTrue e X.env whole) (TP X pins σ Q) X.xe s
def wA (X:Cx) (es:List Expr):TA:=fun σ H Q=>∀(pos:Pos) (pins:List (Addr×Obj)) (s:Shared),Inv X pins σ H s→wpAny (model X.prog X.w) X.A (spliced (backTo pos (starEach es X.env))) (AP X pins σ Q) X.xe s
def wS (X:Cx) (st:Stmt):TS:=fun D σ H=>∀(pins:List (Addr×Obj)) (s:Shared),Inv X pins σ H s→wpAny (model X.prog X.w) X.A (exec st X.env) (SP X pins D) X.xe s
def wSs (X:Cx) (st:List Stmt):TS:=fun D σ H=>∀(pins:List (Addr×Obj)) (s:Shared),Inv X pins σ H s→wpAny (model X.prog X.w) X.A (execs st X.env) (SP X pins D) X.xe s
section
variable {X:Cx} {e:Expr} {es:List Expr} {st:Stmt} {sts:List Stmt} {σ:St} {H:Hp}
theorem bH:PE X e (wE X e):=fun pins s σ H Q I h=>h pins s I
theorem qW:PT X e (wT X e):=fun pins s σ H Q I h=>h pins s I
theorem Kj:PW X e (wW X e):=fun wh pins s σ H Q I h=>h wh pins s I
theorem iO:PA X es (wA X es):=fun pos pins s σ H Q I h=>h pos pins s I
theorem Eo:PS X st (wS X st):=fun pins s σ H D I h=>h pins s I
theorem eN:yI X sts (wSs X sts):=fun pins s σ H D I h=>h pins s I
theorem b8 {te:TE} {Q:VK} (h:PE X e te) (q:te σ H Q):wE X e σ H Q:=fun pins s I=>h pins s σ H Q I q
theorem rh {te:TT} {Q:Bool→Hp→Prop} (h:PT X e te) (q:te σ H Q):wT X e σ H Q:=fun pins s I=>h pins s σ H Q I q
theorem Ax {te:TT} {Q:Bool→Hp→Prop} (h:PW X e te) (q:te σ H Q):wW X e σ H Q:=fun wh pins s I=>h wh pins s σ H Q I q
theorem Gz {te:TA} {Q:List V→Hp→Prop} (h:PA X es te) (q:te σ H Q):wA X es σ H Q:=fun pos pins s I=>h pos pins s σ H Q I q
theorem dD {te:TS} {D:Ends} (h:PS X st te) (q:te D σ H):wS X st D σ H:=fun pins s I=>h pins s σ H D I q
theorem oa {te:TS} {D:Ends} (h:yI X sts te) (q:te D σ H):wSs X sts D σ H:=fun pins s I=>h pins s σ H D I q
theorem aA {Q Q':VK} (h:wE X e σ H Q) (i:∀v H',Q v H'→Q' v H'):wE X e σ H Q':=fun pins s I=>bU (h pins s I) fun _ _ ⟨v,H',I',r,q⟩=>⟨v,H',I',r,i v H' q⟩
theorem gC {Q Q':Bool→Hp→Prop} (h:wT X e σ H Q) (i:∀v H',Q v H'→Q' v H'):wT X e σ H Q':=fun pins s I=>bU (h pins s I) fun b _ ⟨H',I',q⟩=>⟨H',I',i b H' q⟩
theorem zT {Q Q':Bool→Hp→Prop} (h:wW X e σ H Q) (i:∀v H',Q v H'→Q' v H'):wW X e σ H Q':=fun wh pins s I=>bU (h wh pins s I) fun b _ ⟨H',I',q⟩=>⟨H',I',i b H' q⟩
theorem cw {Q Q':List V→Hp→Prop} (h:wA X es σ H Q) (i:∀v H',Q v H'→Q' v H'):wA X es σ H Q':=fun pos pins s I=>bU (h pos pins s I) fun _ _ ⟨v,H',I',r,q⟩=>⟨v,H',I',r,i v H' q⟩
theorem Ah {pins:List (Addr×Obj)} {D D':Ends} {f:Flow} {s':Shared} (h:SP X pins D f s') (nx:∀σ H,D.nx σ H→D'.nx σ H) (rt:∀v H,D.rt v H→D'.rt v H) (bk:∀σ H,D.bk σ H→D'.bk σ H) (ct:∀σ H,D.ct σ H→D'.ct σ H):SP X pins D' f s':=by
 cases f with
 | next=>obtain⟨σ',H',I,q⟩:=h;exact⟨σ',H',I,nx _ _ q⟩
 | brk=>obtain⟨σ',H',I,q⟩:=h;exact⟨σ',H',I,bk _ _ q⟩
 | cont=>obtain⟨σ',H',I,q⟩:=h;exact⟨σ',H',I,ct _ _ q⟩
 | ret u=>obtain⟨v,σ',H',I,r,q⟩:=h;exact⟨v,σ',H',I,r,rt _ _ q⟩
theorem vO {D D':Ends} (h:wS X st D σ H) (nx:∀σ H,D.nx σ H→D'.nx σ H) (rt:∀v H,D.rt v H→D'.rt v H) (bk:∀σ H,D.bk σ H→D'.bk σ H) (ct:∀σ H,D.ct σ H→D'.ct σ H):wS X st D' σ H :=
 fun pins s I=>bU (h pins s I) fun _ _ q=>Ah q nx rt bk ct
theorem d8 {D D':Ends} (h:wSs X sts D σ H) (nx:∀σ H,D.nx σ H→D'.nx σ H) (rt:∀v H,D.rt v H→D'.rt v H) (bk:∀σ H,D.bk σ H→D'.bk σ H) (ct:∀σ H,D.ct σ H→D'.ct σ H):wSs X sts D' σ H :=
 fun pins s I=>bU (h pins s I) fun _ _ q=>Ah q nx rt bk ct
end
def RV (X:Cx) (B:Base) (σ:St) (env:En) (F:Hp) (Q:D→Prop):VK:=fun v H'=>∃F' d,Rep X.K B F' H' σ env∧ao F F'∧Den X.K F' d v∧Q d
def RB (X:Cx) (B:Base) (σ:St) (env:En) (F:Hp) (Q:Bool→Prop):Bool→Hp→Prop:=fun b H'=>∃F',Rep X.K B F' H' σ env∧ao F F'∧Q b
def RA (X:Cx) (B:Base) (σ:St) (env:En) (F:Hp) (Q:List D→Prop):List V→Hp→Prop:=fun vs H'=>∃F' ds,Rep X.K B F' H' σ env∧ao F F'∧aj X.K F' ds vs∧Q ds
def RS (X:Cx) (B:Base) (D:iI):Ends where
 nx:=fun σ' H'=>∃F' env',Rep X.K B F' H' σ' env'∧D.nx env'
 rt:=fun v H'=>∃F' d,Rep X.K B F' H' [] []∧Den X.K F' d v∧D.rt d
 bk:=fun σ' H'=>∃F' env',Rep X.K B F' H' σ' env'∧D.bk env'
 ct:=fun σ' H'=>∃F' env',Rep X.K B F' H' σ' env'∧D.ct env'
structure QE (X:Cx) (e:Expr) (t:TD):Prop where
 of ::
 run:∀(B:Base) (σ:St) (F H:Hp) (env:En) (Q:D→Prop),Rep X.K B F H σ env→t env Q→wE X e σ H (RV X B σ env F Q)
instance {X:Cx} {e:Expr} {t:TD}:CoeFun (QE X e t) (fun _=>∀(B:Base) (σ:St) (F H:Hp) (env:En) (Q:D→Prop),Rep X.K B F H σ env→t env Q→wE X e σ H (RV X B σ env F Q)):=⟨QE.run⟩
structure QT (X:Cx) (e:Expr) (t:TB):Prop where
 of ::
 run:∀(B:Base) (σ:St) (F H:Hp) (env:En) (Q:Bool→Prop),Rep X.K B F H σ env→t env Q→wT X e σ H (RB X B σ env F Q)
instance {X:Cx} {e:Expr} {t:TB}:CoeFun (QT X e t) (fun _=>∀(B:Base) (σ:St) (F H:Hp) (env:En) (Q:Bool→Prop),Rep X.K B F H σ env→t env Q→wT X e σ H (RB X B σ env F Q)):=⟨QT.run⟩
structure QW (X:Cx) (e:Expr) (t:TB):Prop where
 of ::
 run:∀(B:Base) (σ:St) (F H:Hp) (env:En) (Q:Bool→Prop),Rep X.K B F H σ env→t env Q→wW X e σ H (RB X B σ env F Q)
instance {X:Cx} {e:Expr} {t:TB}:CoeFun (QW X e t) (fun _=>∀(B:Base) (σ:St) (F H:Hp) (env:En) (Q:Bool→Prop),Rep X.K B F H σ env→t env Q→wW X e σ H (RB X B σ env F Q)):=⟨QW.run⟩
structure QA (X:Cx) (es:List Expr) (t:ft):Prop where
 of ::
 run:∀(B:Base) (σ:St) (F H:Hp) (env:En) (Q:List D→Prop),Rep X.K B F H σ env→t env Q→wA X es σ H (RA X B σ env F Q)
instance {X:Cx} {es:List Expr} {t:ft}:CoeFun (QA X es t) (fun _=>∀(B:Base) (σ:St) (F H:Hp) (env:En) (Q:List D→Prop),Rep X.K B F H σ env→t env Q→wA X es σ H (RA X B σ env F Q)):=⟨QA.run⟩
structure QS (X:Cx) (st:Stmt) (t:bS):Prop where
 of ::
 run:∀(B:Base) (σ:St) (F H:Hp) (env:En) (D:iI),Rep X.K B F H σ env→t D env→wS X st (RS X B D) σ H
instance {X:Cx} {st:Stmt} {t:bS}:CoeFun (QS X st t) (fun _=>∀(B:Base) (σ:St) (F H:Hp) (env:En) (D:iI),Rep X.K B F H σ env→t D env→wS X st (RS X B D) σ H):=⟨QS.run⟩
structure sS (X:Cx) (st:List Stmt) (t:bS):Prop where
 of ::
 run:∀(B:Base) (σ:St) (F H:Hp) (env:En) (D:iI),Rep X.K B F H σ env→t D env→wSs X st (RS X B D) σ H
instance {X:Cx} {st:List Stmt} {t:bS}:CoeFun (sS X st t) (fun _=>∀(B:Base) (σ:St) (F H:Hp) (env:En) (D:iI),Rep X.K B F H σ env→t D env→wSs X st (RS X B D) σ H):=⟨sS.run⟩
section
variable {X:Cx} {a b c e:Expr} {es:List Expr} {ta tb tc:TD} {tA tB':TB} {ts:ft} {pos:Pos} {rest:List Expr}
def af (i:Nat):TD:=fun env Q=>∃x,env[i]?=some (some (.d x))∧Q x
def cC (x:D):TD:=fun _ Q=>Q x
theorem qv (i:Nat) {x:Str} {pos:Pos} (hN:X.N[i]?=some x:=by rfl) (hv:qJ X.env.scope x:=by first | exact Or.inl rfl | exact Or.inr (Or.inl rfl) | exact Or.inr (Or.inr rfl)) (hd:(x == ("__debug__" : Str))=false:=by decide)
  (hcd:(x == ("__classdict__" : Str))=false:=by decide):QE X (.Name x pos) (af i):=by
 refine⟨?_⟩;intro B σ F H env Q r ⟨x,hx,q⟩;obtain⟨v,hv',hd'⟩:=r.dv i x hx;exact b8 (cv hN hv hd hcd) ⟨v,hv',F,x,r,ao.refl _,hd',q⟩
theorem qc {te:TE} {v:V} {x:D} (h:PE X e (tC v)) (hd:∀F,Den X.K F x v):QE X e (cC x):=⟨fun B σ F H env Q r q=>b8 h ⟨F,x,r,ao.refl _,hd F,q⟩⟩
theorem aC {i j pos}:QE X (.Constant (.int i) j pos) (cC (.int i)):=qc (te:=tC (.int i)) yP fun _=>bE
theorem Eu {b j pos}:QE X (.Constant (.bool b) j pos) (cC (.bl b)):=qc (te:=tC (.bl b)) JU fun _=>gQ
theorem Kr {j pos}:QE X (.Constant .none j pos) (cC .non):=qc (te:=tC .non) Dc fun _=>qo
theorem ou {x j pos}:QE X (.Constant (.str x) j pos) (cC (.str x)):=qc (te:=tC (.str x)) H0 fun _=>mI
theorem Mh {x:Str} {n:String} {pos:Pos} (hg:Gl X x) (hm:X.mg x=none) (hv:bootBuiltins x=some (.type n)) (hn:x≠"__name__":=by decide) (hd:(x == ("__debug__" : Str))=false:=by decide):QE X (.Name x pos) (cC (.ty n)) :=
 qc (te:=tC (.ty n)) (Fy (v:=.ty n) hg hm hv rfl hn hd) fun _=>Iv
def Kont (X:Cx) (B:Base) (σ:St) (env:En) (F:Hp) (Q:D→Prop) (Z:VK):Prop:=∀(v:V) (H' F':Hp) (d:D),Rep X.K B F' H' σ env→ao F F'→Den X.K F' d v→Q d→Z v H'
def zX (X:Cx) (r:R2) (f:D→D→(D→Prop)→Prop):Prop:=∀(B:Base) (σ:St) (F H:Hp) (env:En) (Q:D→Prop) (d d':D) (x y:V) (Z:VK),Rep X.K B F H σ env→Den X.K F d x→Den X.K F d' y→Kont X B σ env F Q Z→f d d' Q→r x y H Z
def aG (f:D→D→(D→Prop)→Prop) (ta tb:TD):TD:=fun env Q=>ta env fun x=>tb env fun y=>f x y Q
theorem RV.weaken {B:Base} {σ:St} {env:En} {F F':Hp} {Q:D→Prop} (s:ao F F') {v:V} {H:Hp} (h:RV X B σ env F' Q v H):RV X B σ env F Q v H:=by
 obtain⟨G,d,r,s',hd,q⟩:=h;exact⟨G,d,r,s.trans s',hd,q⟩
theorem two {r:R2} {f:D→D→(D→Prop)→Prop} (hf:zX X r f) (ha:QE X a ta) (hb:QE X b tb) {B:Base} {σ:St} {F H:Hp} {env:En} {Q:D→Prop} {Z:VK} (rp:Rep X.K B F H σ env) (hz:Kont X B σ env F Q Z) (h:aG f ta tb env Q) :
  IJ r (wE X a) (wE X b) σ H Z:=by
 refine aA (ha B σ F H env _ rp h) fun x H1 hq0=>?_;obtain⟨F1,d,r1,s1,d1,q1⟩:=hq0;refine aA (hb B σ F1 H1 env _ r1 q1) fun y H2 hq0=>?_;obtain⟨F2,d',r2,s2,d2,q2⟩:=hq0;exact hf B σ F2 H2 env Q d d' x y Z r2 (Den.mono s2 _ _ d1) d2 (fun v H' F' d' r' s'=>hz v H' F' d' r' ((s1.trans s2).trans s')) q2
theorem KJ {B:Base} {σ:St} {env:En} {F:Hp} {Q:D→Prop}:Kont X B σ env F Q (RV X B σ env F Q):=fun v H' F' d r s hd q=>⟨F',d,r,s,hd,q⟩
theorem A4 {op:Operator} {r:R2} {f:D→D→(D→Prop)→Prop} (ho:kY X (binaryOp op) r) (hf:zX X r f) (ha:QE X a ta) (hb:QE X b tb):QE X (.BinOp a op b pos) (aG f ta tb) :=
 ⟨fun B σ F H env Q rp h=>b8 (JT ho bH bH) (two hf ha hb rp KJ h)⟩
theorem Gi {op:CmpOp} {r:R2} {f:D→D→(D→Prop)→Prop} (ho:kY X (compareOp op) r) (hf:zX X r f) (ha:QE X a ta) (hb:QE X b tb) (hm:behindInMarks op b=false):QE X (.Compare a [op] [b] pos) (aG f ta tb) :=
 ⟨fun B σ F H env Q rp h=>b8 (EI ho bH bH hm) (two hf ha hb rp KJ h)⟩
def aL (t:TD):TB:=fun env Q=>t env fun x=>∃k,x=.bl k∧Q k
theorem jo {K:Mn} {F:Hp} {k:Bool} {v:V} (h:Den K F (.bl k) v):v=.bl k:=by simpa only [Den] using h
theorem jO {op:CmpOp} {r:R2} {f:D→D→(D→Prop)→Prop} (ho:kY X (compareOp op) r) (hf:zX X r f) (ha:QE X a ta) (hb:QE X b tb) (hm:behindInMarks op b=false):QT X (.Compare a [op] [b] pos) (aL (aG f ta tb)):=by
 refine⟨?_⟩;intro B σ F H env Q rp h;refine rh (mC ho bH bH hm) ?_;show IJ r (wE X a) (wE X b) σ H fun x H'=>∃k,x=.bl k∧RB X B σ env F Q k H'
 refine two hf ha hb rp (fun v H' F' d r' s' hd q=>?_) h;obtain⟨k,rfl,q⟩:=q;exact⟨k,jo hd,F',r',s',q⟩
theorem oB {t:TD} (h:QE X e t) (he:∀whole,isTrue e X.env whole=(do let v ← whole;standAt e.pos;holding [v] (truthy v)):=by intro _;rfl):QT X e (aL t):=by
 refine⟨?_⟩;intro B σ F H env Q rp hq;refine rh (GG bH he) ?_;refine aA (h B σ F H env _ rp hq) fun v H' w=>?_;obtain⟨F',d,r',s',hd,k,rfl,q⟩:=w;exact⟨k,jo hd,F',r',s',q⟩
def sE (t u:TB):TB:=fun env Q=>t env fun k=>if k=true then u env Q else Q false
def CB (t u:TB):TB:=fun env Q=>t env fun k=>if k=true then Q true else u env Q
def pZ (t:TB):TB:=fun env Q=>t env fun k=>Q (!k)
theorem QW.t (h:QW X e tA):QT X e tA:=⟨fun B σ F H env Q rp hq pins s I=>h B σ F H env Q rp hq _ pins s I⟩
theorem qB (ha:QT X a tA):QW X (.BoolOp .And [a] pos) tA:=⟨fun B σ F H env Q rp h=>Ax (EN qW) (ha B σ F H env Q rp h)⟩
theorem vB (ha:QT X a tA):QW X (.BoolOp .Or [a] pos) tA:=⟨fun B σ F H env Q rp h=>Ax (GV qW) (ha B σ F H env Q rp h)⟩
theorem u3 (ha:QT X a tA) (hb:QW X (.BoolOp .And (b :: rest) pos) tB'):QW X (.BoolOp .And (a :: b :: rest) pos) (sE tA tB'):=by
 refine⟨?_⟩;intro B σ F H env Q rp h;refine Ax (HA qW Kj) ?_;refine gC (ha B σ F H env _ rp h) fun k H1 ⟨F1,r1,s1,q1⟩=>?_
 cases k with
 | true=>exact zT (hb B σ F1 H1 env Q r1 q1) fun k2 H2 ⟨F2,r2,s2,q2⟩=>⟨F2,r2,s1.trans s2,q2⟩
 | false=>exact⟨F1,r1,s1,q1⟩
theorem Aa (ha:QT X a tA) (hb:QW X (.BoolOp .Or (b :: rest) pos) tB'):QW X (.BoolOp .Or (a :: b :: rest) pos) (CB tA tB'):=by
 refine⟨?_⟩;intro B σ F H env Q rp h;refine Ax (JG qW Kj) ?_;refine gC (ha B σ F H env _ rp h) fun k H1 ⟨F1,r1,s1,q1⟩=>?_
 cases k with
 | false=>exact zT (hb B σ F1 H1 env Q r1 q1) fun k2 H2 ⟨F2,r2,s2,q2⟩=>⟨F2,r2,s1.trans s2,q2⟩
 | true=>exact⟨F1,r1,s1,q1⟩
theorem qX (ha:QT X a tA):QT X (.UnaryOp .Not a pos) (pZ tA):=⟨fun B σ F H env Q rp h=>rh (IE qW) (gC (ha B σ F H env _ rp h) fun k H1 q=>q)⟩
def nM (t u:TD):TD:=fun env Q=>t env fun x=>∃k,x=.bl k∧if k=true then u env Q else Q (.bl false)
def nP (t:TD):TD:=fun env Q=>t env fun x=>∃k,x=.bl k∧Q (.bl (!k))
theorem B0 {op} (h:QE X a ta):QE X (.BoolOp op [a] pos) ta:=⟨fun B σ F H env Q rp q=>b8 (GI bH) (h B σ F H env Q rp q)⟩
theorem BS (ha:QE X a ta) (hb:QE X (.BoolOp .And (b :: rest) pos) tb):QE X (.BoolOp .And (a :: b :: rest) pos) (nM ta tb):=by
 refine⟨?_⟩;intro B σ F H env Q rp h;refine b8 (HJ bH bH) ?_;refine aA (ha B σ F H env _ rp h) fun v H1 hq0=>?_;obtain⟨F1,d,r1,s1,d1,k,hk,q1⟩:=hq0;subst hk;refine⟨k,jo d1,?_⟩
 cases k with
 | true=>exact aA (hb B σ F1 H1 env Q r1 q1) fun v H2 z=>z.weaken s1
 | false=>exact⟨F1,_,r1,s1,gQ,q1⟩
theorem BG (ha:QE X a ta):QE X (.UnaryOp .Not a pos) (nP ta):=by
 refine⟨?_⟩;intro B σ F H env Q rp h;refine b8 (HB bH) ?_;refine aA (ha B σ F H env _ rp h) fun v H1 hq0=>?_;obtain⟨F1,d,r1,s1,d1,k,hk,q1⟩:=hq0;subst hk;exact⟨k,jo d1,F1,_,r1,s1,gQ,q1⟩
def FE (t:TB) (ta tb:TD):TD:=fun env Q=>t env fun k=>if k=true then ta env Q else tb env Q
theorem FZ (hc:QT X c tA) (ha:QE X a ta) (hb:QE X b tb):QE X (.IfExp c a b pos) (FE tA ta tb):=by
 refine⟨?_⟩;intro B σ F H env Q rp h;refine b8 (wJ qW bH bH) ?_;refine gC (hc B σ F H env _ rp h) fun k H1 ⟨F1,r1,s1,q1⟩=>?_
 cases k with
 | true=>exact aA (ha B σ F1 H1 env Q r1 q1) fun v H2 z=>z.weaken s1
 | false=>exact aA (hb B σ F1 H1 env Q r1 q1) fun v H2 z=>z.weaken s1
def av:ft:=fun _ Q=>Q []
def ae (ta:TD) (tr:ft):ft:=fun env Q=>ta env fun x=>tr env fun xs=>Q (x :: xs)
theorem ag:QA X [] av:=⟨fun B σ F H env Q rp h=>Gz ig ⟨F,[],rp,ao.refl _,aO,h⟩⟩
theorem ab (ha:QE X e ta) (hr:QA X es ts) (hs:starEach (e :: es) X.env=(false,eval e X.env) :: starEach es X.env:=by exact bq rfl):QA X (e :: es) (ae ta ts):=by
 refine⟨?_⟩;intro B σ F H env Q rp h;refine Gz (fT bH iO hs) ?_;refine aA (ha B σ F H env _ rp h) fun x H1 hq0=>?_;obtain⟨F1,d,r1,s1,d1,q1⟩:=hq0;exact cw (hr B σ F1 H1 env _ r1 q1) fun xs H2 ⟨F2,ds,r2,s2,d2,q2⟩=>⟨F2,d :: ds,r2,s1.trans s2,aM (Den.mono s2 _ _ d1) d2,q2⟩
def bQ (t:ft):TD:=fun env Q=>t env fun xs=>xs.length≤sizeLine∧Q (.tup xs)
def jZ (t:ft):TD:=fun env Q=>t env fun xs=>xs.length≤sizeLine∧Q (.lst xs)
theorem RV.Ht {B:Base} {σ:St} {env:En} {F H:Hp} {Q:D→Prop} {ds:List D} {vs:List V} (r:Rep X.K B F H σ env) (hd:aj X.K F ds vs) (q:Q (.tup ds)):∀p,H p=none→RV X B σ env F Q (.ref p) (upd H p (.tup vs)):=fun p hp=>by
 obtain⟨r2,s2⟩:=r.laid (o:=.tup vs) hp;exact⟨_,_,r2,s2,gx (jv.of au) (aj.mono s2 _ _ hd),q⟩
theorem RV.DB {B:Base} {σ:St} {env:En} {F H:Hp} {Q:D→Prop} {ds:List D} {vs:List V} (r:Rep X.K B F H σ env) (hd:aj X.K F ds vs) (q:Q (.lst ds)):∀p,H p=none→RV X B σ env F Q (.ref p) (upd H p (.lst vs)):=fun p hp=>by
 obtain⟨r2,s2⟩:=r.laid (o:=.lst vs) hp;exact⟨_,_,r2,s2,iZ (fU.of au) (aj.mono s2 _ _ hd),q⟩
theorem a9 {x1} (h:QA X es ts):QE X (.Tuple es x1 pos) (bQ ts):=by
 refine⟨?_⟩;intro B σ F H env Q rp hq;refine b8 (GO iO) ?_;refine cw (h B σ F H env _ rp hq) fun vs H1 ⟨F1,ds,r1,s1,d1,z,q1⟩=>⟨by rw [← d1.length];exact z,fun p hp=>(RV.Ht r1 d1 q1 p hp).weaken s1⟩
theorem lV (h:QA X es ts):QE X (.List es pos) (jZ ts):=by
 refine⟨?_⟩;intro B σ F H env Q rp hq;refine b8 (ya iO) ?_;refine cw (h B σ F H env _ rp hq) fun vs H1 ⟨F1,ds,r1,s1,d1,z,q1⟩=>⟨by rw [← d1.length];exact z,fun p hp=>(RV.DB r1 d1 q1 p hp).weaken s1⟩
end
mutual
def aY:D→D→Bool
 | .non,.non=>true
 | .bl a,.bl b=>a == b
 | .bl a,.int b=>(if a then 1 else 0) == b
 | .int a,.bl b=>a == (if b then 1 else 0)
 | .int a,.int b=>a == b
 | .str a,.str b=>a == b
 | .tup a,.tup b=>dY a b
 | .lst a,.lst b=>dY a b
 | _,_=>false
def dY:List D→List D→Bool
 | [],[]=>true
 | a :: as,b :: bs=>aY a b && dY as bs
 | _,_=>false
end
mutual
def dep:D→Nat
 | .tup ds=>cB ds + 1
 | .lst ds=>cB ds + 1
 | .dct _ _=>1000
 | .obj _=>1000
 | .ty _=>1000
 | .exc _=>1000
 | .cls _=>1000
 | _=>0
def cB:List D→Nat
 | []=>0
 | d :: ds=>max (dep d) (cB ds)
end
def xb (ds es:List D) (j:Nat):Bool:=match ds[j]?,es[j]? with
 | some a,some b=>aY a b
 | _,_=>true
theorem rR (n:Nat) (e:Nat→Bool):(List.range (n + 1)).all e=(e 0 && (List.range n).all fun i=>e (i + 1)):=by
 rw [List.range_succ_eq_map,List.all_cons,List.all_map];rfl
theorem vH:∀ds es:List D,((List.range (min ds.length es.length)).all (xb ds es) && (ds.length == es.length))=dY ds es
 | [],[]=>by simp [dY]
 | [],b :: es=>by simp [dY]
 | a :: ds,[]=>by simp [dY]
 | a :: ds,b :: es=>by
  have ih:=vH ds es;rw [MQ,MQ,Nat.succ_min_succ,rR];have e1:xb (a :: ds) (b :: es) 0=aY a b:=by simp [xb]
  have e2:(fun i=>xb (a :: ds) (b :: es) (i + 1))=xb ds es:=by funext i;simp [xb]
  have e3:(ds.length + 1 == es.length + 1)=(ds.length == es.length):=by
   rw [Bool.eq_iff_iff];simp
  rw [e1,e2,e3,Bool.and_assoc,ih,dY]
section
variable {X:Cx} {pins:List (Addr×Obj)} {σ:St} {H F:Hp} {s:Shared}
theorem Inv.wM (I:Inv X pins σ H s) {a:Addr} {xs ys:List V} (h:jv X.K H a xs) (h':fU X.K H a ys):False:=by
 obtain⟨_,_,⟨o,e1,c1,_⟩,_⟩:=I.tuple h;obtain⟨_,_,⟨o2,_,e2,c2,_⟩,_⟩:=I.list h';rw [e1] at e2;cases e2;rw [c1] at c2;injection c2 with z;exact absurd z (by decide)
mutual
theorem qp (I:Inv X pins σ H s) (fh:ao F H):∀(d d':D) (v:V),dep d < 1000→dep d' < 1000→Den X.K F d v→Den X.K F d' v→aY d d'=true
 | .non,d',v,h1,h2,e1,e2=>by
  simp only [Den] at e1;subst e1
  cases d' <;> simp only [Den] at e2 <;> first | rfl | (obtain⟨a,vs,z,_⟩:=e2;cases z;done) | (obtain⟨a,z,_⟩:=e2;cases z;done) | cases e2
 | .bl b,d',v,h1,h2,e1,e2=>by
  simp only [Den] at e1;subst e1
  cases d' <;> simp only [Den] at e2 <;> first | (obtain⟨a,vs,z,_⟩:=e2;cases z;done) | (obtain⟨a,z,_⟩:=e2;cases z;done) | (cases e2;simp [aY];done) | cases e2
 | .int b,d',v,h1,h2,e1,e2=>by
  simp only [Den] at e1;subst e1
  cases d' <;> simp only [Den] at e2 <;> first | (obtain⟨a,vs,z,_⟩:=e2;cases z;done) | (obtain⟨a,z,_⟩:=e2;cases z;done) | (cases e2;simp [aY];done) | cases e2
 | .str b,d',v,h1,h2,e1,e2=>by
  simp only [Den] at e1;subst e1
  cases d' <;> simp only [Den] at e2 <;> first | (obtain⟨a,vs,z,_⟩:=e2;cases z;done) | (obtain⟨a,z,_⟩:=e2;cases z;done) | (cases e2;simp [aY];done) | cases e2
 | .ty b,d',v,h1,h2,e1,e2=>by simp [dep] at h1
 | .exc b,d',v,h1,h2,e1,e2=>by simp [dep] at h1
 | .cls b,d',v,h1,h2,e1,e2=>by simp [dep] at h1
 | .dct _ _,d',v,h1,h2,e1,e2=>by simp [dep] at h1
 | .obj _,d',v,h1,h2,e1,e2=>by simp [dep] at h1
 | .tup ds,d',v,h1,h2,e1,e2=>by
  simp only [Den] at e1;obtain⟨a,vs,rfl,q,r⟩:=e1
  cases d' with
  | tup es =>
   simp only [Den] at e2;obtain⟨a',us,z,q',r'⟩:=e2;cases z;have:=I.nV (ao.cT fh q) (ao.cT fh q');subst this;simp only [aY]
   exact rK I fh ds es vs (by simp [dep] at h1;omega) (by simp [dep] at h2;omega) r r'
  | lst es =>
   simp only [Den] at e2;obtain⟨a',us,z,q',r'⟩:=e2;cases z
   exact (Inv.wM I (ao.cT fh q) (fh.seq q')).elim
  | dct _ _=>simp [dep] at h2
  | obj _=>simp [dep] at h2
  | exc _=>simp [dep] at h2
  | cls _=>simp [dep] at h2
  | _=>simp only [Den] at e2;cases e2
 | .lst ds,d',v,h1,h2,e1,e2=>by
  simp only [Den] at e1;obtain⟨a,vs,rfl,q,r⟩:=e1
  cases d' with
  | lst es =>
   simp only [Den] at e2;obtain⟨a',us,z,q',r'⟩:=e2;cases z;have:=I.r8 (fh.seq q) (fh.seq q');subst this;simp only [aY]
   exact rK I fh ds es vs (by simp [dep] at h1;omega) (by simp [dep] at h2;omega) r r'
  | tup es =>
   simp only [Den] at e2;obtain⟨a',us,z,q',r'⟩:=e2;cases z
   exact (Inv.wM I (ao.cT fh q') (fh.seq q)).elim
  | dct _ _=>simp [dep] at h2
  | obj _=>simp [dep] at h2
  | exc _=>simp [dep] at h2
  | cls _=>simp [dep] at h2
  | _=>simp only [Den] at e2;cases e2
theorem rK (I:Inv X pins σ H s) (fh:ao F H):∀(ds es:List D) (vs:List V),cB ds < 1000→cB es < 1000→aj X.K F ds vs→aj X.K F es vs→dY ds es=true
 | [],es,vs,h1,h2,e1,e2=>by
  simp only [aj] at e1;subst e1
  cases es with
  | nil=>rfl
  | cons _ _=>simp only [aj] at e2;obtain⟨_,_,z,_⟩:=e2;cases z
 | d :: ds,es,vs,h1,h2,e1,e2=>by
  simp only [aj] at e1;obtain⟨v,r,rfl,a,b⟩:=e1
  cases es with
  | nil=>simp only [aj] at e2;cases e2
  | cons e es =>
   simp only [aj] at e2;obtain⟨v',r',z,a',b'⟩:=e2;cases z;simp only [cB] at h1 h2;simp only [dY,Bool.and_eq_true];exact⟨qp I fh d e v (by omega) (by omega) a a',rK I fh ds es r (by omega) (by omega) b b'⟩
end
theorem units_in1 (A:Around):A.in1.units=A.units + 1:=rfl
def JO:D→Bool
 | .non=>true
 | .bl _=>true
 | .int _=>true
 | .str _=>true
 | _=>false
theorem uS (I:Inv X pins σ H s) (fh:ao F H):∀(d d':D) (A:Around) (x y:V) (u v:Value),JO d=true→A.units + dep d < cLine→dep d' < 1000→Den X.K F d x→Den X.K F d' y→RelV x u→RelV y v →
  SeqAt.RcAt A s u v (aY d d')∧SeqAt.RcNeAt A s u v (!aY d d')
 | .non,d',A,x,y,u,v,lf,hu,h2,e1,e2,r1,r2=>by
  simp only [Den] at e1;subst e1;cases r1;have hu0:A.units < cLine:=by omega
  cases d' with
  | ty _=>simp [dep] at h2
  | dct _ _=>simp [dep] at h2
  | obj _=>simp [dep] at h2
  | exc _=>simp [dep] at h2
  | cls _=>simp [dep] at h2
  | non=>simp only [Den] at e2;subst e2;cases r2;exact⟨SeqAt.RcAt.none_none,SeqAt.RcNeAt.none_none⟩
  | bl b=>simp only [Den] at e2;subst e2;cases r2;exact⟨SeqAt.RcAt.none_bool b,SeqAt.RcNeAt.none_bool b⟩
  | int b=>simp only [Den] at e2;subst e2;obtain⟨t,rfl⟩:=r2;exact⟨SeqAt.RcAt.none_int b t,SeqAt.RcNeAt.none_int b t⟩
  | str b=>simp only [Den] at e2;subst e2;obtain⟨t,rfl⟩:=r2;exact⟨SeqAt.RcAt.none_str b t,SeqAt.RcNeAt.none_str b t⟩
  | tup es =>
   simp only [Den] at e2;obtain⟨a,vs,rfl,q,r⟩:=e2;cases r2;obtain⟨its,rv,ht,hz⟩:=I.tuple (ao.cT fh q)
   exact⟨SeqAt.RcAt.none_tuple ht hu0,SeqAt.RcNeAt.none_tuple ht hu0⟩
  | lst es =>
   simp only [Den] at e2;obtain⟨a,vs,rfl,q,r⟩:=e2;cases r2;obtain⟨its,rv,ht,hz⟩:=I.list (fh.seq q)
   exact⟨SeqAt.RcAt.none_list ht.isList hu0,SeqAt.RcNeAt.none_list ht.isList hu0⟩
 | .bl b',d',A,x,y,u,v,lf,hu,h2,e1,e2,r1,r2=>by
  simp only [Den] at e1;subst e1;cases r1;have hu0:A.units < cLine:=by omega
  cases d' with
  | ty _=>simp [dep] at h2
  | dct _ _=>simp [dep] at h2
  | obj _=>simp [dep] at h2
  | exc _=>simp [dep] at h2
  | cls _=>simp [dep] at h2
  | non=>simp only [Den] at e2;subst e2;cases r2;exact⟨SeqAt.RcAt.bool_none b',SeqAt.RcNeAt.bool_none b'⟩
  | bl b=>simp only [Den] at e2;subst e2;cases r2;exact⟨by simpa only [aY] using SeqAt.RcAt.bool_bool b' b,by simpa only [aY] using SeqAt.RcNeAt.bool_bool b' b⟩
  | int b=>simp only [Den] at e2;subst e2;obtain⟨t,rfl⟩:=r2;exact⟨by simpa only [aY] using SeqAt.RcAt.bool_int b' b t,by simpa only [aY] using SeqAt.RcNeAt.bool_int b' b t⟩
  | str b=>simp only [Den] at e2;subst e2;obtain⟨t,rfl⟩:=r2;exact⟨SeqAt.RcAt.bool_str b' b t,SeqAt.RcNeAt.bool_str b' b t⟩
  | tup es =>
   simp only [Den] at e2;obtain⟨a,vs,rfl,q,r⟩:=e2;cases r2;obtain⟨its,rv,ht,hz⟩:=I.tuple (ao.cT fh q)
   exact⟨SeqAt.RcAt.bool_tuple b' ht hu0,SeqAt.RcNeAt.bool_tuple b' ht hu0⟩
  | lst es =>
   simp only [Den] at e2;obtain⟨a,vs,rfl,q,r⟩:=e2;cases r2;obtain⟨its,rv,ht,hz⟩:=I.list (fh.seq q)
   exact⟨SeqAt.RcAt.bool_list b' ht.isList hu0,SeqAt.RcNeAt.bool_list b' ht.isList hu0⟩
 | .int b',d',A,x,y,u,v,lf,hu,h2,e1,e2,r1,r2=>by
  simp only [Den] at e1;subst e1;obtain⟨t',rfl⟩:=r1;have hu0:A.units < cLine:=by omega
  cases d' with
  | ty _=>simp [dep] at h2
  | dct _ _=>simp [dep] at h2
  | obj _=>simp [dep] at h2
  | exc _=>simp [dep] at h2
  | cls _=>simp [dep] at h2
  | non=>simp only [Den] at e2;subst e2;cases r2;exact⟨SeqAt.RcAt.int_none b' t',SeqAt.RcNeAt.int_none b' t'⟩
  | bl b=>simp only [Den] at e2;subst e2;cases r2;exact⟨by simpa only [aY] using SeqAt.RcAt.int_bool b' t' b,by simpa only [aY] using SeqAt.RcNeAt.int_bool b' t' b⟩
  | int b=>simp only [Den] at e2;subst e2;obtain⟨t,rfl⟩:=r2;exact⟨by simpa only [aY] using SeqAt.RcAt.int_int b' t' b t,by simpa only [aY] using SeqAt.RcNeAt.int_int b' t' b t⟩
  | str b=>simp only [Den] at e2;subst e2;obtain⟨t,rfl⟩:=r2;exact⟨SeqAt.RcAt.int_str b' t' b t,SeqAt.RcNeAt.int_str b' t' b t⟩
  | tup es =>
   simp only [Den] at e2;obtain⟨a,vs,rfl,q,r⟩:=e2;cases r2;obtain⟨its,rv,ht,hz⟩:=I.tuple (ao.cT fh q)
   exact⟨SeqAt.RcAt.int_tuple b' t' ht hu0,SeqAt.RcNeAt.int_tuple b' t' ht hu0⟩
  | lst es =>
   simp only [Den] at e2;obtain⟨a,vs,rfl,q,r⟩:=e2;cases r2;obtain⟨its,rv,ht,hz⟩:=I.list (fh.seq q)
   exact⟨SeqAt.RcAt.int_list b' t' ht.isList hu0,SeqAt.RcNeAt.int_list b' t' ht.isList hu0⟩
 | .str b',d',A,x,y,u,v,lf,hu,h2,e1,e2,r1,r2=>by
  simp only [Den] at e1;subst e1;obtain⟨t',rfl⟩:=r1;have hu0:A.units < cLine:=by omega
  cases d' with
  | ty _=>simp [dep] at h2
  | dct _ _=>simp [dep] at h2
  | obj _=>simp [dep] at h2
  | exc _=>simp [dep] at h2
  | cls _=>simp [dep] at h2
  | non=>simp only [Den] at e2;subst e2;cases r2;exact⟨SeqAt.RcAt.str_none b' t',SeqAt.RcNeAt.str_none b' t'⟩
  | bl b=>simp only [Den] at e2;subst e2;cases r2;exact⟨SeqAt.RcAt.str_bool b' t' b,SeqAt.RcNeAt.str_bool b' t' b⟩
  | int b=>simp only [Den] at e2;subst e2;obtain⟨t,rfl⟩:=r2;exact⟨SeqAt.RcAt.str_int b' t' b t,SeqAt.RcNeAt.str_int b' t' b t⟩
  | str b=>simp only [Den] at e2;subst e2;obtain⟨t,rfl⟩:=r2;exact⟨by simpa only [aY] using SeqAt.RcAt.str_str b' t' b t,by simpa only [aY] using SeqAt.RcNeAt.str_str b' t' b t⟩
  | tup es =>
   simp only [Den] at e2;obtain⟨a,vs,rfl,q,r⟩:=e2;cases r2;obtain⟨its,rv,ht,hz⟩:=I.tuple (ao.cT fh q)
   exact⟨SeqAt.RcAt.str_tuple b' t' ht hu0,SeqAt.RcNeAt.str_tuple b' t' ht hu0⟩
  | lst es =>
   simp only [Den] at e2;obtain⟨a,vs,rfl,q,r⟩:=e2;cases r2;obtain⟨its,rv,ht,hz⟩:=I.list (fh.seq q)
   exact⟨SeqAt.RcAt.str_list b' t' ht.isList hu0,SeqAt.RcNeAt.str_list b' t' ht.isList hu0⟩
 | .ty _,d',A,x,y,u,v,lf,hu,h2,e1,e2,r1,r2=>(by cases lf)
 | .exc _,d',A,x,y,u,v,lf,hu,h2,e1,e2,r1,r2=>(by cases lf)
 | .cls _,d',A,x,y,u,v,lf,hu,h2,e1,e2,r1,r2=>(by cases lf)
 | .dct _ _,d',A,x,y,u,v,lf,hu,h2,e1,e2,r1,r2=>(by cases lf)
 | .obj _,d',A,x,y,u,v,lf,hu,h2,e1,e2,r1,r2=>(by cases lf)
 | .tup _,d',A,x,y,u,v,lf,hu,h2,e1,e2,r1,r2=>(by cases lf)
 | .lst _,d',A,x,y,u,v,lf,hu,h2,e1,e2,r1,r2=>(by cases lf)
theorem zu (I:Inv X pins σ H s) (fh:ao F H) (d d':D) (A:Around) (x y:V) (u v:Value) (hu:A.units + dep d < cLine) (h1:dep d < 1000) (h2:dep d' < 1000) (e1:Den X.K F d x) (e2:Den X.K F d' y) (r1:RelV x u) (r2:RelV y v) (k:SeqAt.RcAt A s u v (aY d d')) :
  SeqAt.EqAt A s u v (aY d d'):=by
 have hu0:A.units < cLine:=by omega
 by_cases z:u=v
 ·subst z;have:x=y:=r1.inj r2;subst this;rw [qp I fh d d' x h1 h2 e1 e2];exact SeqAt.EqAt.same u
 ·intro prog w E Q hq;unfold eqBool;refine wpAny_holding ?_;refine wpAny_ite_split (fun hab=>absurd (eq_of_beq hab) z) (fun _=>?_)
  have nf:∀b t,u≠.float b t:=fun b t w=>by
   subst w;cases x <;> first | (obtain⟨_,q⟩:=r1;cases q;done) | (cases r1;done) | skip
   cases d <;> simp only [Den] at e1 <;> first | (cases e1;done) | (obtain⟨_,_,z,_⟩:=e1;cases z;done) | (obtain⟨_,z,_⟩:=e1;cases z;done)
  cases u <;> cases v <;> first | exact absurd rfl (nf _ _) | exact Mj (k prog w E _ (wpAny_truthy_bool hq))
theorem FN (I:Inv X pins σ H s) (fh:ao F H) (ds0:List D) (d d':D) (A:Around) (x y:V) (u v:Value) (hl:d=.tup ds0∨d=.lst ds0) (hu:A.units + dep d < cLine) (h1:dep d < 1000) (h2:dep d' < 1000) (e1:Den X.K F d x) (e2:Den X.K F d' y) (r1:RelV x u) (r2:RelV y v)
  (rec:∀(es:List D),(d'=.tup es∨d'=.lst es)→∀(vs1 vs:List V) (its1 its:List Value),aj X.K F ds0 vs1→aj X.K F es vs→Vals vs1 its1→Vals vs its→∀(j:Nat) (h1:j < its1.length) (h2:j < its.length),SeqAt.EqAt A.in1 s its1[j] its[j] (xb ds0 es j)) :
  SeqAt.RcAt A s u v (aY d d')∧SeqAt.RcNeAt A s u v (!aY d d'):=by
 cases d with
 | non=>rcases hl with hl | hl <;> cases hl
 | bl _=>rcases hl with hl | hl <;> cases hl
 | int _=>rcases hl with hl | hl <;> cases hl
 | str _=>rcases hl with hl | hl <;> cases hl
 | ty _=>simp [dep] at h1
 | exc _=>simp [dep] at h1
 | cls _=>simp [dep] at h1
 | dct _ _=>simp [dep] at h1
 | obj _=>simp [dep] at h1
 | tup ds =>
  have z:ds=ds0:=by rcases hl with hl | hl <;> cases hl <;> rfl
  subst z;simp only [Den] at e1;obtain⟨a1,vs1,rfl,q1,g1⟩:=e1;cases r1;obtain⟨its1,rv1,ht1,hz1⟩:=I.tuple (ao.cT fh q1);simp only [dep] at hu h1;have hu0:A.units < cLine:=by omega
  cases d' with
  | ty _=>simp [dep] at h2
  | dct _ _=>simp [dep] at h2
  | obj _=>simp [dep] at h2
  | exc _=>simp [dep] at h2
  | cls _=>simp [dep] at h2
  | non=>simp only [Den] at e2;subst e2;cases r2;exact⟨SeqAt.RcAt.tuple_none ht1 hu0,SeqAt.RcNeAt.tuple_none ht1 hu0⟩
  | bl b=>simp only [Den] at e2;subst e2;cases r2;exact⟨SeqAt.RcAt.tuple_bool b ht1 hu0,SeqAt.RcNeAt.tuple_bool b ht1 hu0⟩
  | int b=>simp only [Den] at e2;subst e2;obtain⟨t,rfl⟩:=r2;exact⟨SeqAt.RcAt.tuple_int b t ht1 hu0,SeqAt.RcNeAt.tuple_int b t ht1 hu0⟩
  | str b=>simp only [Den] at e2;subst e2;obtain⟨t,rfl⟩:=r2;exact⟨SeqAt.RcAt.tuple_str b t ht1 hu0,SeqAt.RcNeAt.tuple_str b t ht1 hu0⟩
  | lst es =>
   simp only [Den] at e2;obtain⟨a,vs,rfl,q,r⟩:=e2;cases r2;obtain⟨its,rv,ht,hz⟩:=I.list (fh.seq q)
   exact⟨SeqAt.RcAt.tuple_list ht1 ht.isList hu0,SeqAt.RcNeAt.tuple_list ht1 ht.isList hu0⟩
  | tup es =>
   simp only [Den] at e2;obtain⟨a,vs,rfl,q,r⟩:=e2;cases r2;obtain⟨its,rv,ht,hz⟩:=I.tuple (ao.cT fh q);simp only [dep] at h2;have he:=rec es (.inl rfl) vs1 vs its1 its g1 r rv1 rv;have l1:its1.length=ds.length:=by rw [g1.length,rv1.length]
   have l2:its.length=es.length:=by rw [r.length,rv.length]
   have k1:=SeqAt.RcAt.tuples (e:=xb ds es) ht1 ht hu0 (fun j h1 h2=>he j (by simpa using h1) (by simpa using h2));have k2:=SeqAt.RcNeAt.tuples (e:=xb ds es) ht1 ht hu0 (fun j h1 h2=>he j (by simpa using h1) (by simpa using h2));rw [MH,MH,l1,l2,vH] at k1 k2
   exact⟨by simpa only [aY] using k1,by simpa only [aY] using k2⟩
 | lst ds =>
  have z:ds=ds0:=by rcases hl with hl | hl <;> cases hl <;> rfl
  subst z;simp only [Den] at e1;obtain⟨a1,vs1,rfl,q1,g1⟩:=e1;cases r1;obtain⟨its1,rv1,ht1,hz1⟩:=I.list (fh.seq q1);simp only [dep] at hu h1;have hu0:A.units < cLine:=by omega
  cases d' with
  | ty _=>simp [dep] at h2
  | dct _ _=>simp [dep] at h2
  | obj _=>simp [dep] at h2
  | exc _=>simp [dep] at h2
  | cls _=>simp [dep] at h2
  | non=>simp only [Den] at e2;subst e2;cases r2;exact⟨SeqAt.RcAt.list_none ht1.isList hu0,SeqAt.RcNeAt.list_none ht1.isList hu0⟩
  | bl b=>simp only [Den] at e2;subst e2;cases r2;exact⟨SeqAt.RcAt.list_bool b ht1.isList hu0,SeqAt.RcNeAt.list_bool b ht1.isList hu0⟩
  | int b=>simp only [Den] at e2;subst e2;obtain⟨t,rfl⟩:=r2;exact⟨SeqAt.RcAt.list_int b t ht1.isList hu0,SeqAt.RcNeAt.list_int b t ht1.isList hu0⟩
  | str b=>simp only [Den] at e2;subst e2;obtain⟨t,rfl⟩:=r2;exact⟨SeqAt.RcAt.list_str b t ht1.isList hu0,SeqAt.RcNeAt.list_str b t ht1.isList hu0⟩
  | tup es =>
   simp only [Den] at e2;obtain⟨a,vs,rfl,q,r⟩:=e2;cases r2;obtain⟨its,rv,ht,hz⟩:=I.tuple (ao.cT fh q)
   exact⟨SeqAt.RcAt.list_tuple ht1.isList ht hu0,SeqAt.RcNeAt.list_tuple ht1.isList ht hu0⟩
  | lst es =>
   simp only [Den] at e2;obtain⟨a,vs,rfl,q,r⟩:=e2;cases r2;obtain⟨its,rv,ht,hz⟩:=I.list (fh.seq q);simp only [dep] at h2;have he:=rec es (.inr rfl) vs1 vs its1 its g1 r rv1 rv;have l1:its1.length=ds.length:=by rw [g1.length,rv1.length]
   have l2:its.length=es.length:=by rw [r.length,rv.length]
   simp only [aY];rw [← vH]
   by_cases hsz:ds.length=es.length
   ·have k1:=SeqAt.RcAt.lists (e:=xb ds es) ht1.isList ht.isList (by simp [l1,l2,hsz]) hu0 (fun j h1 h2=>he j (by simpa using h1) (by simpa using h2));have k2:=SeqAt.RcNeAt.lists (e:=xb ds es) ht1.isList ht.isList (by simp [l1,l2,hsz]) hu0 (fun j h1 h2=>he j (by simpa using h1) (by simpa using h2));rw [MH,l1] at k1 k2;have e:(ds.length == es.length)=true:=by simp [hsz]
    rw [e,Bool.and_true,← hsz,Nat.min_self];exact⟨k1,k2⟩
   ·have e:(ds.length == es.length)=false:=by simp [hsz]
    rw [e,Bool.and_false];have e2:(its1.toArray.size != its.toArray.size)=true:=by simp [l1,l2,hsz]
    exact⟨SeqAt.RcAt.lists_lengths ht1.isList ht.isList e2 hu0,SeqAt.RcNeAt.lists_lengths ht1.isList ht.isList e2 hu0⟩
mutual
theorem EH (I:Inv X pins σ H s) (fh:ao F H):∀(d d':D) (A:Around) (x y:V) (u v:Value),A.units + dep d < cLine→dep d < 1000→dep d' < 1000→Den X.K F d x→Den X.K F d' y→RelV x u→RelV y v →
  SeqAt.RcAt A s u v (aY d d')∧SeqAt.RcNeAt A s u v (!aY d d')
 | .ty _,d',A,x,y,u,v,hu,h1,h2,e1,e2,r1,r2=>by simp [dep] at h1
 | .exc _,d',A,x,y,u,v,hu,h1,h2,e1,e2,r1,r2=>by simp [dep] at h1
 | .cls _,d',A,x,y,u,v,hu,h1,h2,e1,e2,r1,r2=>by simp [dep] at h1
 | .dct _ _,d',A,x,y,u,v,hu,h1,h2,e1,e2,r1,r2=>by simp [dep] at h1
 | .obj _,d',A,x,y,u,v,hu,h1,h2,e1,e2,r1,r2=>by simp [dep] at h1
 | .non,d',A,x,y,u,v,hu,h1,h2,e1,e2,r1,r2=>uS I fh _ d' A x y u v rfl hu h2 e1 e2 r1 r2
 | .bl _,d',A,x,y,u,v,hu,h1,h2,e1,e2,r1,r2=>uS I fh _ d' A x y u v rfl hu h2 e1 e2 r1 r2
 | .int _,d',A,x,y,u,v,hu,h1,h2,e1,e2,r1,r2=>uS I fh _ d' A x y u v rfl hu h2 e1 e2 r1 r2
 | .str _,d',A,x,y,u,v,hu,h1,h2,e1,e2,r1,r2=>uS I fh _ d' A x y u v rfl hu h2 e1 e2 r1 r2
 | .tup ds,d',A,x,y,u,v,hu,h1,h2,e1,e2,r1,r2=>FN I fh ds _ d' A x y u v (.inl rfl) hu h1 h2 e1 e2 r1 r2 fun es z2 vs1 vs its1 its g1 r rv1 rv =>
  DN I fh ds es A.in1 vs1 vs its1 its (by rw [units_in1];simp only [dep] at hu;omega) (by simp only [dep] at h1;omega) (by rcases z2 with rfl | rfl <;> (simp only [dep] at h2;omega)) g1 r rv1 rv
 | .lst ds,d',A,x,y,u,v,hu,h1,h2,e1,e2,r1,r2=>FN I fh ds _ d' A x y u v (.inr rfl) hu h1 h2 e1 e2 r1 r2 fun es z2 vs1 vs its1 its g1 r rv1 rv =>
  DN I fh ds es A.in1 vs1 vs its1 its (by rw [units_in1];simp only [dep] at hu;omega) (by simp only [dep] at h1;omega) (by rcases z2 with rfl | rfl <;> (simp only [dep] at h2;omega)) g1 r rv1 rv
theorem DN (I:Inv X pins σ H s) (fh:ao F H):∀(ds es:List D) (A:Around) (xs ys:List V) (us vs:List Value),A.units + cB ds < cLine→cB ds < 1000→cB es < 1000→aj X.K F ds xs→aj X.K F es ys→Vals xs us→Vals ys vs →
  ∀(j:Nat) (h1:j < us.length) (h2:j < vs.length),SeqAt.EqAt A s us[j] vs[j] (xb ds es j)
 | [],es,A,xs,ys,us,vs,hu,h1,h2,e1,e2,r1,r2,j,hj1,hj2=>by
  simp only [aj] at e1;subst e1;cases r1;simp at hj1
 | d :: ds,es,A,xs,ys,us,vs,hu,h1,h2,e1,e2,r1,r2,j,hj1,hj2=>by
  simp only [aj] at e1;obtain⟨x,xr,rfl,ax,bx⟩:=e1
  cases r1 with
  | cons rx rrx =>
  cases es with
  | nil=>simp only [aj] at e2;subst e2;cases r2;simp at hj2
  | cons e es =>
   simp only [aj] at e2;obtain⟨y,yr,rfl,ay,by'⟩:=e2
   cases r2 with
   | cons ry rry =>
   simp only [cB] at hu h1 h2
   cases j with
   | zero =>
    simp only [List.getElem_cons_zero];have e0:xb (d :: ds) (e :: es) 0=aY d e:=by simp [xb]
    rw [e0]
    exact zu I fh d e A x y _ _ (by omega) (by omega) (by omega) ax ay rx ry (EH I fh d e A x y _ _ (by omega) (by omega) (by omega) ax ay rx ry).1
   | succ j =>
    simp only [List.getElem_cons_succ];have e0:xb (d :: ds) (e :: es) (j + 1)=xb ds es j:=by simp [xb]
    rw [e0];exact DN I fh ds es A xr yr _ _ (by omega) (by omega) (by omega) bx by' rrx rry j (by simpa using hj1) (by simpa using hj2)
end
theorem sg (I:Inv X pins σ H s) (fh:ao F H) (d d':D) (A:Around) (x y:V) (u v:Value) (hu:A.units + dep d < cLine) (h1:dep d < 1000) (h2:dep d' < 1000) (e1:Den X.K F d x) (e2:Den X.K F d' y) (r1:RelV x u) (r2:RelV y v) :
  SeqAt.EqAt A s u v (aY d d'):=zu I fh d d' A x y u v hu h1 h2 e1 e2 r1 r2 (EH I fh d d' A x y u v hu h1 h2 e1 e2 r1 r2).1
end
end L2.L3
namespace L2.L3
open PySem PySem.Spec PyProof.Rows
section
variable {X:Cx} {a b c e:Expr} {es:List Expr} {ta tb tc:TD} {tA tB':TB} {ts:ft} {pos:Pos} {rest:List Expr}
def Gw (K:Mn):R2:=fun x y H Q=>∃l b xs zs,x=.ref l∧y=.ref b∧fU K H l xs∧fU K H b zs∧xs.length + zs.length≤sizeLine∧∀p,H p=none→Q (.ref p) (upd H p (.lst (xs ++ zs)))
theorem EO:kY X (binaryOp .Add) (Gw X.K):=by
 intro pins s σ H x y v u Q I rx ry h;obtain⟨l,b,xs,zs,rfl,rfl,hH,hB,hz,q⟩:=h;cases rx;cases ry;obtain⟨its,r,⟨⟨cls,dd,data,sl⟩,n,ho,hc,hdd,hd⟩,z⟩:=I.list hH;obtain⟨its2,r2,⟨⟨cls2,dd2,data2,sl2⟩,n2,ho2,hc2,hdd2,hd2⟩,z2⟩:=I.list hB;simp only at hc hdd hd hc2 hdd2 hd2;subst hc hdd hd hc2 hdd2 hd2;have ea:its.toArray ++ its2.toArray=(its ++ its2).toArray:=by simp
 refine concat_meets ⟨_,ho,rfl⟩ ⟨_,ho2,rfl⟩ noFill_list_add seq_list_add PySem.F.slot_list_add PySem.F.entry_list_add (PySem.F.args_list_add_2 _ _)
  (list_addW l b its.toArray its2.toArray n n2 none none sl sl2 (by rw [MH,MH,← r.length,← r2.length];exact hz)) ⟨ho,ho2,?_⟩
 rw [ea];exact⟨.ref _,_,I.LQ (t':=s.toks) (r.append r2) (by rw [MW];omega),rfl,q _ I.fresh⟩
def BN (K:Mn):R2:=fun x y H Q=>∃a b ys,x=.ref a∧y=.ref b∧jv K H a []∧jv K H b ys∧Q (.ref b) H
theorem CM:kY X (binaryOp .Add) (BN X.K):=by
 intro pins s σ H x y v u Q I rx ry h;obtain⟨l,b,zs,rfl,rfl,hH,hB,q⟩:=h;cases rx;cases ry;obtain⟨its,r,⟨⟨cls,dd,data,sl⟩,ho,hc,n,hd⟩,z⟩:=I.tuple hH;obtain⟨its2,r2,⟨⟨cls2,dd2,data2,sl2⟩,ho2,hc2,n2,hd2⟩,z2⟩:=I.tuple hB;cases r;simp only at hc hd hc2 hd2;subst hc hd hc2 hd2
 exact concat_meets ⟨_,ho,rfl⟩ ⟨_,ho2,rfl⟩ noFill_tuple_add seq_tuple_add PySem.F.slot_tuple_add PySem.F.entry_tuple_add (PySem.F.args_tuple_add_2 _ _)
  (tuple_addW0 l b _ _ n n2 dd dd2 sl sl2 (by simp)) ⟨ho,ho2,⟨.ref b,H,I,rfl,q⟩⟩
def fu (x y:D) (Q:D→Prop):Prop:=match x,y with
 | .int i,.int j=>Q (.int (i + j))
 | .str u,.str w=>u.length + w.length≤sizeLine∧Q (.str (u ++ w))
 | .lst u,.lst w=>u.length + w.length≤sizeLine∧Q (.lst (u ++ w))
 | .tup u,.tup w=>u.length + w.length≤sizeLine∧Q (.tup (u ++ w))
 | _,_=>False
def zz (K:Mn):R2:=fun x y H Q=>Eb (fun i j=>.int (i + j)) x y H Q∨(∃i j,x=.str i∧y=.str j∧i.length + j.length≤sizeLine∧Q (.str (i ++ j)) H)∨Gw K x y H Q∨FV K x y H Q∨BN K x y H Q
theorem A6:kY X (binaryOp .Add) (zz X.K):=Ia.or (yJ.or (EO.or (E6.or CM)))
theorem GP:zX X (zz X.K) fu:=by
 intro B σ F H env Q d d' x y Z rp h1 h2 hz hf;unfold fu at hf
 split at hf
 ·simp only [Den] at h1 h2;subst h1 h2;exact .inl ⟨_,_,rfl,rfl,hz _ _ F _ rp (ao.refl _) bE hf⟩
 ·simp only [Den] at h1 h2;subst h1 h2;exact .inr (.inl ⟨_,_,rfl,rfl,hf.1,hz _ _ F _ rp (ao.refl _) mI hf.2⟩)
 ·simp only [Den] at h1 h2;obtain⟨p,vs,rfl,q,r⟩:=h1;obtain⟨p',vs',rfl,q',r'⟩:=h2;refine .inr (.inr (.inl ⟨p,p',vs,vs',rfl,rfl,rp.fh.seq q,rp.fh.seq q',by rw [← r.length,← r'.length];exact hf.1,fun w hw=>?_⟩));obtain⟨r2,s2⟩:=rp.laid (o:=.lst (vs ++ vs')) hw;exact hz _ _ _ _ r2 s2 (iZ (fU.of au) (aj.mono s2 _ _ (r.append r'))) hf.2
 ·simp only [Den] at h1 h2;obtain⟨p,vs,rfl,q,r⟩:=h1;obtain⟨p',vs',rfl,q',r'⟩:=h2
  cases vs with
  | nil =>
   rename_i u w
   cases u with
   | cons _ _=>simp only [aj] at r;obtain⟨_,_,z,_⟩:=r;cases z
   | nil =>
    exact .inr (.inr (.inr (.inr ⟨p,p',vs',rfl,rfl,ao.cT rp.fh q,ao.cT rp.fh q',hz _ _ F _ rp (ao.refl _) (gx q' r') (by simpa using hf.2)⟩)))
  | cons v0 vr =>
   refine .inr (.inr (.inr (.inl ⟨p,p',v0 :: vr,vs',rfl,rfl,ao.cT rp.fh q,ao.cT rp.fh q',by simp,by rw [← r.length,← r'.length];exact hf.1,fun w=>?_,fun w z hw=>?_⟩)))
   ·subst w
    rename_i w
    have e:w=[]:=by
     cases w with
     | nil=>rfl
     | cons _ _=>simp only [aj] at r';obtain⟨_,_,z,_⟩:=r';cases z
    subst e;exact hz _ _ F _ rp (ao.refl _) (gx q r) (by simpa using hf.2)
   ·obtain⟨r2,s2⟩:=rp.laid (o:=.tup (v0 :: vr ++ vs')) hw;exact hz _ _ _ _ r2 s2 (gx (jv.of au) (aj.mono s2 _ _ (r.append r'))) hf.2
 ·exact hf.elim
theorem dW (ha:QE X a ta) (hb:QE X b tb):QE X (.BinOp a .Add b pos) (aG fu ta tb):=A4 A6 GP ha hb
def zd (C:Int→Int→Prop) (g:Int→Int→D) (x y:D) (Q:D→Prop):Prop:=match x,y with
 | .int i,.int j=>C i j∧Q (g i j)
 | _,_=>False
theorem Ap {C:Int→Int→Prop} {g:Int→Int→Int}:zX X (rI C fun i j=>.int (g i j)) (zd C fun i j=>.int (g i j)):=by
 intro B σ F H env Q d d' x y Z rp h1 h2 hz hf;unfold zd at hf
 split at hf
 ·simp only [Den] at h1 h2;subst h1 h2;exact⟨_,_,rfl,rfl,hf.1,hz _ _ F _ rp (ao.refl _) bE hf.2⟩
 ·exact hf.elim
theorem GA {g:Int→Int→Int}:zX X (Eb fun i j=>.int (g i j)) (zd (fun _ _=>True) fun i j=>.int (g i j)):=by
 intro B σ F H env Q d d' x y Z rp h1 h2 hz hf;unfold zd at hf
 split at hf
 ·simp only [Den] at h1 h2;subst h1 h2;exact⟨_,_,rfl,rfl,hz _ _ F _ rp (ao.refl _) bE hf.2⟩
 ·exact hf.elim
theorem y6 {g:Int→Int→Bool}:zX X (Eb fun i j=>.bl (g i j)) (zd (fun _ _=>True) fun i j=>.bl (g i j)):=by
 intro B σ F H env Q d d' x y Z rp h1 h2 hz hf;unfold zd at hf
 split at hf
 ·simp only [Den] at h1 h2;subst h1 h2;exact⟨_,_,rfl,rfl,hz _ _ F _ rp (ao.refl _) gQ hf.2⟩
 ·exact hf.elim
theorem Fz:kY X (binaryOp .Mult) (rI IntMulOk fun i j=>.int (i * j)):=Kw fun _ _ _ _ _ _ _ hc q=>mul_int q hc
def An (_ j:Int):Prop:=j≠0∧j.natAbs.log2 < 9000
theorem CW:kY X (binaryOp .FloorDiv) (rI An fun i j=>.int (i.fdiv j)):=Kw fun _ _ _ _ _ _ _ hc q=>floordiv_int hc.1 q (.inl (PyProof.noPylong_of_log2 hc.2))
def DX (_ j:Int):Prop:=j≠0
abbrev nB:=zd (fun _ _=>True) fun i j=>.int (i - j)
abbrev jG:=zd IntMulOk fun i j=>.int (i * j)
abbrev Gf:=zd An fun i j=>.int (i.fdiv j)
abbrev sW:=zd DX fun i j=>.int (i.fmod j)
abbrev HC:=zd GQ fun i j=>.int (i ^ j.toNat)
abbrev Eg:=zd (fun _ _=>True) fun i j=>.bl (decide (i < j))
abbrev KI:=zd (fun _ _=>True) fun i j=>.bl (decide (j < i))
abbrev L1:=zd (fun _ _=>True) fun i j=>.bl (decide (j≤i))
theorem jP (ha:QE X a ta) (hb:QE X b tb):QE X (.BinOp a .Sub b pos) (aG nB ta tb):=A4 G6 GA ha hb
theorem fW (ha:QE X a ta) (hb:QE X b tb):QE X (.BinOp a .Mult b pos) (aG jG ta tb):=A4 Fz Ap ha hb
theorem IG (ha:QE X a ta) (hb:QE X b tb):QE X (.BinOp a .FloorDiv b pos) (aG Gf ta tb):=A4 CW Ap ha hb
theorem mE (ha:QE X a ta) (hb:QE X b tb):QE X (.BinOp a .Mod b pos) (aG sW ta tb):=A4 (r:=rI DX fun i j=>.int (i.fmod j)) Ey Ap ha hb
theorem Gs (ha:QE X a ta) (hb:QE X b tb):QE X (.BinOp a .Pow b pos) (aG HC ta tb):=A4 HH Ap ha hb
theorem yL (ha:QE X a ta) (hb:QE X b tb):QT X (.Compare a [.Lt] [b] pos) (aL (aG Eg ta tb)):=jO Jq y6 ha hb (kz _)
theorem Hi (ha:QE X a ta) (hb:QE X b tb):QT X (.Compare a [.Gt] [b] pos) (aL (aG KI ta tb)):=jO IP y6 ha hb (kz _)
theorem LP (ha:QE X a ta) (hb:QE X b tb):QT X (.Compare a [.GtE] [b] pos) (aL (aG L1 ta tb)):=jO Jc y6 ha hb (kz _)
def Mf (X:Cx) (r:V→Hp→VK→Prop) (f:D→(D→Prop)→Prop):Prop:=∀(B:Base) (σ:St) (F H:Hp) (env:En) (Q:D→Prop) (d:D) (x:V) (Z:VK),Rep X.K B F H σ env→Den X.K F d x→Kont X B σ env F Q Z→f d Q→r x H Z
def vU (f:D→(D→Prop)→Prop) (ta:TD):TD:=fun env Q=>ta env fun x=>f x Q
theorem Lu {op:UnaryOp} {r:V→Hp→VK→Prop} {f:D→(D→Prop)→Prop} (ho:Ku X (unaryOp op) r) (hf:Mf X r f) (ha:QE X a ta):QE X (.UnaryOp op a pos) (vU f ta):=by
 refine⟨?_⟩;intro B σ F H env Q rp h;refine b8 (Kl ho bH) ?_;refine aA (ha B σ F H env _ rp h) fun x H1 hq0=>?_;obtain⟨F1,d,r1,s1,d1,q1⟩:=hq0;exact hf B σ F1 H1 env Q d x _ r1 d1 (fun v H' F' d' r' s' hd q=>⟨F',d',r',s1.trans s',hd,q⟩) q1
def oZ (x:D) (Q:D→Prop):Prop:=match x with
 | .int i=>Q (.int (-i))
 | _=>False
theorem nq (ha:QE X a ta):QE X (.UnaryOp .USub a pos) (vU oZ ta):=by
 refine Lu G7 ?_ ha;intro B σ F H env Q d x Z rp h1 hz hf;unfold oZ at hf
 split at hf
 ·simp only [Den] at h1;subst h1;exact⟨_,rfl,hz _ _ F _ rp (ao.refl _) bE hf⟩
 ·exact hf.elim
def Fi (X:Cx) (neg:Bool):R2:=fun x y H Q=>∃(F:Hp) (d d':D),ao F H∧Den X.K F d x∧Den X.K F d' y∧X.A.units + dep d < cLine∧dep d < 1000∧dep d' < 1000∧Q (.bl (if neg then !aY d d' else aY d d')) H
theorem Cu:kY X (compareOp .Eq) (Fi X false):=by
 intro pins s σ H x y v u Q I rx ry h;obtain⟨F,d,d',fh,h1,h2,hu,hd,hd',q⟩:=h;exact (EH I fh d d' X.A x y v u hu hd hd' h1 h2 rx ry).1 X.prog X.w X.xe _ ⟨.bl _,H,I,rfl,q⟩
theorem yE:kY X (compareOp .NotEq) (Fi X true):=by
 intro pins s σ H x y v u Q I rx ry h;obtain⟨F,d,d',fh,h1,h2,hu,hd,hd',q⟩:=h;exact (EH I fh d d' X.A x y v u hu hd hd' h1 h2 rx ry).2 X.prog X.w X.xe _ ⟨.bl _,H,I,rfl,q⟩
def jB (x y:D):Prop:=dep x≤60∧dep y≤60
def lh (x y:D) (Q:D→Prop):Prop:=jB x y∧Q (.bl (aY x y))
def vS (x y:D) (Q:D→Prop):Prop:=jB x y∧Q (.bl (!aY x y))
theorem FX (hu:X.A.units + 64 < cLine):zX X (Fi X false) lh:=by
 intro B σ F H env Q d d' x y Z rp h1 h2 hz hf;obtain⟨⟨l1,l2⟩,q⟩:=hf;exact⟨F,d,d',rp.fh,h1,h2,by omega,by omega,by omega,hz _ _ F _ rp (ao.refl _) gQ q⟩
theorem FO (hu:X.A.units + 64 < cLine):zX X (Fi X true) vS:=by
 intro B σ F H env Q d d' x y Z rp h1 h2 hz hf;obtain⟨⟨l1,l2⟩,q⟩:=hf;exact⟨F,d,d',rp.fh,h1,h2,by omega,by omega,by omega,hz _ _ F _ rp (ao.refl _) gQ q⟩
theorem JH (hu:X.A.units + 64 < cLine) (ha:QE X a ta) (hb:QE X b tb):QE X (.Compare a [.Eq] [b] pos) (aG lh ta tb):=Gi Cu (FX hu) ha hb (kz _)
theorem Jj (hu:X.A.units + 64 < cLine) (ha:QE X a ta) (hb:QE X b tb):QE X (.Compare a [.NotEq] [b] pos) (aG vS ta tb):=Gi yE (FO hu) ha hb (kz _)
theorem p0 (hu:X.A.units + 64 < cLine) (ha:QE X a ta) (hb:QE X b tb):QT X (.Compare a [.Eq] [b] pos) (aL (aG lh ta tb)):=jO Cu (FX hu) ha hb (kz _)
theorem B8 (hu:X.A.units + 64 < cLine) (ha:QE X a ta) (hb:QE X b tb):QT X (.Compare a [.NotEq] [b] pos) (aL (aG vS ta tb)):=jO yE (FO hu) ha hb (kz _)
def cX (x y:D) (Q:D→Prop):Prop:=match x,y with
 | .lst xs,.int i=>∃v,lD xs i=some v∧Q v
 | .tup xs,.int i=>∃v,lD xs i=some v∧Q v
 | .str z,.int i=>z.length≤sizeLine∧∃c,lD z.cps.toList i=some c∧Q (.str ⟨#[c]⟩)
 | _,_=>False
theorem aj.lD {K:Mn} {F:Hp} {ds:List D} {vs:List V} {i:Int} {d:D} (r:aj K F ds vs) (h:lD ds i=some d):∃v,L2.lD vs i=some v∧Den K F d v:=by
 unfold L2.lD at h ⊢;rw [← r.length]
 cases e:vT ds.length i with
 | none=>rw [e] at h;cases h
 | some j =>
  rw [e] at h;exact r.get h
theorem Ge:zX X (Lg X.K) cX:=by
 intro B σ F H env Q d d' x y Z rp h1 h2 hz hf;unfold cX at hf
 split at hf
 ·simp only [Den] at h1 h2;subst h2;obtain⟨p,vs,rfl,q,r⟩:=h1;obtain⟨v,hv,qv⟩:=hf;obtain⟨w,hw,dw⟩:=r.lD hv;exact .inl ⟨p,vs,_,w,rfl,rfl,rp.fh.seq q,hw,hz _ _ F _ rp (ao.refl _) dw qv⟩
 ·simp only [Den] at h1 h2;subst h2;obtain⟨p,vs,rfl,q,r⟩:=h1;obtain⟨v,hv,qv⟩:=hf;obtain⟨w,hw,dw⟩:=r.lD hv;exact .inr (.inl ⟨p,vs,_,w,rfl,rfl,ao.cT rp.fh q,hw,hz _ _ F _ rp (ao.refl _) dw qv⟩)
 ·simp only [Den] at h1 h2;subst h1 h2;obtain⟨hl,c,hc,qv⟩:=hf;exact .inr (.inr ⟨_,_,c,rfl,rfl,hl,hc,hz _ _ F _ rp (ao.refl _) mI qv⟩)
 ·exact hf.elim
theorem cD (ha:QE X a ta) (hb:QE X b tb) (hs:mZ b):QE X (.Subscript a b pos) (aG cX ta tb):=⟨fun B σ F H env Q rp h=>b8 (zG BI bH bH hs) (two Ge ha hb rp KJ h)⟩
abbrev KC:=En→(Option Int→Prop)→Prop
def nz (t:TD):KC:=fun env Q=>t env fun x=>∃i,x=.int i∧Q (some i)
def QO (X:Cx) (e:Option Expr) (t:KC):Prop:=∃to:TO,PO X e to∧∀(B:Base) (σ:St) (F H:Hp) (env:En) (Q:Option Int→Prop) (Z:Option Int→Hp→Prop),Rep X.K B F H σ env→(∀o H' F',Rep X.K B F' H' σ env→ao F F'→Q o→Z o H')→t env Q→to σ H Z
theorem zF (h:QE X e ta):QO X (some e) (nz ta):=by
 refine⟨_,Es bH,fun B σ F H env Q Z rp hz hq=>?_⟩;refine aA (h B σ F H env _ rp hq) fun x H1 hq0=>?_;obtain⟨F1,d,r1,s1,d1,i,hi,q1⟩:=hq0;subst hi;simp only [Den] at d1;exact⟨i,d1,hz _ _ F1 r1 s1 q1⟩
def cutD (xs:List D) (lo hi:Option Int):List D:=(xs.drop (HT.fy xs.length 0 lo)).take (HT.fy xs.length xs.length hi - HT.fy xs.length 0 lo)
def K1 (x:D) (lo hi:Option Int) (Q:D→Prop):Prop:=match x with
 | .lst xs=>Q (.lst (cutD xs lo hi))
 | .tup xs=>¬ (HT.fy xs.length 0 lo=0∧HT.fy xs.length xs.length hi=xs.length)∧Q (.tup (cutD xs lo hi))
 | _=>False
def Gg (ta:TD) (tl th:KC):TD:=fun env Q=>ta env fun x=>tl env fun lo=>th env fun hi=>K1 x lo hi Q
theorem Lh {lo hi:Option Expr} {tl th:KC} {p2:Pos} (ha:QE X a ta) (hl:QO X lo tl) (hh:QO X hi th):QE X (.Subscript a (.Slice lo hi none p2) pos) (Gg ta tl th):=by
 refine⟨?_⟩;intro B σ F H env Q rp h;obtain⟨tl',pl,ql⟩:=hl;obtain⟨th',ph,qh⟩:=hh;refine b8 (BH (Gy.or Ei IF) bH pl ph) ?_;refine aA (ha B σ F H env _ rp h) fun x H1 hq0=>?_;obtain⟨F1,d,r1,s1,d1,q1⟩:=hq0;refine ql B σ F1 H1 env _ _ r1 (fun lo' H2 F2 r2 s2 q2=>?_) q1;refine qh B σ F2 H2 env _ _ r2 (fun hi' H3 F3 r3 s3 q3=>?_) q2;have d3:=Den.mono (s2.trans s3) _ _ d1;unfold K1 at q3
 split at q3
 ·simp only [Den] at d3;obtain⟨p,vs,rfl,q,r⟩:=d3;refine .inl ⟨p,vs,rfl,r3.fh.seq q,fun w hw=>?_⟩;obtain⟨r4,s4⟩:=r3.laid (o:=.lst (sM vs lo' hi')) hw;refine⟨_,_,r4,((s1.trans s2).trans s3).trans s4,iZ (fU.of au) ?_,q3⟩;unfold sM cutD;rw [r.length];exact aj.mono s4 _ _ ((r.drop _).take _)
 ·simp only [Den] at d3;obtain⟨p,vs,rfl,q,r⟩:=d3;refine .inr ⟨p,vs,rfl,ao.cT r3.fh q,by rw [← r.length];exact q3.1,fun w hw=>?_⟩;obtain⟨r4,s4⟩:=r3.laid (o:=.tup (sM vs lo' hi')) hw;refine⟨_,_,r4,((s1.trans s2).trans s3).trans s4,gx (jv.of au) ?_,q3.2⟩;unfold sM cutD;rw [r.length];exact aj.mono s4 _ _ ((r.drop _).take _)
 ·exact q3.elim
def Call3 (X:Cx) (r:List V→Hp→VK→Prop) (f:List D→(D→Prop)→Prop):Prop:=∀(B:Base) (σ:St) (F H:Hp) (env:En) (Q:D→Prop) (ds:List D) (vs:List V) (Z:VK),Rep X.K B F H σ env→aj X.K F ds vs→Kont X B σ env F Q Z→f ds Q→r vs H Z
def az (f:List D→(D→Prop)→Prop) (ts:ft):TD:=fun env Q=>ts env fun xs=>f xs Q
theorem Gu {r:List V→Hp→VK→Prop} {f:List D→(D→Prop)→Prop} (hf:Call3 X r f) (ha:QA X es ts) {B:Base} {σ:St} {F H:Hp} {env:En} {Q:D→Prop} (rp:Rep X.K B F H σ env) (h:az f ts env Q):Ls r (wA X es) σ H (RV X B σ env F Q):=by
 refine cw (ha B σ F H env _ rp h) fun vs H1 hq0=>?_;obtain⟨F1,ds,r1,s1,d1,q1⟩:=hq0;exact hf B σ F1 H1 env Q ds vs _ r1 d1 (fun v H' F' d' r' s' hd q=>⟨F',d',r',s1.trans s',hd,q⟩) q1
theorem kT {id:String} {r:List V→Hp→VK→Prop} {f:List D→(D→Prop)→Prop} {x:Str} {p:Pos} (hc:eQ X (.builtin id) r) (hf:Call3 X r f) (hg:Gl X x) (hm:X.mg x=none) (hv:bootBuiltins x=some (.builtin id)) (ha:QA X (e :: es) ts)
  (hn:x≠"__name__":=by decide) (hdb:(x == ("__debug__" : Str))=false:=by decide) (he:starEach (e :: es) X.env=(false,eval e X.env) :: starEach es X.env:=by exact bq rfl) (hpl:(backTo pos (starEach es X.env)).any (·.1)=false:=by rfl) :
  QE X (.Call (.Name x p) (e :: es) [] pos) (az f ts):=⟨fun B σ F H env Q rp h=>b8 (rn hc hg hm hv iO hn hdb he hpl) (Gu hf ha rp h)⟩
theorem xu {T:String} {r:List V→Hp→VK→Prop} {f:List D→(D→Prop)→Prop} {x:Str} {p:Pos} (hc:eQ X (.type T) r) (hf:Call3 X r f) (hg:Gl X x) (hm:X.mg x=none) (hv:bootBuiltins x=some (.type T)) (ha:QA X (e :: es) ts)
  (hn:x≠"__name__":=by decide) (hdb:(x == ("__debug__" : Str))=false:=by decide) (he:starEach (e :: es) X.env=(false,eval e X.env) :: starEach es X.env:=by exact bq rfl) (hpl:(backTo pos (starEach es X.env)).any (·.1)=false:=by rfl) :
  QE X (.Call (.Name x p) (e :: es) [] pos) (az f ts):=⟨fun B σ F H env Q rp h=>b8 (oE hc hg hm hv iO hn hdb he hpl) (Gu hf ha rp h)⟩
end
theorem Bm:bootBuiltins "abs" = some (.builtin "abs"):=by decide +kernel
theorem Bp:bootBuiltins "all" = some (.builtin "all"):=by decide +kernel
theorem AJ:bootBuiltins "max" = some (.builtin "max"):=by decide +kernel
theorem Bo:bootBuiltins "min" = some (.builtin "min"):=by decide +kernel
theorem Bi:bootBuiltins "isinstance" = some (.builtin "isinstance"):=by decide +kernel
theorem oY:bootBuiltins "len" = some (.builtin "len"):=by decide +kernel
theorem nZ:bootBuiltins "int" = some (.type "int"):=by decide +kernel
theorem qU:bootBuiltins "bool" = some (.type "bool"):=by decide +kernel
theorem sh:bootBuiltins "list" = some (.type "list"):=by decide +kernel
theorem jL:bootBuiltins "tuple" = some (.type "tuple"):=by decide +kernel
section
variable {X:Cx} {a b c e:Expr} {es:List Expr} {ta tb tc:TD} {tA tB':TB} {ts:ft} {pos:Pos} {rest:List Expr}
def C6 (ds:List D) (Q:D→Prop):Prop:=match ds with
 | [.int i]=>Q (.int (if i < 0 then -i else i))
 | _=>False
theorem Ha:Call3 X (fun xs H Q=>∃i,xs=[.int i]∧Q (.int (if i < 0 then -i else i)) H) C6:=by
 intro B σ F H env Q ds vs Z rp h hz hf;unfold C6 at hf
 split at hf
 ·simp only [aj,Den] at h;obtain⟨v,r,rfl,rfl,rfl⟩:=h;exact⟨_,rfl,hz _ _ F _ rp (ao.refl _) bE hf⟩
 ·exact hf.elim
def gy (ds:List D) (Q:D→Prop):Prop:=match ds with
 | [.lst xs]=>Q (.int xs.length)
 | [.tup xs]=>Q (.int xs.length)
 | [.str z]=>z.length≤sizeLine∧Q (.int z.length)
 | _=>False
theorem Iq:Call3 X (fun xs H Q=>(∃p ys,xs=[.ref p]∧(fU X.K H p ys∨jv X.K H p ys)∧Q (.int ys.length) H)∨∃z,xs=[.str z]∧z.length≤sizeLine∧Q (.int z.length) H) gy:=by
 intro B σ F H env Q ds vs Z rp h hz hf;unfold gy at hf
 split at hf
 ·simp only [aj,Den] at h;obtain⟨v,r,rfl,⟨p,ys,rfl,q,r⟩,rfl⟩:=h;refine .inl ⟨p,ys,rfl,.inl (rp.fh.seq q),hz _ _ F _ rp (ao.refl _) bE ?_⟩;rw [← r.length];exact hf
 ·simp only [aj,Den] at h;obtain⟨v,r,rfl,⟨p,ys,rfl,q,r⟩,rfl⟩:=h;refine .inl ⟨p,ys,rfl,.inr (ao.cT rp.fh q),hz _ _ F _ rp (ao.refl _) bE ?_⟩;rw [← r.length];exact hf
 ·simp only [aj,Den] at h;obtain⟨v,r,rfl,rfl,rfl⟩:=h;exact .inr ⟨_,rfl,hf.1,hz _ _ F _ rp (ao.refl _) bE hf.2⟩
 ·exact hf.elim
def BM (ds:List D) (Q:D→Prop):Prop:=match ds with
 | [.int i,.int j]=>Q (.int (if j > i then j else i))
 | _=>False
def BZ (ds:List D) (Q:D→Prop):Prop:=match ds with
 | [.int i,.int j]=>Q (.int (if j < i then j else i))
 | _=>False
theorem Hw:Call3 X (fun xs H Q=>∃i j,xs=[.int i,.int j]∧Q (.int (if j > i then j else i)) H) BM:=by
 intro B σ F H env Q ds vs Z rp h hz hf;unfold BM at hf
 split at hf
 ·simp only [aj,Den] at h;obtain⟨v,r,rfl,rfl,v',r',rfl,rfl,rfl⟩:=h;exact⟨_,_,rfl,hz _ _ F _ rp (ao.refl _) bE hf⟩
 ·exact hf.elim
theorem HM:Call3 X (fun xs H Q=>∃i j,xs=[.int i,.int j]∧Q (.int (if j < i then j else i)) H) BZ:=by
 intro B σ F H env Q ds vs Z rp h hz hf;unfold BZ at hf
 split at hf
 ·simp only [aj,Den] at h;obtain⟨v,r,rfl,rfl,v',r',rfl,rfl,rfl⟩:=h;exact⟨_,_,rfl,hz _ _ F _ rp (ao.refl _) bE hf⟩
 ·exact hf.elim
def tJ (ds:List D) (Q:D→Prop):Prop:=match ds with
 | [.int i]=>Q (.int i)
 | [.bl k]=>Q (.int (if k then 1 else 0))
 | _=>False
theorem Hf:Call3 X (fun xs H Q=>(∃i,xs=[.int i]∧Q (.int i) H)∨∃k,xs=[.bl k]∧Q (.int (if k then 1 else 0)) H) tJ:=by
 intro B σ F H env Q ds vs Z rp h hz hf;unfold tJ at hf
 split at hf
 ·simp only [aj,Den] at h;obtain⟨v,r,rfl,rfl,rfl⟩:=h;exact .inl ⟨_,rfl,hz _ _ F _ rp (ao.refl _) bE hf⟩
 ·simp only [aj,Den] at h;obtain⟨v,r,rfl,rfl,rfl⟩:=h;exact .inr ⟨_,rfl,hz _ _ F _ rp (ao.refl _) bE hf⟩
 ·exact hf.elim
def gb (ds:List D) (Q:D→Prop):Prop:=match ds with
 | [.lst xs]=>Q (.tup xs)
 | [.tup xs]=>Q (.tup xs)
 | _=>False
theorem DO:Call3 X (fun xs H Q=>∃p ys,xs=[.ref p]∧((fU X.K H p ys∧∀l,H l=none→Q (.ref l) (upd H l (.tup ys)))∨(jv X.K H p ys∧Q (.ref p) H))) gb:=by
 intro B σ F H env Q ds vs Z rp h hz hf;unfold gb at hf
 split at hf
 ·simp only [aj,Den] at h;obtain⟨v,r,rfl,⟨p,ys,rfl,q,r⟩,rfl⟩:=h;refine⟨p,ys,rfl,.inl ⟨rp.fh.seq q,fun w hw=>?_⟩⟩;obtain⟨r2,s2⟩:=rp.laid (o:=.tup ys) hw;exact hz _ _ _ _ r2 s2 (gx (jv.of au) (aj.mono s2 _ _ r)) hf
 ·simp only [aj,Den] at h;obtain⟨v,r,rfl,⟨p,ys,rfl,q,r⟩,rfl⟩:=h;exact⟨p,ys,rfl,.inr ⟨ao.cT rp.fh q,hz _ _ F _ rp (ao.refl _) (gx q r) hf⟩⟩
 ·exact hf.elim
def LX (K:Mn) (H:Hp) (x:V) (t:String):Prop:=match x with
 | .non=>t = "NoneType"
 | .bl _=>t = "bool"
 | .int _=>t = "int"
 | .str _=>t = "str"
 | .ref a=>(t = "tuple"∧∃vs,jv K H a vs)∨(t = "list"∧∃vs,fU K H a vs)
 | _=>False
theorem DQ:eQ X (.builtin "isinstance") (fun xs H Q=>∃x n t b,xs=[x,.ty n]∧LX X.K H x t∧PySem.W.kitOne X.K (.type t) (.type n)=some b∧Q (.bl b) H):=by
 intro pins s σ H xs us Q I r h;obtain⟨x,n,t,b,rfl,ty,e,q⟩:=h;obtain⟨u,w,rfl,rx,rw'⟩:=vals2 r;cases (show w=Value.type n from rw');have fin:∀tk,EP X pins σ Q (.bool b) { s with toks:=tk }:=fun tk=>⟨.bl b,H,I.tok tk,rfl,q⟩
 cases x with
 | non=>cases (show t = "NoneType" from ty);cases (show u=Value.none from rx);exact PySem.W.kia_one PySem.W.kitx_none I.uA True.intro e (fun z=>nomatch z) fin
 | bl y=>cases (show t = "bool" from ty);cases (show u=Value.bool y from rx);exact PySem.W.kia_one PySem.W.kitx_bool I.uA True.intro e (fun z=>nomatch z) fin
 | int i=>cases (show t = "int" from ty);obtain⟨t,q⟩:=(show ∃t,u=Value.int i t from rx);cases q;exact PySem.W.kia_one PySem.W.kitx_int I.uA True.intro e (fun z=>nomatch z) fin
 | str i=>cases (show t = "str" from ty);obtain⟨t,q⟩:=(show ∃t,u=Value.str i t from rx);cases q;exact PySem.W.kia_one PySem.W.kitx_str I.uA True.intro e (fun z=>nomatch z) fin
 | ref a =>
  cases (show u=Value.ref a from rx);rcases ty with ⟨rfl,vs,hq⟩ | ⟨rfl,vs,hq⟩
  ·obtain⟨_,_,⟨o,h1,h2,_⟩,_⟩:=I.tuple hq;exact PySem.W.kia_one PySem.W.kitx_tuple I.uA ⟨o,h1,h2⟩ e (fun z=>nomatch z) fin
  ·obtain⟨_,_,⟨o,n,h1,h2,_⟩,_⟩:=I.list hq
   exact PySem.W.kia_one PySem.W.kitx_list I.uA ⟨o,h1,h2⟩ e (fun z=>nomatch z) fin
 | _=>exact False.elim ty
inductive Kd where | non | bl | int | str | tup | lst | oth
def Ga:D→Kd
 | .non=>.non
 | .bl _=>.bl
 | .int _=>.int
 | .str _=>.str
 | .tup _=>.tup
 | .lst _=>.lst
 | _=>.oth
def EG:Kd→String→Option Bool
 | .oth,_=>none
 | k,"int"=>some (match k with | .int=>true | .bl=>true | _=>false)
 | k,"bool"=>some (match k with | .bl=>true | _=>false)
 | k,"str"=>some (match k with | .str=>true | _=>false)
 | k,"tuple"=>some (match k with | .tup=>true | _=>false)
 | k,"list"=>some (match k with | .lst=>true | _=>false)
 | _,_=>none
def JF (ds:List D) (Q:D→Prop):Prop:=match ds with
 | [x,.ty n]=>∃b,EG (Ga x) n=some b∧Q (.bl b)
 | _=>False
theorem kN (K:Mn) (k:Kd) (n t:String) (b:Bool) (h:EG k n=some b)
  (ht:t=match k with | .non=>"NoneType" | .bl=>"bool" | .int=>"int" | .str=>"str" | .tup=>"tuple" | .lst=>"list" | .oth=>"type"):PySem.W.kitOne K (.type t) (.type n)=some b:=by
 subst ht;unfold EG at h
 split at h
 ·cases h
 all_goals (cases k <;> simp at h <;> subst h <;> rfl)
theorem G8:Call3 X (fun xs H Q=>∃x n t b,xs=[x,.ty n]∧LX X.K H x t∧PySem.W.kitOne X.K (.type t) (.type n)=some b∧Q (.bl b) H) JF:=by
 intro B σ F H env Q ds vs Z rp h hz hf;unfold JF at hf
 split at hf
 ·rename_i x n;obtain⟨b,hb,q⟩:=hf;simp only [aj] at h;obtain⟨v,r,rfl,hd,v',r',rfl,hd',rfl⟩:=h;simp only [Den] at hd';subst hd';have fin:=hz (.bl b) H F (.bl b) rp (ao.refl _) gQ q
  cases x with
  | non=>simp only [Den] at hd;subst hd;exact⟨_,n,"NoneType",b,rfl,rfl,kN _ _ _ _ _ hb rfl,fin⟩
  | bl k=>simp only [Den] at hd;subst hd;exact⟨_,n,"bool",b,rfl,rfl,kN _ _ _ _ _ hb rfl,fin⟩
  | int k=>simp only [Den] at hd;subst hd;exact⟨_,n,"int",b,rfl,rfl,kN _ _ _ _ _ hb rfl,fin⟩
  | str k=>simp only [Den] at hd;subst hd;exact⟨_,n,"str",b,rfl,rfl,kN _ _ _ _ _ hb rfl,fin⟩
  | tup k=>simp only [Den] at hd;obtain⟨p,vs,rfl,q',r⟩:=hd;exact⟨_,n,"tuple",b,rfl,.inl ⟨rfl,vs,ao.cT rp.fh q'⟩,kN _ _ _ _ _ hb rfl,fin⟩
  | lst k=>simp only [Den] at hd;obtain⟨p,vs,rfl,q',r⟩:=hd;exact⟨_,n,"list",b,rfl,.inr ⟨rfl,vs,rp.fh.seq q'⟩,kN _ _ _ _ _ hb rfl,fin⟩
  | dct k _=>cases hb
  | obj k=>cases hb
  | ty k=>cases hb
  | exc k=>cases hb
  | cls k=>cases hb
 ·exact hf.elim
theorem pC:∀{bs:List Bool} {us:List Value},Vals (bs.map V.bl) us→LSm.BoolsAre us bs
 | [],_,r=>by rw [List.map_nil] at r;cases r;exact .nil
 | b :: bs,_,r=>by
  rw [MP] at r
  cases r with
  | cons h t=>cases (show _=Value.bool b from h);exact .cons b (pC t)
theorem zg {s:Shared} {h':Heap} {o:Obj} (hk:∀b x,b∉[s.heap.objs.size]→(s.heap.push o).get? b=some x→h'.get? b=some x):∀b x,s.heap.get? b=some x→h'.get? b=some x :=
 fun b x e=>hk b x (fun hm=>by rw [MG.mp hm] at e;exact Nat.lt_irrefl _ (ML e)) (Mz _ e)
theorem Ct (hc:X.calm=true):eQ X (.builtin "all") (fun xs H Q=>∃(p:Addr) (bs:List Bool),xs=[.ref p]∧fU X.K H p (bs.map V.bl)∧Q (.bl (bs.all id)) H):=by
 intro pins s σ H xs us Q I r h;obtain⟨p,bs,rfl,hq,q⟩:=h;obtain⟨u,rfl,rx⟩:=vals1 r;cases rx;obtain⟨its,r',pl,hz⟩:=I.list hq;have hb:=pC r';have hl:=pl.isList;have hlt:p < s.heap.objs.size:=by obtain⟨_,e,_⟩:=hl;exact ML e
 refine call_all_walk (wpAny_pyIter_list hl ?_)
 refine⟨s.heap.objs.size,[s.heap.objs.size,p],[s.heap.objs.size],its.toArray.size,_,_,fun i=>(bs[i]?).getD true,rfl,Walks.list (A:=X.A.in1) (I.ok.hd hc) _ p (MY hlt) its.toArray,
  ⟨⟨_,MM _ rfl,rfl,rfl⟩,hl.push _⟩,fun i v s' Q' E' hP hQ=>?_,fun h' tk hk=>?_⟩
 ·obtain⟨b,e,rfl⟩:=hb.get i v (by simpa using hP);simp only [e,Option.getD_some] at hQ;exact wpAny_truthy_bool hQ
 ·have e:((List.range its.toArray.size).all fun i=>(bs[i]?).getD true)=bs.all id:=by
   rw [MH,hb.length];exact LSm.range_all bs
  rw [e];exact⟨.bl _,H,I.kept (t':=tk) (zg hk),rfl,q⟩
def boolsOf:List D→Option (List Bool)
 | []=>some []
 | .bl b :: r=>(boolsOf r).map (b :: ·)
 | _=>none
theorem xi (bs:List Bool):boolsOf (bs.map D.bl)=some bs:=by
 induction bs with
 | nil=>rfl
 | cons b r ih=>simp [boolsOf,ih]
theorem pO {K:Mn} {F:Hp}:∀{ds:List D} {bs:List Bool} {vs:List V},boolsOf ds=some bs→aj K F ds vs→vs=bs.map V.bl
 | [],bs,vs,h,r=>by simp only [boolsOf] at h;cases h;simp only [aj] at r;subst r;rfl
 | .bl b :: ds,bs,vs,h,r=>by
  simp only [boolsOf] at h
  cases e:boolsOf ds with
  | none=>rw [e] at h;cases h
  | some bs' =>
   rw [e] at h;cases h;simp only [aj,Den] at r;obtain⟨v,r',rfl,rfl,r⟩:=r
   rw [pO e r];rfl
 | .non :: _,_,_,h,_=>by cases h
 | .int _ :: _,_,_,h,_=>by cases h
 | .str _ :: _,_,_,h,_=>by cases h
 | .tup _ :: _,_,_,h,_=>by cases h
 | .lst _ :: _,_,_,h,_=>by cases h
 | .dct _ _ :: _,_,_,h,_=>by cases h
 | .obj _ :: _,_,_,h,_=>by cases h
 | .ty _ :: _,_,_,h,_=>by cases h
 | .exc _ :: _,_,_,h,_=>by cases h
 | .cls _ :: _,_,_,h,_=>by cases h
def ED (ds:List D) (Q:D→Prop):Prop:=match ds with
 | [.lst xs]=>∃bs,boolsOf xs=some bs∧Q (.bl (bs.all id))
 | _=>False
theorem HX:Call3 X (fun xs H Q=>∃(p:Addr) (bs:List Bool),xs=[.ref p]∧fU X.K H p (bs.map V.bl)∧Q (.bl (bs.all id)) H) ED:=by
 intro B σ F H env Q ds vs Z rp h hz hf;unfold ED at hf
 split at hf
 ·obtain⟨bs,hb,q⟩:=hf;simp only [aj,Den] at h;obtain⟨v,r,rfl,⟨p,ys,rfl,q',r⟩,rfl⟩:=h;have:=pO hb r;subst this;exact⟨p,bs,rfl,rp.fh.seq q',hz _ _ F _ rp (ao.refl _) gQ q⟩
 ·exact hf.elim
end
section
variable {K:Mn} {B:Base} {F H:Hp} {σ:St} {env:En}
theorem Rep.bare (r:Rep K B F H σ env):Rep K B F H [] [] :=
 ⟨r.f0,r.fh,r.h0,r.nf,fun i x q=>by simp at q,fun i x q=>by simp at q,fun i j _ _ _ _ q=>by simp at q,fun i x q=>by simp at q,fun i j _ _ _ _ q=>by simp at q⟩
end
section
variable {X:Cx} {a b c e:Expr} {es:List Expr} {ta tb tc:TD} {tA tB':TB} {ts:ft} {pos:Pos} {rest:List Expr} {st:Stmt} {sts:List Stmt} {t u:bS}
def bN:bS:=fun D env=>D.nx env
def aJ (t u:bS):bS:=fun D env=>t { D with nx:=u D } env
theorem bG:sS X [] bN:=⟨fun B σ F H env D rp h=>oa Ep ⟨F,env,rp,h⟩⟩
theorem ar (h1:QS X st t):sS X [st] t:=⟨fun B σ F H env D rp h=>oa (Aj Eo) (h1 B σ F H env D rp h)⟩
theorem ah (h1:QS X st t) (h2:sS X sts u):sS X (st :: sts) (aJ t u):=by
 refine⟨?_⟩;intro B σ F H env D rp h;refine oa (ny Eo eN) ?_;exact vO (h1 B σ F H env _ rp h) (fun σ' H' ⟨F',env',rp',q⟩=>h2 B σ' F' H' env' D rp' q) (fun _ _ q=>q) (fun _ _ q=>q) (fun _ _ q=>q)
def jQ:bS:=fun D env=>D.bk env
theorem CD:QS X (.Break pos) jQ:=⟨fun B σ F H env D rp h=>dD BU ⟨F,env,rp,h⟩⟩
def ck (te:TD):bS:=fun D env=>te env D.rt
theorem bf (he:QE X e ta):QS X (.Return (some e) pos) (ck ta):=by
 refine⟨?_⟩;intro B σ F H env D rp h;refine dD (II bH) ?_;exact aA (he B σ F H env _ rp h) fun v H' ⟨F',d,r',s',hd,q⟩=>⟨F',d,r'.bare,hd,q⟩
def iW (c:TB) (t u:bS):bS:=fun D env=>c env fun k=>if k=true then t D env else u D env
theorem c7 {xs ys:List Stmt} (hc:QT X c tA) (ha:sS X xs t) (hb:sS X ys u):QS X (.If c xs ys pos) (iW tA t u):=by
 refine⟨?_⟩;intro B σ F H env D rp h;refine dD (C9 qW eN eN) ?_;refine gC (hc B σ F H env _ rp h) fun k H1 ⟨F1,r1,s1,q1⟩=>?_
 cases k with
 | true=>exact ha B σ F1 H1 env D r1 q1
 | false=>exact hb B σ F1 H1 env D r1 q1
def ia:bS:=fun _ _=>False
theorem rj:QS X st ia:=⟨fun _ _ _ _ _ _ _ h=>h.elim⟩
abbrev nY:=D→En→(En→Prop)→Prop
abbrev uG:=List D→En→(En→Prop)→Prop
def wG (X:Cx) (tg:Expr):TG:=fun v σ H Q=>∀(pins:List (Addr×Obj)) (s:Shared) (u:Value),Inv X pins σ H s→RelV v u →
 wpAny (model X.prog X.w) X.A (assign tg X.env u) (fun _ s'=>∃σ' H',Inv X pins σ' H' s'∧Q σ' H') X.xe s
def IL (X:Cx) (tg:List Expr):Fm:=fun vs σ H Q=>∀(pins:List (Addr×Obj)) (s:Shared) (us:List Value),Inv X pins σ H s→Vals vs us →
 wpAny (model X.prog X.w) X.A (assignInOrder ((assignEach tg X.env).map (·.2)) us) (fun _ s'=>∃σ' H',Inv X pins σ' H' s'∧Q σ' H') X.xe s
theorem vf {tg:Expr}:PG X tg (wG X tg):=fun pins s σ H v u Q I r h=>h pins s u I r
theorem Gq {tg:List Expr}:IM X tg (IL X tg):=fun pins s σ H v u Q I r h=>h pins s u I r
theorem JY {tg:Expr} {g:TG} {v:V} {σ:St} {H:Hp} {Q:St→Hp→Prop} (h:PG X tg g) (q:g v σ H Q):wG X tg v σ H Q:=fun pins s u I r=>h pins s σ H v u Q I r q
theorem Ds {tg:List Expr} {g:Fm} {v:List V} {σ:St} {H:Hp} {Q:St→Hp→Prop} (h:IM X tg g) (q:g v σ H Q):IL X tg v σ H Q:=fun pins s u I r=>h pins s σ H v u Q I r q
theorem fV {tg:Expr} {v:V} {σ:St} {H:Hp} {Q Q':St→Hp→Prop} (h:wG X tg v σ H Q) (i:∀σ H,Q σ H→Q' σ H):wG X tg v σ H Q':=fun pins s u I r=>bU (h pins s u I r) fun _ _ ⟨σ',H',I',q⟩=>⟨σ',H',I',i _ _ q⟩
theorem DW {tg:List Expr} {v:List V} {σ:St} {H:Hp} {Q Q':St→Hp→Prop} (h:IL X tg v σ H Q) (i:∀σ H,Q σ H→Q' σ H):IL X tg v σ H Q':=fun pins s u I r=>bU (h pins s u I r) fun _ _ ⟨σ',H',I',q⟩=>⟨σ',H',I',i _ _ q⟩
def RG (X:Cx) (B:Base) (F:Hp) (Q:En→Prop):St→Hp→Prop:=fun σ' H'=>∃F' env',Rep X.K B F' H' σ' env'∧ao F F'∧Q env'
structure QG (X:Cx) (tg:Expr) (g:nY):Prop where
 of ::
 run:∀(B:Base) (σ:St) (F H:Hp) (env:En) (Q:En→Prop) (d:D) (v:V),Rep X.K B F H σ env→Den X.K F d v→g d env Q→wG X tg v σ H (RG X B F Q)
instance {X:Cx} {tg:Expr} {g:nY}:CoeFun (QG X tg g) (fun _=>∀(B:Base) (σ:St) (F H:Hp) (env:En) (Q:En→Prop) (d:D) (v:V),Rep X.K B F H σ env→Den X.K F d v→g d env Q→wG X tg v σ H (RG X B F Q)):=⟨QG.run⟩
structure IK (X:Cx) (tg:List Expr) (g:uG):Prop where
 of ::
 run:∀(B:Base) (σ:St) (F H:Hp) (env:En) (Q:En→Prop) (ds:List D) (vs:List V),Rep X.K B F H σ env→aj X.K F ds vs→g ds env Q→IL X tg vs σ H (RG X B F Q)
instance {X:Cx} {tg:List Expr} {g:uG}:CoeFun (IK X tg g) (fun _=>∀(B:Base) (σ:St) (F H:Hp) (env:En) (Q:En→Prop) (ds:List D) (vs:List V),Rep X.K B F H σ env→aj X.K F ds vs→g ds env Q→IL X tg vs σ H (RG X B F Q)):=⟨IK.run⟩
def aV (i:Nat):nY:=fun x env Q=>Q (env.set i (some (.d x)))
theorem aH {x:Str} (i:Nat) (hN:X.N.Nodup) (hi:X.N[i]?=some x:=by rfl) (hx:Loc X.env.scope x:=by first | exact Or.inl rfl | exact Or.inr rfl) (hf:X.fn x=true∨X.env.scope.names.lookup x=some .local:=by first | exact .inl rfl | exact .inr rfl):QG X (.Name x pos) (aV i):=by
 refine⟨?_⟩;intro B σ F H env Q d v rp hd h pins s u I r;refine Fo (i:=i) hN hi hx hf pins s σ H v u _ I r ?_;refine⟨F,_,rp.set hd ?_,ao.refl _,h⟩;rw [I.len];exact (Mi.mp hi).1
def iU:uG:=fun xs env Q=>xs=[]∧Q env
def bO (g:nY) (gs:uG):uG:=fun xs env Q=>∃x r,xs=x :: r∧g x env fun env'=>gs r env' Q
theorem fq:IK X [] iU:=by
 refine⟨?_⟩;intro B σ F H env Q ds vs rp hd h;obtain⟨rfl,q⟩:=h;simp only [aj] at hd;exact Ds ET ⟨hd,F,env,rp,ao.refl _,q⟩
theorem aQ {g:nY} {gs:uG} (h1:QG X e g) (h2:IK X es gs) (hs:(assignEach (e :: es) X.env).map (·.2)=assign e X.env :: (assignEach es X.env).map (·.2):=by rfl):IK X (e :: es) (bO g gs):=by
 refine⟨?_⟩;intro B σ F H env Q ds vs rp hd h;obtain⟨x,r,rfl,q⟩:=h;simp only [aj] at hd;obtain⟨v,vr,rfl,a1,b1⟩:=hd;refine Ds (Cg vf Gq hs) ⟨v,vr,rfl,?_⟩;refine fV (h1 B σ F H env _ x v rp a1 q) fun σ1 H1 hq0=>?_;obtain⟨F1,env1,r1,s1,q1⟩:=hq0;exact DW (h2 B σ1 F1 H1 env1 Q r vr r1 (aj.mono s1 _ _ b1) q1) fun σ2 H2 ⟨F2,env2,r2,s2,q2⟩=>⟨F2,env2,r2,s1.trans s2,q2⟩
def iC (n:Nat) (gs:uG):nY:=fun x env Q=>∃xs,x=.tup xs∧xs.length=n∧gs xs env Q
theorem gM {k n:Nat} {gs:uG} (hc:X.calm=true) (h:IK X es gs) (hn:(assignEach es X.env).length=n:=by rfl) (hst:(assignEach es X.env).findIdx? (·.1)=none:=by rfl):QG X (.Tuple es k pos) (iC n gs):=by
 refine⟨?_⟩;intro B σ F H env Q d v rp hd hq;obtain⟨xs,rfl,hl,q⟩:=hq;simp only [Den] at hd;obtain⟨p,vs,rfl,hs,r⟩:=hd;refine JY (Hv hc Gq hn hst) ⟨p,vs,rfl,ao.cT rp.fh hs,by rw [← r.length];exact hl,?_⟩;exact h B σ F H env Q xs vs rp r q
def l7 (te:TD) (g:nY):bS:=fun D env=>te env fun x=>g x env D.nx
theorem lW {tg:Expr} {g:nY} (he:QE X e ta) (hg:QG X tg g) (hs:swapsWithSole [tg] e pos.line X.env=pure false:=by rfl) (hw:swappedStores [tg] e X.env=pure none:=by rfl)
  (h1:(assignEach [tg] X.env).map (·.2)=[assign tg X.env]:=by rfl):QS X (.Assign [tg] e pos) (l7 ta g):=by
 refine⟨?_⟩;intro B σ F H env D rp h;refine dD (uN bH vf hs hw h1) ?_;refine aA (he B σ F H env _ rp h) fun v H1 hq0=>?_;obtain⟨F1,d,r1,s1,d1,q1⟩:=hq0;exact fV (hg B σ F1 H1 env _ d v r1 d1 q1) fun σ2 H2 ⟨F2,env2,r2,s2,q2⟩=>⟨F2,env2,r2,q2⟩
def bY (i:Nat) (te:TD):bS:=fun D env=>te env fun x=>D.nx (env.set i (some (.d x)))
theorem bA {x:Str} {pos':Pos} (i:Nat) (hN:X.N.Nodup) (he:QE X e ta) (hi:X.N[i]?=some x:=by rfl) (hx:Loc X.env.scope x:=by first | exact Or.inl rfl | exact Or.inr rfl) (hs:swapsWith e (some (.Name x pos')) pos.line X.env=pure false:=by rfl)
  (hf:X.fn x=true∨X.env.scope.names.lookup x=some .local:=by first | exact .inl rfl | exact .inr rfl):QS X (.Assign [.Name x pos'] e pos) (bY i ta):=by
 refine⟨?_⟩;intro B σ F H env D rp h pins s I;refine nU (i:=i) hN hi hx bH hs hf pins s σ H _ I ?_;refine aA (he B σ F H env _ rp h) fun v H1 ⟨F1,d,r1,s1,d1,q1⟩=>⟨F1,_,r1.set d1 ?_,q1⟩;rw [I.len];exact (Mi.mp hi).1
def js (c:TB) (tb:bS):bS:=fun D env=>∃(I:En→Prop) (μ:En→Nat),I env∧∀env,I env→c env fun k=>if k=true then tb { D with nx:=fun e'=>I e'∧μ e' < μ env,ct:=fun e'=>I e'∧μ e' < μ env,bk:=D.nx } env else D.nx env
theorem mJ {body:List Stmt} (hp:PassesOwn (model X.prog X.w) X.A X.env X.xe) (hc:QT X c tA) (hb:sS X body t):QS X (.While c body [] pos) (js tA t):=by
 refine⟨?_⟩;intro B σ F H env D rp h;obtain⟨I,μ,i0,turn⟩:=h;refine dD (wH hp qW eN) ?_;refine⟨fun m σ H=>∃F env,Rep X.K B F H σ env∧I env∧μ env=m,⟨_,F,env,rp,i0,rfl⟩,?_⟩
 rintro m σ1 H1 ⟨F1,env1,r1,i1,rfl⟩;refine gC (hc B σ1 F1 H1 env1 _ r1 (turn env1 i1)) fun k H2 ⟨F2,r2,s2,q2⟩=>?_
 cases k with
 | false=>exact⟨F2,env1,r2,q2⟩
 | true =>
  refine⟨fun σ' H'=>∃F' env',Rep X.K B F' H' σ' env'∧I env'∧μ env' < μ env1,fun σ' H' ⟨F',env',r',i',l⟩=>⟨_,l,F',env',r',i',rfl⟩,?_⟩;exact hb B σ1 F2 H2 env1 _ r2 q2
def turns (g:nY) (tb:bS) (Z:iI):List D→En→Prop
 | [],env=>Z.nx env
 | x :: xs,env=>g x env fun env'=>tb { Z with nx:=turns g tb Z xs,ct:=turns g tb Z xs,bk:=Z.nx } env'
def l9 (z:Str):List D:=z.cps.toList.map fun c=>.str ⟨#[c]⟩
def fG:D→Option (List D)
 | .lst xs=>some xs
 | .tup xs=>some xs
 | .str z=>some (l9 z)
 | _=>none
def Kc (z:Str):It:=⟨fun i _=>i < z.cps.size,fun i H v H'=>H'=H∧∃c,z.cps[i]?=some c∧v=.str ⟨#[c]⟩,fun i _=>z.cps.size≤i⟩
theorem vY {P:Program} {w:World} {K:Mn} {tg:Expr} (it:Addr) (z:Str) (t:Tok) (nm:String) (hn:["enumerate","zip","dict_itemiterator","dict_reverseitemiterator","odict_iterator","itertools.zip_longest","itertools.pairwise"].contains nm=false)
  (W:∀A:Around,A.handled=none→Walks P w A it [it] [it] z.cps.size (SignAt z) (fun i h=>h.IsStrIter it nm z t i)) (sf:∀(A:Around) (i:Nat) (s:Shared) (Q:Value→Shared→Prop) (E:Value→Shared→Prop),s.heap.IsStrIter it nm z t i→Q (.ref it) s→wpAny (model P w) A (pyIter (.ref it)) Q E s)
  (dn:∀(A:Around) (i:Nat) (s:Shared) (Q:Option Value→Shared→Prop) (E:Value→Shared→Prop),A.handled=none→s.heap.IsStrIter it nm z t i→z.cps[i]?=none→(∀h',Heap.ExtBut it s.heap h'→Q none { s with heap:=h' })→wpAny (model P w) A (pyNext (.ref it)) Q E s) :
  Turn P w K tg (Kc z) [it] it (fun i h=>h.IsStrIter it nm z t i) where
 mem:=by simp
 obj:=fun i h st b hb=>by
  have e:b=it:=by simpa using hb
  subst e;obtain⟨o,e,c,d⟩:=st;exact⟨o,e,fun v z=>by rw [d] at z;cases z⟩
 keep:=fun i h h' st k=>by
  obtain⟨o,e,c,d⟩:=st;exact⟨o,k it (by simp) o e,c,d⟩
 item:=by
  intro X hP hw hK hc i pins s σ H E I hf st hg;subst hP hw hK;obtain⟨f0,f1,f2,f3,f4,f5⟩:=hf it (by simp);refine (W X.A (I.ok.hd hc)).item i s _ _ hg st fun v h' tk hv st' kk=>?_;obtain⟨c,u,hc',rfl⟩:=hv;have I1:Inv X pins σ H { s with heap:=h',toks:=tk }:=I.turned (fun b o hb e=>kk b o (by simpa using hb) e) f0 f1 f3 f4 f5;obtain⟨o,e,c',d⟩:=id st';exact⟨_,rfl,xG (s:={ s with heap:=h',toks:=tk }) e c' d hn ⟨.str ⟨#[c]⟩,H,I1,⟨u,rfl⟩,⟨rfl,c,hc',rfl⟩,st',fun b hb=>(hf b hb).1⟩⟩
 done:=by
  intro X hP hw hK hc i pins s σ H E I hf st hg;subst hP hw hK;obtain⟨f0,f1,f2,f3,f4,f5⟩:=hf it (by simp);have hg':z.cps.size≤i:=hg;exact dn X.A i s _ _ (I.ok.hd hc) st (by simp;exact hg') fun h' eb=>⟨rfl,I.turned (t':=s.toks) (fun b o hb e=>eb b o hb e) f0 f1 f3 f4 f5⟩
 self:=fun A i s Q E st h=>sf A i s Q E st h
def J6 (K:Mn) (tl:TE):TI:=fun σ H R=>tl σ H fun x H1=>(∃a,x=.ref a∧(((∃xs,fU K H1 a xs)∧R (Kz K a) H1)∨((∃xs,jv K H1 a xs)∧R (Kx K a) H1)))∨∃z,x=.str z∧R (Kc z) H1
theorem x4 {tg l:Expr} {tl:TE} (hl:PE X l tl):PI X tg l (J6 X.K tl):=by
 intro pins s σ H R I h;refine bU (hl pins s σ H _ I h) fun v s1 hq0=>?_;obtain⟨x,H1,I1,r1,q1⟩:=hq0;rcases q1 with ⟨a,e,q⟩ | ⟨z,e,q⟩
 rotate_left
 ·subst e;obtain⟨t,rfl⟩:=r1
  have fin:∀(o:Obj) (nm:String),(∀v,o.data≠.cell v)→Turn X.prog X.w X.K tg (Kc z) [s1.heap.objs.size] s1.heap.objs.size (fun i h=>h.IsStrIter s1.heap.objs.size nm z t i)→(s1.heap.push o).IsStrIter s1.heap.objs.size nm z t 0 →
    JA X pins σ tg R (.ref s1.heap.objs.size) { s1 with heap:=s1.heap.push o }:=fun o nm hcell T st=>by
   refine⟨s1.heap.objs.size,[s1.heap.objs.size],_,_,H1,rfl,I1.kept (t':=s1.toks) fun b o e=>Mz _ e,T,st,fun b hb=>?_,q⟩;have e:b=s1.heap.objs.size:=by simpa using hb
   subst e;exact I1.AR (Mv _) (I1.hok.fresh (Mv _))
  cases ha:z.cps.all (· < 128)
  ·exact wpAny_pyIter_wide ha (fin _ "str_iterator" (fun v e=>by cases e) (vY _ z t "str_iterator" (by decide) (fun A hA=>Walks.strWide hA _ z t) (fun A i s Q E st h=>wpAny_pyIter_striter_wide st h) (fun A i s Q E hh st hx h=>wpAny_pyNext_wide_end hh st hx h)) ⟨_,MM _ rfl,rfl,rfl⟩)
  ·exact wpAny_pyIter_ascii ha (fin _ "str_ascii_iterator" (fun v e=>by cases e) (vY _ z t "str_ascii_iterator" (by decide) (fun A hA=>Walks.strAscii hA _ z t) (fun A i s Q E st h=>wpAny_pyIter_striter_ascii st h) (fun A i s Q E hh st hx h=>wpAny_pyNext_ascii_end hh st hx h)) ⟨_,MM _ rfl,rfl,rfl⟩)
 subst e;cases r1;rcases q with ⟨⟨xs,hq⟩,q⟩ | ⟨⟨xs,hq⟩,q⟩
 ·obtain⟨its,rv,p,hz⟩:=I1.list hq;refine wpAny_pyIter_list p.isList ?_;refine⟨s1.heap.objs.size,[s1.heap.objs.size],_,_,H1,rfl,I1.kept (t':=s1.toks) fun b o e=>Mz _ e,AM a _,⟨_,MM _ rfl,rfl,rfl⟩,fun b hb=>?_,q⟩;have e:b=s1.heap.objs.size:=by simpa using hb
  subst e;exact I1.AR (Mv _) (I1.hok.fresh (Mv _))
 ·obtain⟨its,rv,p,hz⟩:=I1.tuple hq;refine wpAny_pyIter_tuple (show s1.heap.IsTuple a its.toArray from p) ?_;refine⟨s1.heap.objs.size,[s1.heap.objs.size],_,_,H1,rfl,I1.kept (t':=s1.toks) fun b o e=>Mz _ e,yR a _,⟨_,MM _ rfl,rfl,rfl⟩,fun b hb=>?_,q⟩;have e:b=s1.heap.objs.size:=by simpa using hb
  subst e;exact I1.AR (Mv _) (I1.hok.fresh (Mv _))
theorem yD {K:Mn} {F:Hp} (z:Str):aj K F (l9 z) (z.cps.toList.map fun c=>V.str ⟨#[c]⟩):=by
 unfold l9
 induction z.cps.toList with
 | nil=>exact aO
 | cons c r ih=>exact aM mI ih
def oM (te:TD) (g:nY) (tb:bS):bS:=fun D env=>te env fun x=>∃xs,fG x=some xs∧turns g tb D xs env
theorem drop_cons {α:Type} {xs:List α} {i:Nat} {x:α} (h:xs[i]?=some x):xs.drop i=x :: xs.drop (i + 1):=by
 obtain⟨hl,e⟩:=Mi.mp h;rw [List.drop_eq_getElem_cons hl,e]
theorem RS.same {B:Base} {G:Hp} {D:iI} (s:ao B.F G):(∀σ H,(RS X ⟨G,B.H,B.N,B.nb⟩ D).nx σ H→(RS X B D).nx σ H)∧(∀v H,(RS X ⟨G,B.H,B.N,B.nb⟩ D).rt v H→(RS X B D).rt v H) ∧
  (∀σ H,(RS X ⟨G,B.H,B.N,B.nb⟩ D).bk σ H→(RS X B D).bk σ H)∧(∀σ H,(RS X ⟨G,B.H,B.N,B.nb⟩ D).ct σ H→(RS X B D).ct σ H) :=
 ⟨fun _ _ ⟨F',env',r,q⟩=>⟨F',env',r.back s,q⟩,fun _ _ ⟨F',d,r,hd,q⟩=>⟨F',d,r.back s,hd,q⟩,fun _ _ ⟨F',env',r,q⟩=>⟨F',env',r.back s,q⟩,fun _ _ ⟨F',env',r,q⟩=>⟨F',env',r.back s,q⟩⟩
theorem rb {tg iter:Expr} {body:List Stmt} {g:nY} (hp:PassesOwn (model X.prog X.w) X.A X.env X.xe) (hc:X.calm=true) (hi:QE X iter ta) (hg:QG X tg g) (hb:sS X body t)
  (hs:∀x,M3 iter X.env x=pure x:=by intro _;rfl):QS X (.For tg iter body [] pos) (oM ta g t):=by
 refine⟨?_⟩;intro B σ F H env D rp h;refine dD (oe hp hc (x4 bH) vf eN hs) ?_;refine aA (hi B σ F H env _ rp h) fun v H1 hq0=>?_;obtain⟨F1,d,r1,s1,d1,xs,hx,q1⟩:=hq0
 have core:∀(a:Addr) (vs:List V) (J:It),aj X.K F1 xs vs→(∀(i:Nat) (x:V) (G H':Hp),ao F1 G→ao G H'→vs[i]?=some x→J.go i H')→(∀(i:Nat) (x:V) (G H':Hp) (y:V) (H'':Hp),ao F1 G→ao G H'→vs[i]?=some x→J.yld i H' y H''→H''=H'∧y=x) →
   (∀(G H':Hp),ao F1 G→ao G H'→J.stop vs.length H') →
   ∃W:Nat→Nat→St→Hp→Prop,(∃m,W 0 m σ H1)∧∀i m σ H,W i m σ H→(J.stop i H∧(RS X B D).nx σ H)∨(J.go i H∧∃N:St→Hp→Prop,(∀σ' H',N σ' H'→∃m',m' < m∧W (i + 1) m' σ' H') ∧
    ∀x H',J.yld i H x H'→wG X tg x σ H' fun σ2 H2=>wSs X body { RS X B D with nx:=N,ct:=N,bk:=(RS X B D).nx } σ2 H2):=by
  intro a vs J dl go yld stop;have hlen:=dl.length;refine⟨fun i m σ H=>m=vs.length - i∧i≤vs.length∧∃F env,Rep X.K ⟨F1,B.H,B.N,B.nb⟩ F H σ env∧turns g t D (xs.drop i) env,⟨vs.length,by simp,Nc _,F1,env,r1.now,by simpa using q1⟩,?_⟩
  rintro i m σ2 H2 ⟨rfl,hi2,F2,env2,r2,q2⟩
  by_cases hlt:i < vs.length
  ·have hv:vs[i]?=some vs[i]:=by simp [hlt]
   obtain⟨dx,hdx,ddx⟩:=dl.Jp hv;rw [drop_cons hdx] at q2;refine .inr ⟨go i _ F2 H2 r2.f0 r2.fh hv,fun σ' H'=>∃F env,Rep X.K ⟨F1,B.H,B.N,B.nb⟩ F H' σ' env∧turns g t D (xs.drop (i + 1)) env,fun σ' H' ⟨F',env',r',q'⟩=>⟨vs.length - (i + 1),by omega,rfl,by omega,F',env',r',q'⟩,fun y H' hy=>?_⟩;obtain⟨rfl,rfl⟩:=yld i _ F2 H2 y H' r2.f0 r2.fh hv hy;have st:=hg ⟨F1,B.H,B.N,B.nb⟩ σ2 F2 _ env2 _ dx _ r2 (Den.mono r2.f0 _ _ ddx) q2
   refine fV st fun σ3 H3 hq0=>?_;obtain⟨F3,env3,r3,s3,q3⟩:=hq0;have bd:=hb ⟨F1,B.H,B.N,B.nb⟩ σ3 F3 H3 env3 _ r3 q3;obtain⟨z1,z2,z3,z4⟩:=RS.same (X:=X) (B:=B) (D:=D) (r1.f0);exact d8 bd (fun _ _ q=>q) z2 z1 (fun _ _ q=>q)
  ·have e:i=vs.length:=by omega
   subst e;rw [Ng (by omega)] at q2;exact .inl ⟨stop F2 H2 r2.f0 r2.fh,F2,env2,r2.back r1.f0,q2⟩
 cases d with
 | lst ys =>
  simp only [fG] at hx;cases hx;simp only [Den] at d1;obtain⟨a,vs,rfl,q,r⟩:=d1;refine .inl ⟨a,rfl,.inl ⟨⟨vs,r1.fh.seq q⟩,core a vs (Kz X.K a) r (fun i x G H' s1 s2 hv=>⟨vs,x,s2.seq (s1.seq q),hv⟩) (fun i x G H' y H'' s1 s2 hv hy=>?_) (fun G H' s1 s2=>⟨vs,s2.seq (s1.seq q),Mv _⟩)⟩⟩;obtain⟨e1,e2⟩:=hy;have:=e2 vs (s2.seq (s1.seq q));rw [hv] at this
  exact⟨e1,(Mq this).symm⟩
 | tup ys =>
  simp only [fG] at hx;cases hx;simp only [Den] at d1;obtain⟨a,vs,rfl,q,r⟩:=d1;refine .inl ⟨a,rfl,.inr ⟨⟨vs,ao.cT r1.fh q⟩,core a vs (Kx X.K a) r (fun i x G H' s1 s2 hv=>⟨vs,x,ao.cT s2 (ao.cT s1 q),hv⟩) (fun i x G H' y H'' s1 s2 hv hy=>?_) (fun G H' s1 s2=>⟨vs,ao.cT s2 (ao.cT s1 q),Mv _⟩)⟩⟩;obtain⟨e1,e2⟩:=hy;have:=e2 vs (ao.cT s2 (ao.cT s1 q));rw [hv] at this
  exact⟨e1,(Mq this).symm⟩
 | str z =>
  simp only [fG] at hx;cases hx;simp only [Den] at d1;subst d1;refine .inr ⟨z,rfl,core 0 (z.cps.toList.map fun c=>V.str ⟨#[c]⟩) (Kc z) (yD z) (fun i x G H' s1 s2 hv=>?_) (fun i x G H' y H'' s1 s2 hv hy=>?_) (fun G H' s1 s2=>?_)⟩
  ·have:=(Mi.mp hv).1;show i < z.cps.size
   simpa using this
  ·obtain⟨e1,c,hc,rfl⟩:=hy;rw [Ms,Nl,hc] at hv;exact⟨e1,Mq hv⟩
  ·show z.cps.size≤_
   simp
 | _=>simp only [fG] at hx;cases hx
def aN (lo:Int) (n:Nat):List D:=(List.range n).map fun (i:Nat)=>D.int (lo + (i:Int))
def hU (f:List D→(Int→Nat→Prop)→Prop) (ts:ft) (g:nY) (tb:bS):bS:=fun D env=>ts env fun xs=>f xs fun lo n=>turns g tb D (aN lo n) env
def iH (xs:List D) (Q:Int→Nat→Prop):Prop:=match xs with
 | [.int j]=>(-(2 ^ 62)≤j∧j < 2 ^ 62)∧Q 0 j.toNat
 | _=>False
def EV (xs:List D) (Q:Int→Nat→Prop):Prop:=match xs with
 | [.int i,.int j]=>(-(2 ^ 62)≤i∧i < 2 ^ 62∧-(2 ^ 62)≤j∧j < 2 ^ 62)∧Q i (j - i).toNat
 | _=>False
theorem xy {tg:Expr} {body:List Stmt} {g:nY} (hg:QG X tg g) (hb:sS X body t) {B:Base} {D:iI} {lo:Int} {n:Nat} {σ:St} {F1 H1:Hp} {env:En} (r1:Rep X.K B F1 H1 σ env) (q1:turns g t D (aN lo n) env) :
  ∃W:Nat→Nat→St→Hp→Prop,(∃m,W 0 m σ H1)∧∀i m σ H,W i m σ H→((Du lo n).stop i H∧(RS X B D).nx σ H)∨((Du lo n).go i H∧∃N:St→Hp→Prop,(∀σ' H',N σ' H'→∃m',m' < m∧W (i + 1) m' σ' H') ∧
    ∀x H',(Du lo n).yld i H x H'→wG X tg x σ H' fun σ2 H2=>wSs X body { RS X B D with nx:=N,ct:=N,bk:=(RS X B D).nx } σ2 H2):=by
 have hl:(aN lo n).length=n:=by simp [aN]
 refine⟨fun i m σ H=>m=n - i∧i≤n∧∃F env,Rep X.K B F H σ env∧turns g t D ((aN lo n).drop i) env,⟨n,by simp,Nc _,F1,env,r1,by simpa using q1⟩,?_⟩
 rintro i m σ2 H2 ⟨rfl,hi2,F2,env2,r2,q2⟩
 by_cases hlt:i < n
 ·have hdx:(aN lo n)[i]?=some (L3.D.int (lo + (i:Int))):=by simp [aN,hlt]
  rw [drop_cons hdx] at q2;refine .inr ⟨hlt,fun σ' H'=>∃F env,Rep X.K B F H' σ' env∧turns g t D ((aN lo n).drop (i + 1)) env,fun σ' H' ⟨F',env',r',q'⟩=>⟨n - (i + 1),by omega,rfl,by omega,F',env',r',q'⟩,fun y H' hy=>?_⟩;obtain⟨rfl,rfl⟩:=hy;refine fV (hg B σ2 F2 _ env2 _ _ _ r2 bE q2) fun σ3 H3 hq0=>?_;obtain⟨F3,env3,r3,s3,q3⟩:=hq0;exact d8 (hb B σ3 F3 H3 env3 _ r3 q3) (fun _ _ q=>q) (fun _ _ q=>q) (fun _ _ q=>q) (fun _ _ q=>q)
 ·have e:i=n:=by omega
  subst e;rw [Ng (by omega)] at q2;exact .inl ⟨Mv _,F2,env2,r2,q2⟩
theorem kd {tg:Expr} {body:List Stmt} {g:nY} {p:Pos} {pos2:Pos} (hp:PassesOwn (model X.prog X.w) X.A X.env X.xe) (hc:X.calm=true) (hgl:Gl X "range") (hm:X.mg "range" = none) (ha:QA X [a] ts) (hg:QG X tg g) (hb:sS X body t)
  (hst:starEach [a] X.env=[(false,eval a X.env)]:=by rfl) (hs:∀x,M3 (.Call (.Name "range" p) [a] [] pos2) X.env x=pure x:=by intro _;rfl):QS X (.For tg (.Call (.Name "range" p) [a] [] pos2) body [] pos) (hU iH ts g t):=by
 refine⟨?_⟩;intro B σ F H env D rp h;refine dD (oe hp hc (iQ hgl hm iO hst) vf eN hs) ?_;refine cw (ha B σ F H env _ rp h) fun vs H1 hq0=>?_;obtain⟨F1,ds,r1,s1,d1,q1⟩:=hq0
 (try dsimp only at q1);unfold iH at q1
 split at q1
 ·simp only [aj,Den] at d1;obtain⟨v,r,rfl,rfl,rfl⟩:=d1;exact⟨_,rfl,q1.1.1,q1.1.2,xy hg hb r1 q1.2⟩
 ·exact q1.elim
theorem DS {tg:Expr} {body:List Stmt} {g:nY} {p:Pos} {pos2:Pos} (hp:PassesOwn (model X.prog X.w) X.A X.env X.xe) (hc:X.calm=true) (hgl:Gl X "range") (hm:X.mg "range" = none) (ha:QA X [a,b] ts) (hg:QG X tg g) (hb:sS X body t)
  (hst:starEach [a,b] X.env=[(false,eval a X.env),(false,eval b X.env)]:=by rfl) (hst2:starEach [b] X.env=[(false,eval b X.env)]:=by rfl) (hs:∀x,M3 (.Call (.Name "range" p) [a,b] [] pos2) X.env x=pure x:=by intro _;rfl) :
  QS X (.For tg (.Call (.Name "range" p) [a,b] [] pos2) body [] pos) (hU EV ts g t):=by
 refine⟨?_⟩;intro B σ F H env D rp h;refine dD (oe hp hc (Bu hgl hm iO hst hst2) vf eN hs) ?_;refine cw (ha B σ F H env _ rp h) fun vs H1 hq0=>?_;obtain⟨F1,ds,r1,s1,d1,q1⟩:=hq0
 (try dsimp only at q1);unfold EV at q1
 split at q1
 ·simp only [aj,Den] at d1;obtain⟨v,r,rfl,rfl,v',r',rfl,rfl,rfl⟩:=d1;exact⟨_,_,rfl,q1.1,xy hg hb r1 q1.2⟩
 ·exact q1.elim
def RF (X:Cx) (B:Base) (σ:St) (env:En) (F:Hp) (Q:List D→Prop):VK:=fun v H'=>∃F' H1 p vs ds,v=.ref p∧H1 p=none∧H'=upd H1 p (.lst vs)∧Rep X.K B F' H1 σ env∧ao F F'∧aj X.K F' ds vs∧Q ds
structure QF (X:Cx) (e:Expr) (t:ft):Prop where
 of ::
 run:∀(B:Base) (σ:St) (F H:Hp) (env:En) (Q:List D→Prop),Rep X.K B F H σ env→t env Q→wE X e σ H (RF X B σ env F Q)
instance {X:Cx} {e:Expr} {t:ft}:CoeFun (QF X e t) (fun _=>∀(B:Base) (σ:St) (F H:Hp) (env:En) (Q:List D→Prop),Rep X.K B F H σ env→t env Q→wE X e σ H (RF X B σ env F Q)):=⟨QF.run⟩
def o3 (ts:ft):ft:=fun env Q=>ts env fun xs=>xs.length≤sizeLine∧Q xs
theorem n8 (h:QA X es ts):QF X (.List es pos) (o3 ts):=by
 refine⟨?_⟩;intro B σ F H env Q rp hq;refine b8 (ya iO) ?_;exact cw (h B σ F H env _ rp hq) fun vs H1 ⟨F1,ds,r1,s1,d1,z,q1⟩=>⟨by rw [← d1.length];exact z,fun p hp=>⟨F1,H1,p,vs,ds,rfl,hp,rfl,r1,s1,d1,q1⟩⟩
def cV (i:Nat) (ts:ft):bS:=fun D env=>ts env fun xs=>D.nx (env.set i (some (.own xs)))
theorem fD {x:Str} {pos':Pos} (i:Nat) (hN:X.N.Nodup) (he:QF X e ts) (hi:X.N[i]?=some x:=by rfl) (hx:Loc X.env.scope x:=by first | exact Or.inl rfl | exact Or.inr rfl) (hs:swapsWith e (some (.Name x pos')) pos.line X.env=pure false:=by rfl)
  (hf:X.fn x=true∨X.env.scope.names.lookup x=some .local:=by first | exact .inl rfl | exact .inr rfl):QS X (.Assign [.Name x pos'] e pos) (cV i ts):=by
 refine⟨?_⟩;intro B σ F H env D rp h pins s I;refine nU (i:=i) hN hi hx bH hs hf pins s σ H _ I ?_;refine aA (he B σ F H env _ rp h) fun v H' hq0=>?_;obtain⟨F1,H1,p,vs,ds,e1,hp,e2,r1,s1,d1,q1⟩:=hq0;subst e1 e2;refine⟨F1,_,r1.Cb hp d1 ?_,q1⟩;rw [I.len];exact (Mi.mp hi).1
def dE (i:Nat) (te:TD):bS:=fun D env=>∃xs,env[i]?=some (some (.own xs))∧xs.length < sizeLine∧te env fun x=>D.nx (env.set i (some (.own (xs ++ [x]))))
theorem iG {x:Str} {px apos cpos:Pos} (i:Nat) (he:QE X e ta) (hN:X.N[i]?=some x:=by rfl) (hv:qJ X.env.scope x:=by first | exact Or.inl rfl | exact Or.inr (Or.inl rfl) | exact Or.inr (Or.inr rfl)) (hd:(x == ("__debug__" : Str))=false:=by decide) (hcd:(x == ("__classdict__" : Str))=false:=by decide)
  (hbase:attributeBase (.Name x px) "append" X.env (eval (.Name x px) X.env)=eval (.Name x px) X.env:=by rfl)
  (hfew:((backTo cpos (starEach [e] X.env)).all (fun x=>!x.1) && (backToKw cpos (keywordEach [] X.env)).all (fun x=>x.1.isSome)
   && decide (([e]:List Expr).length + ([]:List Keyword).length + (if ([]:List Keyword).isEmpty then 0 else 1) < 30))=true:=by rfl)
  (hline:(apos.endLine == cpos.line)=true:=by rfl) (hst:starEach [e] X.env=(false,eval e X.env) :: starEach [] X.env:=by exact bq rfl) (hplain:(backTo cpos (starEach ([]:List Expr) X.env)).any (·.1)=false:=by rfl)
  (hs:swapsWith (.Call (.Attribute (.Name x px) "append" apos) [e] [] cpos) none pos.line X.env=pure false:=by rfl) :
  QS X (.Expr (.Call (.Attribute (.Name x px) "append" apos) [e] [] cpos) pos) (dE i ta):=by
 refine⟨?_⟩;intro B σ F H env D rp h;refine dD (qf (Af PySem.F.plainAttrs_list PySem.F.slot_list_append PySem.F.type_list_append tM (cv hN hv hd hcd) (fT bH ig hst) hbase hfew hline hst hplain) hs) ?_;obtain⟨xs,hx,hl,h⟩:=h;obtain⟨p,vs,h1,h2,h3,h4,h5⟩:=rp.ov i xs hx;refine⟨.ref p,h1,.inl ⟨rfl,vs,fU.of h2⟩,?_⟩;refine aA (he B σ F H env _ rp h) fun y H1 hq0=>?_;obtain⟨F1,d,r1,s1,d1,q1⟩:=hq0;obtain⟨p',vs',g1,g2,g3,g4,g5⟩:=r1.ov i xs hx
 rw [h1] at g1;cases g1;exact⟨p,vs',y,rfl,rfl,g2,by rw [← g5.length];exact hl,F1,_,r1.change hx h1 (g5.append (aM d1 aO)),q1⟩
end
abbrev Fw:=List D→(D→Prop)→Prop
def Ij (K:Mn) (f:Fw):Sp:=fun vs H Q _=>∃(F:Hp) (ds:List D) (P:D→Prop),ao F H∧aj K F ds vs∧f ds P ∧
 ∀(d:D) (v:V) (F' H':Hp),ao F F'→ao H H'→ao F' H'→(∀p,H p≠none→F p=none→F' p=none)→Den K F' d v→P d→Q v H'
structure Known (P:Program) (w:World) (K:Mn) (mg:Str→Option Value) (base:Heap) (k:Nat) (x:Str) (f:Fw):Prop where
 ex:∃(fa:Addr) (fd:FuncData) (ps:List Str),kW P w K mg base vJ k fa fd ps (Ij K f)∧mg x=some (.ref fa)∧PySem.W.keepIn K (.ref fa)=true∧Binds K fd ps []
def aD (N:List Str) (ds:List D):En:=ds.map (fun d=>some (Lo.d d)) ++ List.replicate (N.length - ds.length) none
section
variable {X:Cx} {e:Expr} {es:List Expr} {ts:ft} {p pos:Pos} {x:Str} {k:Nat} {f:Fw}
theorem aW (h:Known X.prog X.w X.K X.mg X.base k x f) (hr:dG k X.A) (ha:QA X (e :: es) ts) (hg:Gl X x:=by rfl) (hdb:(x == ("__debug__" : Str))=false:=by decide)
  (he:starEach (e :: es) X.env=(false,eval e X.env) :: starEach es X.env:=by exact bq rfl) (hpl:(backTo pos (starEach es X.env)).any (·.1)=false:=by rfl):QE X (.Call (.Name x p) (e :: es) [] pos) (az f ts):=by
 refine⟨?_⟩;intro B σ F H env Q rp hq;obtain⟨fa,fd,ps,G,hm,hk,hb⟩:=h.ex;refine b8 (Et G hr hg hm hk hb .nil zR iO hdb he hpl) ?_;refine cw (ha B σ F H env _ rp hq) fun vs H1 hq0=>?_;obtain⟨F1,ds,r1,s1,d1,hf⟩:=hq0;rw [Nf];exact⟨F1,ds,Q,r1.fh,d1,hf,fun d v F' H' a b c n hd q=>⟨F',d,r1.ext a c b n,s1.trans a,hd,q⟩⟩
end
theorem rq {K:Mn} {F H:Hp} {N:List Str} {ds:List D} {vs:List V} (fh:ao F H) (hd:aj K F ds vs) :
  Rep K ⟨F,H,fun p=>H p≠none∧F p=none,fun _ h=>h.1⟩ F H (start N vs) (aD N ds):=by
 have noown:∀(i:Nat) ys,(aD N ds)[i]?=some (some (.own ys))→False:=fun i ys q=>by
  unfold aD at q
  by_cases hi:i < ds.length
  ·rw [MC (by simpa using hi),Ms] at q;rw [Mm hi] at q;cases q
  ·rw [MF (by simpa using hi),M8] at q
   split at q <;> cases q
 have nodic:∀(i:Nat) ys,(aD N ds)[i]?=some (some (.dic ys))→False:=fun i ys q=>by
  unfold aD at q
  by_cases hi:i < ds.length
  ·rw [MC (by simpa using hi),Ms] at q;rw [Mm hi] at q;cases q
  ·rw [MF (by simpa using hi),M8] at q
   split at q <;> cases q
 refine⟨ao.refl _,fh,ao.refl _,fun p h=>h.2,fun i x q=>?_,fun i ys q=>(noown i ys q).elim,fun i j xs ys p _ q=>(noown i xs q).elim,fun i ys q=>(nodic i ys q).elim,fun i j xs ys p _ q=>(nodic i xs q).elim⟩;unfold aD at q
 by_cases hi:i < ds.length
 ·rw [MC (by simpa using hi),Ms] at q;rw [Mm hi] at q;cases q;obtain⟨v,h1,h2⟩:=hd.get (Mm hi);refine⟨v,?_,h2⟩;unfold start;rw [MC (by rw [My,← hd.length];exact hi),Ms,h1];rfl
 ·rw [MF (by simpa using hi),M8] at q
  split at q <;> cases q
section
variable {P:Program} {w:World} {K:Mn} {mg:Str→Option Value} {base:Heap}
theorem pU.Hj {x qual:Str} {st:Stmt} {fa:Addr} {fd:FuncData} {N ps:List Str} {k:Nat} {f:Fw} (F:pU K x qual st fa fd) (S:aI N ps (ak st))
  (hl:∀ds Q,f ds Q→ds.length=ps.length)
  (hbody:∀(cdv:Value) (A:Around) (outer:List Env) (s:Shared) (H:Hp) (E:XK),dG k (A.deeper (envOfC qual (ak st) s.heap.objs.size fa cdv)) →
   ∃t,sS (nA vJ P w K mg base N qual (ak st) fa cdv A outer s H E).BF (cA st) t∧∀ds (Q:D→Prop),f ds Q→t { nx:=fun _=>Q .non,rt:=Q } (aD N ds)) :
  kW P w K mg base vJ (k + 1) fa fd ps (Ij K f):=by
 refine F.ok S (fun vs H Q E h=>?_) (fun cdv A outer s H vs Q E hr h=>?_)
 ·obtain⟨F0,ds,P,_,hd,hf,_⟩:=h;rw [← hd.length];exact hl ds _ hf
 ·obtain⟨F0,ds,P,fh,hd,hf,kk⟩:=h;obtain⟨t,ht,hq⟩:=hbody cdv A outer s H E hr;refine⟨_,eN,?_⟩;have core:=ht _ (start N vs) F0 H (aD N ds) _ (rq fh hd) (hq ds P hf);refine d8 core (fun σ' H' ⟨F',env',r,q⟩=>?_) (fun v H' ⟨F',d',r,dd,q⟩=>?_) (fun _ _ ⟨_,_,_,q⟩=>q) (fun _ _ ⟨_,_,_,q⟩=>q)
  ·exact kk .non .non F' H' r.f0 r.h0 r.fh (fun p h1 h2=>r.nf p ⟨h1,h2⟩) qo q
  ·exact kk d' v F' H' r.f0 r.h0 r.fh (fun p h1 h2=>r.nf p ⟨h1,h2⟩) dd q
theorem pU.known {x qual:Str} {st:Stmt} {fa:Addr} {fd:FuncData} {N ps:List Str} {k:Nat} {f:Fw} (F:pU K x qual st fa fd) (S:aI N ps (ak st)) (hmg:mg x=some (.ref fa)) (hb:Binds K fd ps [])
  (hl:∀ds Q,f ds Q→ds.length=ps.length)
  (hbody:∀(cdv:Value) (A:Around) (outer:List Env) (s:Shared) (H:Hp) (E:XK),dG k (A.deeper (envOfC qual (ak st) s.heap.objs.size fa cdv)) →
   ∃t,sS (nA vJ P w K mg base N qual (ak st) fa cdv A outer s H E).BF (cA st) t∧∀ds (Q:D→Prop),f ds Q→t { nx:=fun _=>Q .non,rt:=Q } (aD N ds)) :
  Known P w K mg base (k + 1) x f:=⟨fa,fd,ps,pU.Hj F S hl hbody,hmg,F.kp,hb⟩
def BB (n:Nat):Fw:=fun ds Q=>∃ns:List Int,ds=[.lst (ns.map D.int)]∧ns.length≤n∧Q (.bl true)
theorem Ho {K:Mn} {H:Hp} {a:Addr} {ns:List Int} {n:Nat} (hl:ns.length≤n) (hS:fU K H a (ns.map V.int)):Ij K (BB n) [.ref a] H (fun v _=>v=.bl true) fun _ _ _=>False:=by
 refine⟨H,[.lst (ns.map D.int)],fun d=>d=.bl true,ao.refl _,aM (iZ hS (oN ns)) aO,⟨ns,rfl,hl,rfl⟩,fun d v F' H' _ _ _ _ hd q=>?_⟩;subst q
 simpa only [Den] using hd
end
section
variable {X:Cx} {a b c e:Expr} {es:List Expr} {ta tb tc:TD} {ts:ft} {pos:Pos} {st:Stmt} {sts:List Stmt} {t u:bS}
def ef (i:Nat) (t:bS):bS:=fun D env=>∃xs,env[i]?=some (some (.own xs))∧t D (env.set i (some (.d (.lst xs))))
theorem iJ (i:Nat) (h:QS X st t):QS X st (ef i t):=by
 refine⟨?_⟩;intro B σ F H env D rp hq;obtain⟨xs,hx,q⟩:=hq;obtain⟨F',s',r'⟩:=rp.freeze hx;exact h B σ F' H _ D r' q
def dq (i:Nat) (tj:TD):TD:=fun env Q=>∃xs,env[i]?=some (some (.own xs))∧tj env fun y=>∃j v,y=.int j∧lD xs j=some v∧Q v
theorem fj {x:Str} {px:Pos} (i:Nat) (hb:QE X b tb) (hs:mZ b) (hN:X.N[i]?=some x:=by rfl) (hv:qJ X.env.scope x:=by first | exact Or.inl rfl | exact Or.inr (Or.inl rfl) | exact Or.inr (Or.inr rfl)) (hd:(x == ("__debug__" : Str))=false:=by decide)
  (hcd:(x == ("__classdict__" : Str))=false:=by decide):QE X (.Subscript (.Name x px) b pos) (dq i tb):=by
 refine⟨?_⟩;intro B σ F H env Q rp h;refine b8 (zG zV (cv hN hv hd hcd) bH hs) ?_;obtain⟨xs,hx,h⟩:=h;obtain⟨p,vs,h1,h2,h3,h4,h5⟩:=rp.ov i xs hx;refine⟨.ref p,h1,?_⟩;refine aA (hb B σ F H env _ rp h) fun y H1 hq0=>?_;obtain⟨F1,d,r1,s1,d1,j,v,hj,hv,q1⟩:=hq0;subst hj;simp only [Den] at d1;obtain⟨p',vs',g1,g2,g3,g4,g5⟩:=r1.ov i xs hx;rw [h1] at g1;cases g1;obtain⟨w,hw,dw⟩:=g5.lD hv;exact⟨p,vs',j,w,rfl,d1,fU.of g2,hw,F1,v,r1,s1,dw,q1⟩
def sN (i:Nat) (tj te:TD):bS:=fun D env=>te env fun x=>∃xs,env[i]?=some (some (.own xs))∧tj env fun y=>∃(j:Int) (k:Nat),y=.int j∧vT xs.length j=some k∧D.nx (env.set i (some (.own (xs.set k x))))
theorem y9 {x:Str} {px p2:Pos} (i:Nat) (hb:QE X b tb) (he:QE X e ta) (hN:X.N[i]?=some x:=by rfl) (hv:qJ X.env.scope x:=by first | exact Or.inl rfl | exact Or.inr (Or.inl rfl) | exact Or.inr (Or.inr rfl)) (hd:(x == ("__debug__" : Str))=false:=by decide)
  (hcd:(x == ("__classdict__" : Str))=false:=by decide) (hs:swapsWithSole [.Subscript (.Name x px) b p2] e pos.line X.env=pure false:=by rfl) (hw:swappedStores [.Subscript (.Name x px) b p2] e X.env=pure none:=by rfl)
  (h1:(assignEach [.Subscript (.Name x px) b p2] X.env).map (·.2)=[assign (.Subscript (.Name x px) b p2) X.env]:=by rfl)
  (ha:∀v,assign (.Subscript (.Name x px) b p2) X.env v=(do
   let ov ← holding [v] (eval (.Name x px) X.env)
   let iv ← holding [v,ov] (eval b X.env)
   standAt p2
   holding [v,ov,iv] (setItem ov iv v)
   release [v,ov,iv] []):=by intro _;rfl):QS X (.Assign [.Subscript (.Name x px) b p2] e pos) (sN i tb ta):=by
 refine⟨?_⟩;intro B σ F H env D rp h;refine dD (uN bH (BJ (cv hN hv hd hcd) bH set_list ha) hs hw h1) ?_;refine aA (he B σ F H env _ rp h) fun y H1 hq0=>?_;obtain⟨F1,d,r1,s1,d1,xs,hx,q1⟩:=hq0;obtain⟨p,vs,g1,g2,g3,g4,g5⟩:=r1.ov i xs hx;refine⟨.ref p,g1,?_⟩;refine aA (hb B σ F1 H1 env _ r1 q1) fun z H2 hq0=>?_;obtain⟨F2,d2,r2,s2,dd2,j,k,hj,hk,q2⟩:=hq0;subst hj;simp only [Den] at dd2;obtain⟨p',vs',e1,e2,e3,e4,e5⟩:=r2.ov i xs hx
 rw [g1] at e1;cases e1;exact⟨p,vs',j,k,rfl,dd2,e2,by rw [← e5.length];exact hk,F2,_,r2.change hx g1 (e5.set (Den.mono s2 _ _ d1) k),q2⟩
end
def gY (names:List (Str×NameKind)) (cells:List (Str×Addr)) (acc:List (Str×Addr)):List (Str×Addr):=match names with
 | []=>acc
 | (n,k) :: r=>if k=.free then (match cells.lookup n with | some c=>gY r cells ((n,c) :: acc) | none=>gY r cells acc) else gY r cells acc
theorem gm {env:Env}:∀(names:List (Str×NameKind)) (acc:List (Str×Addr)),(∀y∈names,y.2=.free→∃c,env.cells.lookup y.1=some c) →
  (forIn names acc fun (x:Str×NameKind) r=>if (x.2 == NameKind.free)=true then (do let a ← cellOf env x.1;pure (ForInStep.yield ((x.1,a) :: r))) else pure (ForInStep.yield r):Sem (List (Str×Addr)))=pure (gY names env.cells acc)
 | [],acc,_=>rfl
 | (n,k) :: r,acc,h=>by
  rw [List.forIn_cons]
  by_cases hk:k=.free
  ·subst hk;obtain⟨c,hc⟩:=h (n,.free) MO rfl;have hc':env.cells.lookup n=some c:=hc;have ih:=gm r ((n,c) :: acc) fun y hy=>h y (MB _ hy);simp only [beq_self_eq_true,if_true,cellOf,hc',gY];exact ih
  ·have ih:=gm r acc fun y hy=>h y (MB _ hy);have hb:(k == NameKind.free)=false:=by simpa using hk
   simp only [hb,Mr,if_false,gY,Mo hk];exact ih
theorem tF {scope:Scope} {env:Env} (h:∀y∈scope.names,y.2=.free→∃c,env.cells.lookup y.1=some c):closureFor scope env=pure (gY scope.names env.cells []):=by
 have e:=gm (env:=env) scope.names [] h;have e2:closureFor scope env=((forIn scope.names ([]:List (Str×Addr)) fun (x:Str×NameKind) r=>if (x.2 == NameKind.free)=true then (do let a ← cellOf env x.1;pure (ForInStep.yield ((x.1,a) :: r))) else pure (ForInStep.yield r)) >>= fun cs=>pure cs):=rfl
 rw [e2,e];rfl
theorem iN {cells:List (Str×Addr)}:∀(names:List (Str×NameKind)) (acc:List (Str×Addr)),(∀x c,acc.lookup x=some c→cells.lookup x=some c)→∀x c,(gY names cells acc).lookup x=some c→cells.lookup x=some c
 | [],acc,h,x,c,q=>h x c q
 | (n,k) :: r,acc,h,x,c,q=>by
  unfold gY at q
  split at q
  ·split at q
   ·rename_i c' e;refine iN r _ (fun y d w=>?_) x c q;rw [List.lookup_cons] at w
    split at w
    ·rename_i z;have:y=n:=by simpa using z
     subst this;cases w;exact e
    ·exact h y d w
   ·exact iN r _ h x c q
  ·exact iN r _ h x c q
theorem mO {cells:List (Str×Addr)}:∀(names:List (Str×NameKind)) (acc:List (Str×Addr)) (x:Str),(acc.lookup x).isSome=true→((gY names cells acc).lookup x).isSome=true
 | [],acc,x,q=>q
 | (n,k) :: r,acc,x,q=>by
  unfold gY
  split
  ·split
   ·refine mO r _ x ?_;rw [List.lookup_cons]
    split
    ·rfl
    ·exact q
   ·exact mO r _ x q
  ·exact mO r _ x q
theorem m6 {cells:List (Str×Addr)}:∀(names:List (Str×NameKind)) (acc:List (Str×Addr)) (x:Str),(x,NameKind.free)∈names→(cells.lookup x).isSome=true→((gY names cells acc).lookup x).isSome=true
 | [],acc,x,h,_=>by simp at h
 | (n,k) :: r,acc,x,h,q=>by
  rcases MA.mp h with e | h
  ·cases e;unfold gY;rw [Mw rfl]
   split
   ·exact mO r _ _ (by rw [List.lookup_cons];simp)
   ·rename_i e;rw [e] at q;cases q
  ·unfold gY
   split
   ·split <;> exact m6 r _ x h q
   ·exact m6 r _ x h q
def aE (X:Cx) (N':List Str) (scope:Scope) (C:Addr) (s:Shared) (H:Hp) (fp:List Addr) (pins:List (Addr×Obj)):Cx :=
 { X with N:=N',s₀:=s,H₀:=H,env:=compEnvC scope (gY scope.names X.env.cells []) C X.env,outer:=X.stack,stack:=X.stack,ex:=fp,fn:=fun _=>false,pn:=X.pn ++ pins,xe:=fun _ _=>False }
structure bI (X:Cx) (N':List Str) (nt:Nat) (ix:List Nat) (scope:Scope):Prop where
 kind:scope.kind=.function
 nocell:∀x∈scope.names,x.2≠.cell
 names:∀x∈scope.names,x.2=.local→scope.names.lookup x.1=some .local
 free:∀x∈scope.names,x.2=.free→X.env.scope.names.lookup x.1=some .cell
 caps:∀(j:Nat) (i:Nat),ix[j]?=some i→∃x,N'[nt + j]?=some x∧X.N[i]?=some x∧(x,NameKind.free)∈scope.names∧(relabel scope X.env).names.lookup x=some .cell
 len:N'.length=nt + ix.length
section
variable {prog:Program} {w:World} {A:Around} {R:Result→Shared→Prop} {s:Shared}
theorem vK {elt target iter:Expr} {ifs:List Expr} {scope:Scope} {pos:Pos} {it acc:Value} {env:Env} (I:Nat→Shared→Prop)
  (turn:∀n s,I n s→wpAny (model prog w) A (pyNext it) (fun r s₁=>match r with
   | none=>R (.ok .next) s₁
   | some v=>wpAny (model prog w) A (letOwnedTupleGo target it v) (fun _ s₁'=>wpAny (model prog w) A (assign target env v) (fun _ s₂ =>
     wpAny (model prog w) A (forIn ifs true fun c r=>if r=true then do let ok ← isTrue c env (eval c env);pure (ForInStep.yield ok) else pure (ForInStep.yield r)) (fun ok s₃ =>
      if ok=true then wpAny (model prog w) A (eval elt env) (fun x s₄ =>
       wpAny (model prog w) A (call (.builtin "list.append") [acc,x]) (fun _ s₅=>∃m,m < n∧I m s₅) (fun _ _=>False) s₄) (fun _ _=>False) s₃
      else ∃m,m < n∧I m s₃) (fun _ _=>False) s₂) (fun _ _=>False) s₁') (fun _ _=>False) s₁) (fun _ _=>False) s)
  (n:Nat) (h:I n s) :
  codeAny (model prog w) A (.compLoop (.ListComp elt [⟨target,iter,ifs,0⟩] scope pos) 0 it acc env) R s:=by
 refine codeAny_loop rfl I (fun n s hI=>?_) n h;show wpAny _ A ((compTurn (.ListComp elt [⟨target,iter,ifs,0⟩] scope pos) 0 it acc env).onRaise (fun x=>do noteFrame x env;theTreesLotGoes x)) _ _ s
 refine wpAny_noted ?_;rw [compTurn_list];refine Mj (wpAny_standAt (Mj (Nd (turn n s hI) (fun r s₁ h₁=>?_) fun _ _ h'=>h'.elim)))
 cases r with
 | none=>exact Mp h₁
 | some v =>
  refine Mj (Nd h₁ (fun _ s₁' h₁'=>?_) fun _ _ h'=>h'.elim);refine Mj (Nd h₁' (fun _ s₂ h₂=>Mj (Nd h₂ (fun ok s₃ h₃=>?_) fun _ _ h'=>h'.elim)) fun _ _ h'=>h'.elim)
  cases ok with
  | false=>exact Mp ⟨rfl,h₃⟩
  | true =>
   exact Mj (Mj (Nd h₃ (fun x s₄ h₄=>Mj (Nd h₄ (fun _ s₅ h₅=>Mp (Mp ⟨rfl,h₅⟩)) fun _ _ h'=>h'.elim)) fun _ _ h'=>h'.elim))
end
def q0 (nt:Nat) (ix:List Nat) (σ:St):St:=List.replicate nt none ++ ix.map fun i=>(σ[i]?).join
theorem lookup_mem {α β:Type} [BEq α] [LawfulBEq α] {l:List (α×β)} {x:α} {y:β} (h:l.lookup x=some y):(x,y)∈l:=by
 induction l with
 | nil=>simp at h
 | cons p r ih =>
  obtain⟨a,b⟩:=p;rw [List.lookup_cons] at h
  split at h
  ·rename_i e;have:x=a:=by simpa using e
   subst this;cases h;exact MO
  ·exact MB _ (ih h)
section
variable {X:Cx} {pins:List (Addr×Obj)} {σ:St} {H:Hp} {s:Shared} {N':List Str} {nt:Nat} {ix:List Nat} {scope:Scope}
theorem pw {x:Str} {k:NameKind} (h:(x,k)∈(relabel scope X.env).names):(x,k)∈scope.names∨((x,NameKind.free)∈scope.names∧k=.cell):=by
 unfold relabel at h;obtain⟨⟨n,k'⟩,hm,e⟩:=MT.mp h;dsimp only at e
 split at e
 ·rename_i hc;cases e;simp only [Bool.and_eq_true,beq_iff_eq] at hc;exact .inr ⟨by rw [← hc.1.1];exact hm,rfl⟩
 ·cases e;exact .inl hm
theorem qP (I:Inv X pins σ H s) (O:bI X N' nt ix scope) {fp:List Addr} (hf:∀b∈fp,mi X pins H b) (hlt:∀b∈fp,b < s.heap.objs.size) {h1:Heap} {tk:Nat}
  (hns:h1.Ns s.heap.objs.size (fun _=>none)) (hsb:∀b o,s.heap.get? b=some o→h1.get? b=some o) :
  Inv (aE X N' scope s.heap.objs.size s H fp pins) [] (q0 nt ix σ) H { s with heap:=h1,toks:=tk }:=by
 have cellsAt:∀x c,(gY scope.names X.env.cells []).lookup x=some c→X.env.cells.lookup x=some c:=fun x c q=>iN scope.names [] (fun y d w=>by simp at w) x c q;have clt:∀x c,X.env.cells.lookup x=some c→c < s.heap.objs.size:=fun x c e=>let ⟨_,q⟩:=I.cell x c e;q.lt
 refine⟨⟨I.ok.mod,O.kind,I.ok.glob,I.ok.blt,Mv _,fun x y c h1 h2=>I.ok.inj x y c (cellsAt _ _ h1) (cellsAt _ _ h2),fun x hx=>?_,fun x c h=>(by cases h),I.ok.hd,I.ok.frames,.inl rfl,fun b hb=>⟨MY (hlt b hb),fun x c e=>(hf b hb).2.2.2.2.1 x c (cellsAt _ _ e)⟩,I.bs,
   Ni I.ok.bsz I.sz,fun b o e hb=>?_,fun b hb z=>?_,I.stack,I.zE⟩,
  rfl,I.bare,Un.kept hsb,⟨_,hns,fun j x v e1 e2 e3=>?_⟩,fun x c e=>?_,I.hok.fresh (Mv _),fun x c e=>I.freeC x c (cellsAt _ _ e),fun p hp=>?_,I.hok.kept hsb,?_⟩
 ·
  have hx':((relabel scope X.env).names.lookup x=some .cell∨(relabel scope X.env).names.lookup x=some .free):=hx
  have key:(x,NameKind.free)∈scope.names:=by
   rcases hx' with h | h
   ·rcases pw (lookup_mem h) with q | q
    ·exact absurd rfl (O.nocell _ q)
    ·exact q.1
   ·rcases pw (lookup_mem h) with q | q
    ·exact q
    ·exact q.1
  obtain⟨c,hc⟩:=I.ok.has x (.inl (O.free _ key rfl));exact Option.isSome_iff_exists.mp (m6 scope.names [] x key (by rw [hc];rfl))
 ·rcases (hf b hb).2.2.2.1 with z | z
  ·exact I.ok.noex b o e z
  ·exact absurd (ME (ML (I.ok.bs b o e).1) z) (Nat.lt_irrefl _)
 ·rcases MA.mp (I.oH b z) with e | e
  ·exact (hf b hb).2.1 e
  ·exact (hf b hb).2.2.1 e
 ·
  unfold q0 at e2
  by_cases hj:j < nt
  ·rw [MC (by simpa using hj),M8] at e2
   split at e2 <;> cases e2
  ·rw [MF (by simpa using hj),Ms,List.length_replicate] at e2
   cases hi:ix[j - nt]? with
   | none=>rw [hi] at e2;cases e2
   | some i =>
    rw [hi] at e2
    have hs:σ[i]?=some (some v):=by
     simp only [Option.map_some,Option.some.injEq] at e2
     cases q:σ[i]? with
     | none=>rw [q] at e2;cases e2
     | some o=>rw [q] at e2;simp only [Option.join] at e2;rw [show o=some v from e2]
    obtain⟨y,n1,n2,n3,n4⟩:=O.caps (j - nt) i hi;have hjj:nt + (j - nt)=j:=by omega
    rw [hjj] at n1;have e1':N'[j]?=some x:=e1;rw [n1] at e1';cases e1';obtain⟨m,hn,hl⟩:=I.loc;have hk:X.env.scope.names.lookup x=some .cell:=O.free _ n3 rfl;obtain⟨u,r,l⟩:=hl i x v n2 hs (.inr (.inl hk));refine⟨u,r,?_⟩;rcases l with ⟨k,_⟩ | ⟨_,c,ec,z⟩
    ·have k':X.env.scope.names.lookup x=some .local:=k;rw [hk] at k';cases k'
    ·have hc2:=Option.isSome_iff_exists.mp (m6 (cells:=X.env.cells) scope.names [] x n3 (by rw [ec];rfl));obtain⟨c2,hc2⟩:=hc2;have:=cellsAt x c2 hc2;rw [ec] at this;cases this;exact .inr ⟨.inl n4,c,hc2,z.keeps hsb⟩
 ·obtain⟨v,z⟩:=I.cell x c (cellsAt _ _ e);exact⟨v,z.keeps hsb⟩
 ·rw [Nf] at hp;obtain⟨e,n,ne,nf,d⟩:=I.pin p hp;refine⟨hsb _ _ e,n,MY (ML e),fun z=>?_,d⟩;rcases MA.mp (I.oH p.1 z) with q | q
  ·exact ne q
  ·exact nf q
 ·unfold q0;show _=N'.length
  rw [O.len,MW,List.length_replicate,My]
theorem wK (I:Inv X pins σ H s) {fp:List Addr} (hf:∀b∈fp,mi X pins H b) {σ':St} {H':Hp} {s':Shared} (J:Inv (aE X N' scope s.heap.objs.size s H fp pins) [] σ' H' s') {h':Heap} (hs:Heap.SameBut s.heap.objs.size s'.heap h') :
  Inv X pins σ H' { s' with heap:=h' }:=by
 have ne:∀b o,s.heap.get? b=some o→b≠s.heap.objs.size:=fun b o e=>MY (ML e);have jb:=J.base;refine I.JI (ch:=fp) J.os ⟨fun b o e n h1 h2=>(hs.2 b (ne b o e)).trans (jb.keep b o e n h1 h2),fun b o e n h1 h2=>?_,jb.free,fun b o e h2=>?_,jb.tups,jb.frzs,jb.tbls⟩ (fun b o e=>?_) J.bare fun b hb=>?_
 ·obtain⟨sl,q⟩:=jb.slot b o e n h1 h2;exact⟨sl,(hs.2 b (ne b o e)).trans q⟩
 ·obtain⟨o',q⟩:=jb.there b o e h2;exact⟨o',(hs.2 b (ne b o e)).trans q⟩
 ·have jf:H' s.heap.objs.size=none:=J.free;refine (J.hok b o e).yn (fun c u hc q=>(hs.2 c ?_).trans q) (fun _ q=>q) fun _ _ q=>q;intro z;subst z;rcases hc with z | z
  ·rw [← z,jf] at e;cases e
  ·rw [jf] at z;cases z
 ·obtain⟨f0,f1,f2,f3,f4,f5⟩:=hf b hb;exact⟨f3,f1,f4,f5⟩
end
def xV (X:Cx) (ifs:List Expr):TT:=fun σ H Q=>∀(pins:List (Addr×Obj)) (s:Shared),Inv X pins σ H s →
 wpAny (model X.prog X.w) X.A (forIn ifs true fun c r=>if r=true then do let ok ← isTrue c X.env (eval c X.env);pure (ForInStep.yield ok) else pure (ForInStep.yield r)) (TP X pins σ Q) (fun _ _=>False) s
def Gm (X:Cx) (N':List Str) (nt:Nat) (ix:List Nat) (scope:Scope) (elt target:Expr) (ifs:List Expr) (wi:TI):TE:=fun σ H Q=>wi σ H fun J H1=>∀(a C:Addr) (s:Shared) (fp:List Addr) (pins:List (Addr×Obj)),H1 a=none →
 ∃W:Nat→Nat→St→Hp→Prop,(∃m,W 0 m (q0 nt ix σ) (upd H1 a (.lst [])))∧∀i m σ' H',W i m σ' H'→(J.stop i H'∧Q (.ref a) H')∨(J.go i H'∧∀x H2,J.yld i H' x H2 →
  wG (aE X N' scope C s (upd H1 a (.lst [])) fp pins) target x σ' H2 fun σ2 H3=>xV (aE X N' scope C s (upd H1 a (.lst [])) fp pins) ifs σ2 H3 fun ok H4=>if ok=true then
   wE (aE X N' scope C s (upd H1 a (.lst [])) fp pins) elt σ2 H4 fun y H5=>∃ys,H5 a=some (.lst ys)∧ys.length < sizeLine∧∃m',m' < m∧W (i + 1) m' σ2 (upd H5 a (.lst (ys ++ [y])))
   else ∃m',m' < m∧W (i + 1) m' σ2 H4)
section
variable {X:Cx} {N':List Str} {nt:Nat} {ix:List Nat} {scope:Scope}
theorem bI.Hq {pins:List (Addr×Obj)} {σ:St} {H:Hp} {s:Shared} (O:bI X N' nt ix scope) (I:Inv X pins σ H s):closureFor scope X.env=pure (gY scope.names X.env.cells []) :=
 tF fun y hy hk=>I.ok.has y.1 (.inl (O.free y hy hk))
theorem vX {elt target iter:Expr} {ifs:List Expr} {pos:Pos} {pins:List (Addr×Obj)} {σ:St} {s2:Shared} {Q:VK} {R:It→Hp→Prop} {itv:Value} {RR:Value→Addr→Result→Shared→Prop} (hc:X.calm=true) (O:bI X N' nt ix scope)
  (h2:JA X pins σ target R itv s2)
  (hR:∀J H1,R J H1→∀(a C:Addr) (s:Shared) (fp:List Addr) (pins:List (Addr×Obj)),H1 a=none →
   ∃W:Nat→Nat→St→Hp→Prop,(∃m,W 0 m (q0 nt ix σ) (upd H1 a (.lst [])))∧∀i m σ' H',W i m σ' H'→(J.stop i H'∧Q (.ref a) H')∨(J.go i H'∧∀x H2,J.yld i H' x H2 →
    wG (aE X N' scope C s (upd H1 a (.lst [])) fp pins) target x σ' H2 fun σ2 H3=>xV (aE X N' scope C s (upd H1 a (.lst [])) fp pins) ifs σ2 H3 fun ok H4=>if ok=true then
     wE (aE X N' scope C s (upd H1 a (.lst [])) fp pins) elt σ2 H4 fun y H5=>∃ys,H5 a=some (.lst ys)∧ys.length < sizeLine∧∃m',m' < m∧W (i + 1) m' σ2 (upd H5 a (.lst (ys ++ [y])))
     else ∃m',m' < m∧W (i + 1) m' σ2 H4))
  (hRR:∀(a C:Addr) (H':Hp) (s6:Shared) (m:Str→Option Value),Q (.ref a) H'→s6.heap.Ns C m→H' C=none→C≠X.env.locals→X.s₀.heap.objs.size≤C→(∀x c,X.env.cells.lookup x=some c→c≠C)→(∀p∈X.pn ++ pins,p.1≠C) →
   (∀h',Heap.SameBut C s6.heap h'→Inv X pins σ H' { s6 with heap:=h' })→RR (.ref a) C (.ok .next) s6) :
  wpAny (model X.prog X.w) X.A (newList []) (fun acc s3=>wpAny (model X.prog X.w) X.A (newFunctionEnv scope X.env.globals (gY scope.names X.env.cells []) [] X.env.qual none .none (some X.env)) (fun cenv s4 =>
   codeAny (model X.prog X.w) X.A (.compStart (.ListComp elt [⟨target,iter,ifs,0⟩] scope pos) 0 itv acc { cenv with scope:=relabel scope X.env }) (RR acc cenv.locals) s4) X.xe s3) X.xe s2:=by
 obtain⟨it,fp,tn,J,H2,e,I2,T,st2,f2,hq0⟩:=h2;have hq:=hR J H2 hq0;subst e;have hlt2:∀b∈fp,b < s2.heap.objs.size:=fun b hb=>let ⟨o,e,_⟩:=T.obj _ _ st2 b hb;ML e
 refine wpAny_newObj_type ?_;generalize hs3:({ s2 with heap:=s2.heap.push { cls:=.type "list",dict:=none,data:=.seq ([]:List Value).toArray } }:Shared)=s3
 have k3:∀b o,s2.heap.get? b=some o→s3.heap.get? b=some o:=fun b o e=>by rw [← hs3];exact Mz _ e
 have ha:H2 s2.heap.objs.size=none:=I2.hok.fresh (Mv _)
 have I3:Inv X pins σ (upd H2 s2.heap.objs.size (.lst [])) s3:=by
  rw [← hs3];exact I2.laid (t':=s2.toks) (fun b u e=>Mz _ e) (Mv _) ⟨Nc _,[],0,.nil,MM _ rfl⟩
 have f3:∀b∈fp,mi X pins (upd H2 s2.heap.objs.size (.lst [])) b:=fun b hb=>⟨by rw [aq (MY (hlt2 b hb))];exact (f2 b hb).1,(f2 b hb).2⟩;have st3:tn 0 s3.heap:=T.keep _ _ _ st2 fun b hb o e=>k3 b o e;have hlt3:∀b∈fp,b < s3.heap.objs.size:=fun b hb=>let ⟨o,e,_⟩:=T.obj _ _ st3 b hb;ML e
 refine wpAny_newFunctionEnv O.nocell (by intro y hy;simp at hy) (fun h1 hns hsb=>?_) O.kind;have k4:∀b o,s3.heap.get? b=some o→h1.get? b=some o:=fun b o e=>(hsb.2 b (MY (ML e))).trans (Mz _ e);have I4:=qP (tk:=s3.toks + ([]:List (Str×Value)).length) I3 O f3 hlt3 hns k4;have st4:tn 0 h1:=T.keep _ _ _ st3 fun b hb o e=>k4 b o e;obtain⟨W,⟨m0,w0⟩,turn⟩:=hq s2.heap.objs.size s3.heap.objs.size s3 fp pins ha
 have fr3:∀b∈fp,(upd H2 s2.heap.objs.size (.lst [])) b=none:=fun b hb=>(f3 b hb).1
 have stat:∀{H':Hp},(∀b∈fp,H' b=none)→∀b∈fp,mi (aE X N' scope s3.heap.objs.size s3 (upd H2 s2.heap.objs.size (.lst [])) fp pins) [] H' b:=fun {H'} hn b hb=>by
  refine⟨hn b hb,MY (hlt3 b hb),fun z=>?_,.inl hb,fun x c e=>(f3 b hb).2.2.2.2.1 x c (iN scope.names [] (fun y d w=>by simp at w) x c e),fun p hp=>?_⟩
  ·rcases MA.mp (I3.oH b z) with q | q
   ·exact (f3 b hb).2.1 q
   ·exact (f3 b hb).2.2.1 q
  ·rw [Nf] at hp;exact (f3 b hb).2.2.2.2.2 p hp
 generalize hX:aE X N' scope s3.heap.objs.size s3 (upd H2 s2.heap.objs.size (.lst [])) fp pins=X' at I4 turn stat;have eP:X'.prog=X.prog:=by rw [← hX];rfl
 have eW:X'.w=X.w:=by rw [← hX];rfl
 have eK:X'.K=X.K:=by rw [← hX];rfl
 have eA:X'.A=X.A:=by rw [← hX];rfl
 have eC:X'.calm=true:=by rw [← hX];exact hc
 have eE:X'.env=compEnvC scope (gY scope.names X.env.cells []) s3.heap.objs.size X.env:=by rw [← hX];rfl
 have eX:X'.xe=fun _ _=>False:=by rw [← hX];rfl
 have loop:codeAny (model X.prog X.w) X.A (.compLoop (.ListComp elt [⟨target,iter,ifs,0⟩] scope pos) 0 (.ref it) (.ref s2.heap.objs.size) (compEnvC scope (gY scope.names X.env.cells []) s3.heap.objs.size X.env))
   (RR (.ref s2.heap.objs.size) s3.heap.objs.size) { s3 with heap:=h1,toks:=s3.toks + ([]:List (Str×Value)).length }:=by
  refine vK (fun n s'=>∃i σ' H',Inv X' [] σ' H' s'∧tn i s'.heap∧(∀b∈fp,H' b=none)∧W i n σ' H') ?_ m0 ⟨0,_,_,I4,st4,fr3,w0⟩
  rintro n s5 ⟨i,σ5,H5,I5,st5,fr5,w5⟩;rcases turn i n σ5 H5 w5 with ⟨stop,q⟩ | ⟨go,step⟩
  ·have:=T.done X' eP eW eK eC i [] s5 σ5 H5 (fun _ _=>False) I5 (stat fr5) st5 stop;rw [eA] at this;refine bU this fun r s6 ⟨hr,I6⟩=>?_;subst hr;obtain⟨m,hm,_⟩:=id I6.loc;rw [eE] at hm;have fre:H5 s3.heap.objs.size=none:=by have z:=I6.free;rw [eE] at z;exact z
   refine hRR _ _ H5 s6 m q hm fre (Nat.ne_of_gt I3.lt) I3.sz (fun x c e z=>?_) (fun p hp z=>?_) fun h' hsb'=>?_
   ·obtain⟨v,w⟩:=I3.cell x c e;exact absurd w.lt (by rw [z];exact Nat.lt_irrefl _)
   ·exact absurd (ML (I3.pin p hp).1) (by rw [z];exact Nat.lt_irrefl _)
   ·rw [← hX] at I6;exact wK I3 f3 I6 hsb'
  ·have:=T.item X' eP eW eK eC i [] s5 σ5 H5 (fun _ _=>False) I5 (stat fr5) st5 go;rw [eA] at this;refine bU this fun r s6 ⟨u,hr,h6⟩=>?_;subst hr;refine bU h6 fun _ s7 hq0=>?_;obtain⟨x,H7,I7,r7,y7,st7,fr7⟩:=hq0;have I7':=I7.pinned (stat fr7) (T.obj _ _ st7);have g7:=step x H7 y7 _ s7 u I7' r7;rw [eP,eW,eA,eE,eX] at g7;refine bU g7 fun _ s8 ⟨σ8,H8,I8,q8⟩=>?_;have t8:=q8 _ s8 I8;rw [eP,eW,eA,eE] at t8;refine bU t8 fun ok s9 ⟨H9,I9,q9⟩=>?_
   have back:∀{σz:St} {Hz:Hp} {sz:Shared} {m':Nat},Inv X' ([] ++ oP fp s7.heap) σz Hz sz→m' < n→W (i + 1) m' σz Hz→∃m,m < n∧∃i σ' H',Inv X' [] σ' H' sz∧tn i sz.heap∧(∀b∈fp,H' b=none)∧W i m σ' H':=fun {σz Hz sz m'} Iz hm wz=>by
    refine⟨m',hm,i + 1,σz,Hz,Iz.kf,T.keep _ _ _ st7 fun b hb o e=>(Iz.pin (b,o) (MX _ (MX _ (fN hb e)))).1,fun b hb=>?_,wz⟩;obtain⟨o,e,d⟩:=T.obj _ _ st7 b hb;exact (Iz.pin (b,o) (MX _ (MX _ (fN hb e)))).2.1
   cases ok with
   | false =>
    obtain⟨m',hm,w9⟩:=q9
    exact back I9 hm w9
   | true =>
    have e9:=q9 _ s9 I9;rw [eP,eW,eA,eE,eX] at e9;refine bU e9 fun uy s10 hq0=>?_;obtain⟨y,H10,I10,r10,ys,hys,hl,m',hm,w10⟩:=hq0;have ap:=tM (X:=X') _ s10 σ8 H10 (.ref s2.heap.objs.size) [y] (.ref s2.heap.objs.size) [uy] (fun _ H'=>H'=upd H10 s2.heap.objs.size (.lst (ys ++ [y]))) I10 rfl (.cons r10 .nil) ⟨_,ys,y,rfl,rfl,hys,hl,rfl⟩;rw [eP,eW,eA,eX] at ap;refine bU ap fun _ s11 hq0=>?_;obtain⟨_,H11,I11,_,q11⟩:=hq0
    have q11':H11=upd H10 s2.heap.objs.size (.lst (ys ++ [y])):=q11;subst q11';exact back I11 hm w10
 exact codeAny_compStart_list loop (T.self _ _ _ _ _ st4 loop)
theorem zA {elt target iter:Expr} {ifs:List Expr} {pos:Pos} {wi:TI} (hc:X.calm=true) (hi:PI X target iter wi) (O:bI X N' nt ix scope) (hs:∀x,M3 iter X.env x=pure x:=by intro _;rfl) :
  PE X (.ListComp elt [⟨target,iter,ifs,0⟩] scope pos) (Gm X N' nt ix scope elt target ifs wi):=by
 intro pins s σ H Q I h;rw [eval_ListComp];refine wpAny_comprehension_free (use:=none) rfl hs (O.Hq I) O.kind O.names ?_;refine bU (hi pins s σ H _ I h) fun v s1 h1=>bU h1 fun itv s2 h2=>?_;refine vX (Q:=Q) (RR:=fun acc C=>compPost (model X.prog X.w) X.A X.xe none (EP X pins σ Q) acc C) hc O h2 (fun J H1 z=>z) ?_;intro a C H' s6 m q hm _ _ _ _ _ hI;exact⟨m,hm,fun h' hsb=>⟨.ref a,H',hI h' hsb,rfl,q⟩⟩
theorem iX {elt target iter:Expr} {ifs:List Expr} {pos spos py:Pos} {y:Str} {i:Nat} {wi:TI} (hc:X.calm=true) (hi:PI X target iter wi) (O:bI X N' nt ix scope) (hN:X.N.Nodup) (hy:X.N[i]?=some y) (hx:Loc X.env.scope y)
  (hsw:swapsWith (.ListComp elt [⟨target,iter,ifs,0⟩] scope pos) (some (.Name y py)) spos.line X.env=pure true)
  (hf:X.fn y=true∨X.env.scope.names.lookup y=some .local) (hs:∀x,M3 iter X.env x=pure x:=by intro _;rfl) :
  PS X (.Assign [.Name y py] (.ListComp elt [⟨target,iter,ifs,0⟩] scope pos) spos) (fun D=>fun σ H=>Gm X N' nt ix scope elt target ifs wi σ H fun v H'=>D.nx (σ.set i (some v)) H'):=by
 intro pins s σ H D I h;rw [exec_Assign_Name_used _ _ _ _ hsw];refine Mj (wpAny_standAt (Mj ?_));show wpAny _ X.A (do let _ ← comprehension (.ListComp elt [⟨target,iter,ifs,0⟩] scope pos) scope X.env _ (newList []) false (eval iter X.env) (some (assign (.Name y py) X.env))) _ _ s
 refine Mj (Nd (wpAny_comprehension_free (use:=some (assign (.Name y py) X.env)) (Q:=fun _ s'=>SP X pins D .next s') rfl hs (O.Hq I) O.kind O.names ?_) (fun _ s' hq=>Mp (Mp hq)) fun _ _ e=>e);refine bU (hi pins s σ H _ I h) fun v s1 h1=>bU h1 fun itv s2 h2=>?_;refine vX (Q:=fun v H'=>D.nx (σ.set i (some v)) H') (RR:=fun acc C=>compPost (model X.prog X.w) X.A X.xe (some (assign (.Name y py) X.env)) (fun _ s'=>SP X pins D .next s') acc C) hc O h2 (fun J H1 z=>z) ?_
 intro a C H' s6 m q hm hC n1 n2 n3 n4 hI;have I6:Inv X pins σ H' s6:=hI s6.heap (.refl ..);show wpAny _ X.A (assign (.Name y py) X.env (.ref a)) _ _ _
 refine wpAny_assign_Name (tZ I6 hN hy hx (v:=.ref a) rfl (fun s7 I7 hsame=>?_) hf);obtain⟨b,hb,hbx⟩:=hsame
 have hne:C≠b:=by
  rcases hbx with e | e
  ·rw [e];exact n1
  ·exact Ne.symm (n3 y b e)
 refine⟨m,hm.sameBut hb hne,fun h' hsb=>⟨_,H',?_,q⟩⟩;exact I7.turned (t':=s7.toks) (fun c o hc' e=>(hsb.2 c hc').trans e) hC n1 (.inr n2) n3 n4
end
def cp (nt:Nat) (ix:List Nat) (env:En):En:=List.replicate nt none ++ ix.map fun i=>match env[i]? with
 | some (some (.d x))=>some (.d x)
 | _=>none
theorem cQ {nt:Nat} {ix:List Nat} {env:En} (i:Nat) (ys:List D):(cp nt ix env)[i]?≠some (some (.own ys)):=fun q=>by
 unfold cp at q
 by_cases hj:i < nt
 ·rw [MC (by simpa using hj),M8] at q
  split at q <;> cases q
 ·rw [MF (by simpa using hj),Ms] at q
  cases e:ix[i - (List.replicate nt (none:Option Lo)).length]? with
  | none=>rw [e] at q;cases q
  | some k =>
   rw [e] at q;simp only [Option.map_some,Option.some.injEq] at q
   split at q <;> cases q
theorem cR {nt:Nat} {ix:List Nat} {env:En} (i:Nat) (ys:List (D×D)):(cp nt ix env)[i]?≠some (some (.dic ys)):=fun q=>by
 unfold cp at q
 by_cases hj:i < nt
 ·rw [MC (by simpa using hj),M8] at q
  split at q <;> cases q
 ·rw [MF (by simpa using hj),Ms] at q
  cases e:ix[i - (List.replicate nt (none:Option Lo)).length]? with
  | none=>rw [e] at q;cases q
  | some k =>
   rw [e] at q;simp only [Option.map_some,Option.some.injEq] at q
   split at q <;> cases q
def Base.here (F H:Hp):Base:=⟨F,H,fun p=>H p≠none∧F p=none,fun _ h=>h.1⟩
theorem zY {K:Mn} {B:Base} {F H:Hp} {σ:St} {env:En} {nt:Nat} {ix:List Nat} {a:Addr} {o:HO} (r:Rep K B F H σ env) (ha:H a=none):Rep K (Base.here F H) F (upd H a o) (q0 nt ix σ) (cp nt ix env):=by
 refine⟨ao.refl _,r.fh.trans (cu ha),cu ha,fun p h=>h.2,fun j x q=>?_,fun j ys q=>(cQ j ys q).elim,fun i j xs ys p _ q=>(cQ i xs q).elim,fun j ys q=>(cR j ys q).elim,fun i j xs ys p _ q=>(cR i xs q).elim⟩;unfold cp at q
 by_cases hj:j < nt
 ·rw [MC (by simpa using hj),M8] at q
  split at q <;> cases q
 ·rw [MF (by simpa using hj),Ms,List.length_replicate] at q
  cases e:ix[j - nt]? with
  | none=>rw [e] at q;cases q
  | some k =>
   rw [e] at q;simp only [Option.map_some,Option.some.injEq] at q
   split at q
   ·rename_i x' h';cases q;obtain⟨v,h1,h2⟩:=r.dv k x h';refine⟨v,?_,h2⟩;unfold q0;rw [MF (by simpa using hj),Ms,List.length_replicate,e];simp only [Option.map_some,h1,Option.join];rfl
   ·cases q
theorem Rep.here {K:Mn} {B:Base} {F H:Hp} {σ:St} {env:En} (r:Rep K B F H σ env) (no:∀(i:Nat) ys,env[i]?≠some (some (.own ys))) (no':∀(i:Nat) ys,env[i]?≠some (some (.dic ys))):Rep K (Base.here F H) F H σ env :=
 ⟨ao.refl _,r.fh,ao.refl _,fun p h=>h.2,r.dv,fun i ys q=>(no i ys q).elim,fun i j xs ys p _ q=>(no i xs q).elim,fun i ys q=>(no' i ys q).elim,fun i j xs ys p _ q=>(no' i xs q).elim⟩
theorem Rep.there {K:Mn} {B:Base} {F H F' H':Hp} {σ:St} {env gv:En} (r:Rep K (Base.here F H) F' H' σ env) (f0:ao B.F F) (h0:ao B.H H) (nf:∀p,B.N p→F p=none) (he:∀(i:Nat) l,gv[i]?=some (some l)→env[i]?=some (some l)) (no:∀(i:Nat) ys,gv[i]?≠some (some (.own ys))) (no':∀(i:Nat) ys,gv[i]?≠some (some (.dic ys))):Rep K B F' H' σ gv:=by
 refine⟨f0.trans r.f0,r.fh,h0.trans r.h0,fun p hp=>?_,fun i x q=>r.dv i x (he i _ q),fun i ys q=>(no i ys q).elim,fun i j xs ys p _ q=>(no i xs q).elim,fun i ys q=>(no' i ys q).elim,fun i j xs ys p _ q=>(no' i xs q).elim⟩;refine r.nf p ⟨fun z=>?_,nf p hp⟩;have q:=B.nb p hp
 cases w:B.H p with
 | none=>exact q w
 | some o=>rw [h0 _ _ w] at z;cases z
structure rg (K:Mn) (J:It) (F1:Hp) (xs:List D):Prop where
 go:∀(i:Nat) (G H':Hp),ao F1 G→ao G H'→i < xs.length→J.go i H'
 yld:∀(i:Nat) (G H':Hp) (y:V) (H'':Hp) (x:D),ao F1 G→ao G H'→xs[i]?=some x→J.yld i H' y H''→H''=H'∧Den K G x y
 stop:∀(G H':Hp),ao F1 G→ao G H'→J.stop xs.length H'
theorem yz {K:Mn} {F1:Hp} {a:Addr} {vs:List V} {xs:List D} (q:fU K F1 a vs) (r:aj K F1 xs vs):rg K (Kz K a) F1 xs where
 go:=fun i G H' s1 s2 hi=>by
  have:i < vs.length:=by rw [← r.length];exact hi
  exact⟨vs,vs[i],s2.seq (s1.seq q),by simp [this]⟩
 yld:=fun i G H' y H'' x s1 s2 hx hy=>by
  obtain⟨v,h1,h2⟩:=r.get hx;obtain⟨e1,e2⟩:=hy;have:=e2 vs (s2.seq (s1.seq q));rw [h1] at this;cases this;exact⟨e1,Den.mono s1 _ _ h2⟩
 stop:=fun G H' s1 s2=>⟨vs,s2.seq (s1.seq q),by rw [r.length];exact Mv _⟩
theorem Az {K:Mn} {F1:Hp} {a:Addr} {vs:List V} {xs:List D} (q:jv K F1 a vs) (r:aj K F1 xs vs):rg K (Kx K a) F1 xs where
 go:=fun i G H' s1 s2 hi=>by
  have:i < vs.length:=by rw [← r.length];exact hi
  exact⟨vs,vs[i],ao.cT s2 (ao.cT s1 q),by simp [this]⟩
 yld:=fun i G H' y H'' x s1 s2 hx hy=>by
  obtain⟨v,h1,h2⟩:=r.get hx;obtain⟨e1,e2⟩:=hy;have:=e2 vs (ao.cT s2 (ao.cT s1 q));rw [h1] at this;cases this;exact⟨e1,Den.mono s1 _ _ h2⟩
 stop:=fun G H' s1 s2=>⟨vs,ao.cT s2 (ao.cT s1 q),by rw [r.length];exact Mv _⟩
theorem By {K:Mn} {F1:Hp} {z:Str}:rg K (Kc z) F1 (l9 z) where
 go:=fun i G H' s1 s2 hi=>by
  show i < z.cps.size
  simpa [l9] using hi
 yld:=fun i G H' y H'' x s1 s2 hx hy=>by
  obtain⟨e1,c,hc,rfl⟩:=hy;unfold l9 at hx;rw [Ms,Nl,hc] at hx;cases hx;exact⟨e1,mI⟩
 stop:=fun G H' s1 s2=>by
  show z.cps.size≤_
  simp [l9]
theorem jT {K:Mn} {F1:Hp} {lo:Int} {n:Nat}:rg K (Du lo n) F1 (aN lo n) where
 go:=fun i G H' s1 s2 hi=>by
  have:i < n:=by simpa [aN] using hi
  exact this
 yld:=fun i G H' y H'' x s1 s2 hx hy=>by
  obtain⟨e1,e2⟩:=hy
  have hi:i < n:=by
   have:=(Mi.mp hx).1
   simpa [aN] using this
  have:(aN lo n)[i]?=some (D.int (lo + (i:Int))):=by simp [aN,hi]
  rw [this] at hx;cases hx;exact⟨e1,by rw [e2];exact bE⟩
 stop:=fun G H' s1 s2=>by
  have:(aN lo n).length=n:=by simp [aN]
  rw [this];exact Mv n
def comps (tt:TB) (te:TD) (gv:En) (Q:List D→Prop):List D→List D→Prop
 | [],acc=>Q acc
 | x :: xs,acc=>tt (gv.set 0 (some (.d x))) fun ok=>if ok=true then te (gv.set 0 (some (.d x))) fun y=>acc.length < sizeLine∧comps tt te gv Q xs (acc ++ [y]) else comps tt te gv Q xs acc
structure pV (X:Cx) (ifs:List Expr) (t:TB):Prop where
 of ::
 run:∀(B:Base) (σ:St) (F H:Hp) (env:En) (Q:Bool→Prop),Rep X.K B F H σ env→t env Q→xV X ifs σ H (RB X B σ env F Q)
instance {X:Cx} {ifs:List Expr} {t:TB}:CoeFun (pV X ifs t) (fun _=>∀(B:Base) (σ:St) (F H:Hp) (env:En) (Q:Bool→Prop),Rep X.K B F H σ env→t env Q→xV X ifs σ H (RB X B σ env F Q)):=⟨pV.run⟩
def cU:TB:=fun _ Q=>Q true
section
variable {X:Cx}
theorem cY:pV X [] cU:=⟨fun B σ F H env Q rp h pins s I=>wpAny_tests_nil ⟨H,I,F,rp,ao.refl _,h⟩⟩
variable {N':List Str} {nt:Nat} {ix:List Nat} {scope:Scope} {elt iter a b:Expr} {ifs:List Expr} {x:Str} {px pos:Pos} {tt:TB} {te ti:TD} {ts:ft}
theorem gJ (hN:N'.Nodup) (h0:N'[0]?=some x) (hx:(relabel scope X.env).names.lookup x=some .local)
  (ht:∀C s H fp pins,pV (aE X N' scope C s H fp pins) ifs tt) (he:∀C s H fp pins,QE (aE X N' scope C s H fp pins) elt te)
  {B:Base} {σ:St} {F F1 H1:Hp} {env:En} {Q:List D→Prop} {J:It} {xs:List D} (sF:ao F F1) (r1:Rep X.K B F1 H1 σ env) (S:rg X.K J F1 xs) (q1:comps tt te (cp 1 ix env) Q xs []) :
  ∀(a C:Addr) (s:Shared) (fp:List Addr) (pins:List (Addr×Obj)),H1 a=none →
   ∃W:Nat→Nat→St→Hp→Prop,(∃m,W 0 m (q0 1 ix σ) (upd H1 a (.lst [])))∧∀i m σ' H',W i m σ' H'→(J.stop i H'∧RF X B σ env F Q (.ref a) H')∨(J.go i H'∧∀y H2,J.yld i H' y H2 →
    wG (aE X N' scope C s (upd H1 a (.lst [])) fp pins) (.Name x px) y σ' H2 fun σ2 H3=>xV (aE X N' scope C s (upd H1 a (.lst [])) fp pins) ifs σ2 H3 fun ok H4=>if ok=true then
     wE (aE X N' scope C s (upd H1 a (.lst [])) fp pins) elt σ2 H4 fun y H5=>∃ys,H5 a=some (.lst ys)∧ys.length < sizeLine∧∃m',m' < m∧W (i + 1) m' σ2 (upd H5 a (.lst (ys ++ [y])))
     else ∃m',m' < m∧W (i + 1) m' σ2 H4):=by
 intro a C s fp pins ha;have hF1a:F1 a=none:=r1.lM ha
 refine⟨fun i m σ' H'=>m=xs.length - i∧i≤xs.length∧∃(F':Hp) (acc:List D) (ys:List V),Rep X.K (Base.here F1 H1) F' H' σ' (cp 1 ix env)∧H' a=some (.lst ys)∧F' a=none∧aj X.K F' acc ys∧comps tt te (cp 1 ix env) Q (xs.drop i) acc,
  ⟨xs.length,by simp,Nc _,F1,[],[],zY r1 ha,au,hF1a,aO,by simpa using q1⟩,?_⟩
 rintro i m σ2 H2 ⟨rfl,hi2,F2,acc,ys,r2,hys,hFa,hd,q2⟩;have sH:ao H1 H2:=r2.h0
 by_cases hlt:i < xs.length
 ·have hxi:xs[i]?=some xs[i]:=by simp [hlt]
  rw [drop_cons hxi] at q2;refine .inr ⟨S.go i F2 H2 r2.f0 r2.fh hlt,fun y H3 hy=>?_⟩;obtain⟨eH,dy⟩:=S.yld i F2 H2 y H3 xs[i] r2.f0 r2.fh hxi hy;subst eH;have r2':=r2.here cQ cR;have g:=aH (X:=aE X N' scope C s (upd H1 a (.lst [])) fp pins) (pos:=px) 0 hN h0 (.inl hx) (.inr hx);refine fV (g (Base.here F2 H3) σ2 F2 H3 (cp 1 ix env) (fun e=>e=(cp 1 ix env).set 0 (some (.d xs[i]))) xs[i] y r2' dy rfl) fun σ3 H4 hq0=>?_
  obtain⟨F4,env4,r4,s4,q4⟩:=hq0;subst q4;intro pins' s' I';refine Nd (ht C s (upd H1 a (.lst [])) fp pins (Base.here F2 H3) σ3 F4 H4 _ _ r4 q2 pins' s' I') (fun ok s5 ⟨H5,I5,F5,r5,s5',q5⟩=>⟨H5,I5,?_⟩) fun _ _ e=>e
  have weak':∀(j:Nat) l,(cp 1 ix env)[j]?=some (some l)→((cp 1 ix env).set 0 (some (.d xs[i])))[j]?=some (some l):=fun j l hj=>by
   have hj0:j≠0:=fun z=>by
    subst z;simp [cp] at hj
   rw [Ml (Ne.symm hj0)];exact hj
  cases ok with
  | false =>
   have q5':comps tt te (cp 1 ix env) Q (xs.drop (i + 1)) acc:=q5
   refine⟨xs.length - (i + 1),by omega,rfl,by omega,F5,acc,ys,r5.there r2.f0 sH (fun p hp=>r2.nf p hp) weak' cQ cR,r5.h0 _ _ hys,r5.nf a ⟨by rw [hys];simp,hFa⟩,aj.mono r5.f0 _ _ hd,q5'⟩
  | true =>
   have q5':te ((cp 1 ix env).set 0 (some (.d xs[i]))) fun y=>acc.length < sizeLine∧comps tt te (cp 1 ix env) Q (xs.drop (i + 1)) (acc ++ [y]):=q5;refine aA (he C s (upd H1 a (.lst [])) fp pins (Base.here F2 H3) σ3 F5 H5 _ _ r5 q5') fun z H6 hq0=>?_;obtain⟨F6,d,r6,s6,d6,hl,q6⟩:=hq0;have ha6:H6 a=some (.lst ys):=r6.h0 _ _ hys;have hF6:F6 a=none:=r6.nf a ⟨by rw [hys];simp,hFa⟩;refine⟨ys,ha6,by rw [← hd.length];exact hl,xs.length - (i + 1),by omega,rfl,by omega,F6,acc ++ [d],ys ++ [z],?_,au,hF6,(aj.mono r6.f0 _ _ hd).append (aM d6 aO),q6⟩
   have r7:Rep X.K (Base.here F1 H1) F6 H6 σ3 (cp 1 ix env):=r6.there r2.f0 sH (fun p hp=>r2.nf p hp) weak' cQ cR;refine⟨r7.f0,fun b o hb=>?_,fun b o hb=>?_,r7.nf,r7.dv,fun j zs q=>(cQ j zs q).elim,r7.ne,fun j zs q=>(cR j zs q).elim,r7.nm⟩
   ·have:b≠a:=fun w=>by subst w;rw [hF6] at hb;cases hb
    rw [aq this];exact r7.fh _ _ hb
   ·have:b≠a:=fun w=>by subst w;have hb':H1 b=some o:=hb;rw [ha] at hb';cases hb'
    rw [aq this];exact r7.h0 _ _ hb
 ·have e:i=xs.length:=by omega
  subst e;rw [Ng (Mv _)] at q2;refine .inl ⟨S.stop F2 H2 r2.f0 r2.fh,F2,fun b=>if b=a then none else H2 b,a,ys,acc,rfl,Mw rfl,?_,?_,sF.trans r2.f0,hd,q2⟩
  ·funext b;unfold upd
   by_cases z:b=a
   ·rw [Mw z,z];exact hys
   ·rw [Mo z];show H2 b=if b=a then none else H2 b
    rw [Mo z]
  ·refine r1.ext r2.f0 (fun b o hb=>?_) (fun b o hb=>?_) fun p h1 h2=>r2.nf p ⟨h1,h2⟩
   ·have:b≠a:=fun w=>by subst w;rw [hFa] at hb;cases hb
    show (if b=a then none else H2 b)=_
    rw [Mo this];exact r2.fh _ _ hb
   ·have:b≠a:=fun w=>by subst w;rw [ha] at hb;cases hb
    show (if b=a then none else H2 b)=_
    rw [Mo this];exact sH _ _ hb
theorem RF.rv {B:Base} {σ:St} {env:En} {F:Hp} {Q:D→Prop} {v:V} {H:Hp} (h:RF X B σ env F (fun ds=>Q (.lst ds)) v H):RV X B σ env F Q v H:=by
 obtain⟨F',H1,p,vs,ds,rfl,hp,rfl,r,s,hd,q⟩:=h;exact (RV.DB r hd q p hp).weaken s
def cS (ts:ft):TD:=fun env Q=>ts env fun ds=>Q (.lst ds)
theorem QF.e {e:Expr} {ts:ft} (h:QF X e ts):QE X e (cS ts):=⟨fun B σ F H env Q rp hq=>aA (h B σ F H env _ rp hq) fun v H' z=>z.rv⟩
def gP (ix:List Nat) (ti:TD) (tt:TB) (te:TD):ft:=fun env Q=>ti env fun d=>∃xs,fG d=some xs∧comps tt te (cp 1 ix env) Q xs []
theorem v5 {B:Base} {σ:St} {F H:Hp} {env:En} {P:List D→Prop} {R:It→Hp→Prop} (hi:QE X iter ti) (rp:Rep X.K B F H σ env) (h:ti env fun d=>∃xs,fG d=some xs∧P xs)
  (hR:∀(J:It) (F1 H1:Hp) (xs:List D),Rep X.K B F1 H1 σ env→ao F F1→rg X.K J F1 xs→P xs→R J H1):J6 X.K (wE X iter) σ H R:=by
 refine aA (hi B σ F H env _ rp h) fun v H1 hq0=>?_;obtain⟨F1,d,r1,s1,d1,xs,hx,q1⟩:=hq0
 cases d with
 | lst ys =>
  simp only [fG] at hx;cases hx;simp only [Den] at d1;obtain⟨a,vs,rfl,q,r⟩:=d1
  exact .inl ⟨a,rfl,.inl ⟨⟨vs,r1.fh.seq q⟩,hR _ F1 H1 _ r1 s1 (yz q r) q1⟩⟩
 | tup ys =>
  simp only [fG] at hx;cases hx;simp only [Den] at d1;obtain⟨a,vs,rfl,q,r⟩:=d1
  exact .inl ⟨a,rfl,.inr ⟨⟨vs,ao.cT r1.fh q⟩,hR _ F1 H1 _ r1 s1 (Az q r) q1⟩⟩
 | str z =>
  simp only [fG] at hx;cases hx;simp only [Den] at d1;subst d1
  exact .inr ⟨z,rfl,hR _ F1 H1 _ r1 s1 By q1⟩
 | _=>simp only [fG] at hx;cases hx
theorem kK (hc:X.calm=true) (O:bI X N' 1 ix scope) (hN:N'.Nodup) (h0:N'[0]?=some x) (hx:(relabel scope X.env).names.lookup x=some .local) (hi:QE X iter ti)
  (ht:∀C s H fp pins,pV (aE X N' scope C s H fp pins) ifs tt) (he:∀C s H fp pins,QE (aE X N' scope C s H fp pins) elt te) (hs:∀x,M3 iter X.env x=pure x:=by intro _;rfl) :
  QF X (.ListComp elt [⟨.Name x px,iter,ifs,0⟩] scope pos) (gP ix ti tt te):=by
 refine⟨?_⟩;intro B σ F H env Q rp h;refine b8 (zA hc (x4 bH) O hs) ?_;exact v5 hi rp h fun J F1 H1 xs r1 s1 S q=>gJ hN h0 hx ht he s1 r1 S q
def gp (f:List D→(Int→Nat→Prop)→Prop) (ix:List Nat) (ts:ft) (tt:TB) (te:TD):ft:=fun env Q=>ts env fun xs=>f xs fun lo n=>comps tt te (cp 1 ix env) Q (aN lo n) []
theorem BE {p pos2:Pos} (hc:X.calm=true) (O:bI X N' 1 ix scope) (hN:N'.Nodup) (h0:N'[0]?=some x) (hx:(relabel scope X.env).names.lookup x=some .local) (hgl:Gl X "range") (hm:X.mg "range" = none) (ha:QA X [a] ts)
  (ht:∀C s H fp pins,pV (aE X N' scope C s H fp pins) ifs tt) (he:∀C s H fp pins,QE (aE X N' scope C s H fp pins) elt te) (hst:starEach [a] X.env=[(false,eval a X.env)]:=by rfl)
  (hs:∀x,M3 (.Call (.Name "range" p) [a] [] pos2) X.env x=pure x:=by intro _;rfl) :
  QF X (.ListComp elt [⟨.Name x px,.Call (.Name "range" p) [a] [] pos2,ifs,0⟩] scope pos) (gp iH ix ts tt te):=by
 refine⟨?_⟩;intro B σ F H env Q rp h;refine b8 (zA hc (iQ hgl hm iO hst) O hs) ?_;refine cw (ha B σ F H env _ rp h) fun vs H1 hq0=>?_;obtain⟨F1,ds,r1,s1,d1,q1⟩:=hq0
 (try dsimp only at q1);unfold iH at q1
 split at q1
 ·simp only [aj,Den] at d1;obtain⟨v,r,rfl,rfl,rfl⟩:=d1;exact⟨_,rfl,q1.1.1,q1.1.2,gJ hN h0 hx ht he s1 r1 jT q1.2⟩
 ·exact q1.elim
end
section
variable {X:Cx} {a b c e:Expr} {es:List Expr} {ta tb tc:TD} {tA tB':TB} {ts:ft} {p p2 pos:Pos} {rest:List Expr}
theorem JR (hm:X.mg "abs" = none) (ha:QA X [e] ts) (hg:Gl X "abs":=by rfl) (he:starEach [e] X.env=(false,eval e X.env) :: starEach [] X.env:=by exact bq rfl):QE X (.Call (.Name "abs" p) [e] [] pos) (az C6 ts) :=
 kT Cw Ha hg hm Bm ha (he:=he)
theorem hG (hm:X.mg "len" = none) (ha:QA X [e] ts) (hg:Gl X "len":=by rfl) (he:starEach [e] X.env=(false,eval e X.env) :: starEach [] X.env:=by exact bq rfl):QE X (.Call (.Name "len" p) [e] [] pos) (az gy ts) :=
 kT (nK.or uQ) Iq hg hm oY ha (he:=he)
theorem Jl (hm:X.mg "max" = none) (ha:QA X [a,b] ts) (hg:Gl X "max":=by rfl) (hc:X.calm=true:=by rfl) (he:starEach [a,b] X.env=(false,eval a X.env) :: starEach [b] X.env:=by exact bq rfl) (hpl:(backTo pos (starEach [b] X.env)).any (·.1)=false:=by rfl):QE X (.Call (.Name "max" p) [a,b] [] pos) (az BM ts) :=
 kT (Bf hc) Hw hg hm AJ ha (he:=he) (hpl:=hpl)
theorem Jf (hm:X.mg "min" = none) (ha:QA X [a,b] ts) (hg:Gl X "min":=by rfl) (hc:X.calm=true:=by rfl) (he:starEach [a,b] X.env=(false,eval a X.env) :: starEach [b] X.env:=by exact bq rfl) (hpl:(backTo pos (starEach [b] X.env)).any (·.1)=false:=by rfl):QE X (.Call (.Name "min" p) [a,b] [] pos) (az BZ ts) :=
 kT (A7 hc) HM hg hm Bo ha (he:=he) (hpl:=hpl)
theorem Jn (hm:X.mg "all" = none) (ha:QA X [e] ts) (hg:Gl X "all":=by rfl) (hc:X.calm=true:=by rfl) (he:starEach [e] X.env=(false,eval e X.env) :: starEach [] X.env:=by exact bq rfl):QE X (.Call (.Name "all" p) [e] [] pos) (az ED ts) :=
 kT (Ct hc) HX hg hm Bp ha (he:=he)
theorem vt (hm:X.mg "int" = none) (ha:QA X [e] ts) (hg:Gl X "int":=by rfl) (he:starEach [e] X.env=(false,eval e X.env) :: starEach [] X.env:=by exact bq rfl):QE X (.Call (.Name "int" p) [e] [] pos) (az tJ ts) :=
 xu AL Hf hg hm nZ ha (he:=he)
theorem fJ (hm:X.mg "tuple" = none) (ha:QA X [e] ts) (hg:Gl X "tuple":=by rfl) (he:starEach [e] X.env=(false,eval e X.env) :: starEach [] X.env:=by exact bq rfl):QE X (.Call (.Name "tuple" p) [e] [] pos) (az gb ts) :=
 xu sL DO hg hm jL ha (he:=he)
def EE (n:String) (x:D) (Q:D→Prop):Prop:=∃k,EG (Ga x) n=some k∧Q (.bl k)
def o6 (n:String) (ta:TD):TD:=fun env Q=>ta env fun x=>EE n x Q
theorem t5 {n:Str} {m:String} (hm:X.mg "isinstance" = none) (ht:X.mg n=none) (hb:bootBuiltins n=some (.type m)) (ha:QE X a ta) (hg:Gl X "isinstance":=by rfl) (hg2:Gl X n:=by rfl) (hn:n≠"__name__":=by decide) (hd:(n == ("__debug__" : Str))=false:=by decide)
  (he:starEach [a,.Name n p2] X.env=(false,eval a X.env) :: starEach [.Name n p2] X.env:=by exact bq rfl) (hpl:(backTo pos (starEach [.Name n p2] X.env)).any (·.1)=false:=by rfl)
  (he2:starEach [.Name n p2] X.env=(false,eval (.Name n p2) X.env) :: starEach [] X.env:=by exact bq rfl):QE X (.Call (.Name "isinstance" p) [a,.Name n p2] [] pos) (o6 m ta):=by
 have h:=kT (p:=p) (pos:=pos) DQ G8 hg hm Bi (ab ha (ab (Mh hg2 ht hb hn hd) ag he2) he) (he:=he) (hpl:=hpl);exact⟨fun B σ F H env Q rp hq=>h B σ F H env Q rp hq⟩
variable {N':List Str} {nt:Nat} {ix:List Nat} {scope:Scope} {elt iter:Expr} {ifs:List Expr} {x:Str} {px py spos:Pos} {tt:TB} {te ti:TD}
theorem bI.of (sc:Scope) (hsc:X.env.scope=sc) (kind:scope.kind=.function) (nocell:∀x∈scope.names,x.2≠.cell) (names:∀x∈scope.names,x.2=.local→scope.names.lookup x.1=some .local)
  (free:∀x∈scope.names,x.2=.free→sc.names.lookup x.1=some .cell)
  (caps:∀(j:Nat) (i:Nat),ix[j]?=some i→∃x,N'[nt + j]?=some x∧X.N[i]?=some x∧(x,NameKind.free)∈scope.names∧(relabel scope X.env).names.lookup x=some .cell) (len:N'.length=nt + ix.length):bI X N' nt ix scope :=
 ⟨kind,nocell,names,by rw [hsc];exact free,caps,len⟩
theorem zf {y:Str} (i:Nat) (hNd:X.N.Nodup) (hc:X.calm=true) (O:bI X N' 1 ix scope) (hN:N'.Nodup) (h0:N'[0]?=some x) (hx:(relabel scope X.env).names.lookup x=some .local) (hi:QE X iter ti)
  (ht:∀C s H fp pins,pV (aE X N' scope C s H fp pins) ifs tt) (he:∀C s H fp pins,QE (aE X N' scope C s H fp pins) elt te) (hy:X.N[i]?=some y:=by rfl) (hl:Loc X.env.scope y:=by first | exact Or.inl rfl | exact Or.inr rfl)
  (hsw:swapsWith (.ListComp elt [⟨.Name x px,iter,ifs,0⟩] scope pos) (some (.Name y py)) spos.line X.env=pure true:=by rfl) (hf:X.fn y=true∨X.env.scope.names.lookup y=some .local:=by first | exact .inl rfl | exact .inr rfl)
  (hs:∀x,M3 iter X.env x=pure x:=by intro _;rfl) :
  QS X (.Assign [.Name y py] (.ListComp elt [⟨.Name x px,iter,ifs,0⟩] scope pos) spos) (bY i (cS (gP ix ti tt te))):=by
 refine⟨?_⟩;intro B σ F H env D rp h pins s I;refine iX hc (x4 bH) O hNd hy hl hsw hf hs pins s σ H _ I ?_;refine v5 hi rp h fun J F1 H1 xs r1 s1 S q=>?_;intro a C s fp pins ha;obtain⟨W,w0,step⟩:=gJ (X:=X) (px:=px) hN h0 hx ht he s1 r1 S q a C s fp pins ha;refine⟨W,w0,fun i' m σ' H' w=>?_⟩;rcases step i' m σ' H' w with ⟨st,z⟩ | z
 ·refine .inl ⟨st,?_⟩;obtain⟨F',d,r',s',hd,q'⟩:=RF.rv (Q:=fun x=>D.nx (env.set i (some (.d x)))) z;refine⟨F',_,r'.set hd ?_,q'⟩;rw [I.len];exact (Mi.mp hy).1
 ·exact .inr z
end
def Base.guard (B:Base) (p:Addr) (o:HO):Base:=⟨B.F,upd B.H p o,fun a=>a=p∨B.N a,fun a h=>by
 by_cases e:a=p
 ·subst e;rw [au];simp
 ·rw [aq e];exact B.nb a (h.resolve_left e)⟩
section
variable {K:Mn} {B:Base} {F H:Hp} {σ:St} {env:En} {p:Addr} {o o':HO}
theorem Rep.guarded (r:Rep K B F H σ env) (hp:H p=none):Rep K (B.guard p o) F (upd H p o) σ env where
 f0:=r.f0
 fh:=r.fh.trans (cu hp)
 h0:=fun b u q=>by
  by_cases e:b=p
  ·subst e;rw [au];have q':upd B.H b o b=some u:=q;rw [au] at q';exact q'
  ·rw [aq e];have q':upd B.H p o b=some u:=q;rw [aq e] at q';exact r.h0 _ _ q'
 nf:=fun a h=>by
  rcases h with rfl | h
  ·exact r.lM hp
  ·exact r.nf a h
 dv:=r.dv
 ov:=fun i xs h=>by
  obtain⟨q,vs,h1,h2,h3,h4,h5⟩:=r.ov i xs h;have ne:q≠p:=fun e=>by subst e;rw [hp] at h2;cases h2
  exact⟨q,vs,h1,by rw [aq ne];exact h2,h3,by show upd B.H p o q=none;rw [aq ne];exact h4,h5⟩
 ne:=r.ne
 mv:=fun i xs h=>by
  obtain⟨q,ep,us,vs,h1,h2,h3,h4,h5⟩:=r.mv i xs h;have ne:q≠p:=fun e=>by subst e;rw [hp] at h2;cases h2
  exact⟨q,ep,us,vs,h1,by rw [aq ne];exact h2,h3,by show upd B.H p o q=none;rw [aq ne];exact h4,h5⟩
 nm:=r.nm
theorem Rep.qg (r:Rep K (B.guard p o) F H σ env) (hb:B.H p=none):Rep K B F H σ env∧H p=some o∧F p=none:=by
 refine⟨⟨r.f0,r.fh,fun b u q=>r.h0 b u ?_,fun a h=>r.nf a (.inr h),r.dv,fun i xs h=>?_,r.ne,fun i xs h=>?_,r.nm⟩,r.h0 p o au,r.nf p (.inl rfl)⟩
 ·show upd B.H p o b=some u
  have:b≠p:=fun e=>by subst e;rw [hb] at q;cases q
  rw [aq this];exact q
 ·obtain⟨q,vs,h1,h2,h3,h4,h5⟩:=r.ov i xs h;have h4':upd B.H p o q=none:=h4;have ne:q≠p:=fun e=>by subst e;rw [au] at h4';cases h4'
  rw [aq ne] at h4';exact⟨q,vs,h1,h2,h3,h4',h5⟩
 ·obtain⟨q,ep,us,vs,h1,h2,h3,h4,h5⟩:=r.mv i xs h;have h4':upd B.H p o q=none:=h4;have ne:q≠p:=fun e=>by subst e;rw [au] at h4';cases h4'
  rw [aq ne] at h4';exact⟨q,ep,us,vs,h1,h2,h3,h4',h5⟩
end
section
variable {X:Cx} {a b:Expr} {ta tb:TD} {pos:Pos}
end
section
variable {X:Cx} {e:Expr} {ts:ft} {pos:Pos}
end
theorem c6.at {P:Program} {w:World} {H:Hp} {h:Heap} {a:Addr} {o:HO} (x:c6 P w H h a o):∃ob,h.get? a=some ob:=by
 cases o with
 | lst xs=>obtain⟨_,_,_,_,e⟩:=x;exact⟨_,e⟩
 | tup xs=>obtain⟨_,_,_,ob,e,_⟩:=x;exact⟨_,e⟩
 | dK kvs=>obtain⟨_,_,_,_,o,_,_,e,_⟩:=x;exact⟨_,e⟩
 | dT kvs=>obtain⟨_,_,_,_,o,_,_,e,_⟩:=x;exact⟨_,e⟩
 | set S n=>obtain⟨o,_,_,_,e,_⟩:=x;exact⟨_,e⟩
 | ins C dx fs=>obtain⟨_,_,_,e,_⟩:=x;exact⟨_,e⟩
 | own y=>exact x
 | xd fs=>obtain⟨_,⟨_,_,_,e,_⟩,_⟩:=x;exact⟨_,e⟩
 | rng lo hi=>obtain⟨_,_,_,e⟩:=x;exact⟨_,e⟩
 | frz ob u=>obtain⟨e,_⟩:=x;exact⟨_,e⟩
 | AA ps=>exact⟨_,(show h.get? a=some _ from x)⟩
 | met f y=>exact⟨_,(show h.get? a=some _ from x)⟩
 | ext φ=>obtain⟨_,⟨_,e⟩,_⟩:=x;exact⟨_,e⟩
section
variable {X:Cx} {pins:List (Addr×Obj)} {σ:St} {H H':Hp} {a:Addr} {C:Value} {dd:Option Addr} {s s':Shared}
end
section
variable {X:Cx} {c e:Expr} {es:List Expr} {st:Stmt} {sts xs ys:List Stmt} {t u:bS} {p q:TS4} {tc:TB} {te:TD} {ts:ft} {pos:Pos}
end
section
variable {X:Cx} {e:Expr} {es:List Expr} {ts:ft} {tx:TX} {p pos:Pos} {x:Str} {k:Nat} {f:FwX}
end
section
variable {X:Cx} {pins:List (Addr×Obj)} {σ:St} {H H':Hp} {a:Addr} {s s':Shared}
end
section
variable {X:Cx} {e:Expr} {ts:ft} {p pos:Pos}
def mV (ds:List D) (Q:List D→Prop):Prop:=match ds with
 | [.lst xs]=>Q xs
 | [.tup xs]=>Q xs
 | _=>False
theorem tL {xs:List D} {Q:List D→Prop}:mV [.lst xs] Q=Q xs:=rfl
theorem ue {xs:List D} {Q:List D→Prop}:mV [.tup xs] Q=Q xs:=rfl
def kP (ts:ft):ft:=fun env Q=>ts env fun ds=>mV ds Q
theorem AW (hm:X.mg "list" = none) (ha:QA X [e] ts) (hg:Gl X "list":=by rfl) (he:starEach [e] X.env=(false,eval e X.env) :: starEach [] X.env:=by exact bq rfl) (hpl:(backTo pos (starEach ([]:List Expr) X.env)).any (·.1)=false:=by rfl) :
  QF X (.Call (.Name "list" p) [e] [] pos) (kP ts):=by
 refine⟨fun B σ F H env Q rp h=>b8 (oE vC hg hm sh iO (by decide) (by decide) he hpl) ?_⟩;refine cw (ha B σ F H env _ rp h) fun vs H1 hq0=>?_;obtain⟨F1,ds,r1,s1,d1,q1⟩:=hq0
 replace q1:mV ds Q:=q1
 unfold mV at q1
 split at q1
 ·simp only [aj,Den] at d1;obtain⟨v,r,rfl,⟨p,ys,rfl,q,r⟩,rfl⟩:=d1;exact⟨p,ys,rfl,.inl (r1.fh.seq q),fun w hw=>⟨F1,H1,w,ys,_,rfl,hw,rfl,r1,s1,r,q1⟩⟩
 ·simp only [aj,Den] at d1;obtain⟨v,r,rfl,⟨p,ys,rfl,q,r⟩,rfl⟩:=d1;exact⟨p,ys,rfl,.inr (ao.cT r1.fh q),fun w hw=>⟨F1,H1,w,ys,_,rfl,hw,rfl,r1,s1,r,q1⟩⟩
 ·exact q1.elim
end
section
variable {X:Cx} {es:List Expr} {pos:Pos}
end
section
variable {X:Cx} {a b c e:Expr} {ta tb tc:TD} {ts:ft} {pos:Pos}
end
section
variable {X:Cx} {p pos:Pos}
def eu (i:Nat):TD:=fun env Q=>∃xs,env[i]?=some (some (.own xs))∧Q (.int xs.length)
theorem gN {x:Str} {px:Pos} (i:Nat) (hm:X.mg "len" = none) (hg:Gl X "len":=by rfl) (hN:X.N[i]?=some x:=by rfl) (hv:qJ X.env.scope x:=by first | exact Or.inl rfl | exact Or.inr (Or.inl rfl) | exact Or.inr (Or.inr rfl)) (hd:(x == ("__debug__" : Str))=false:=by decide)
  (hcd:(x == ("__classdict__" : Str))=false:=by decide) (he:starEach [.Name x px] X.env=(false,eval (.Name x px) X.env) :: starEach [] X.env:=by exact bq rfl) (hpl:(backTo pos (starEach ([]:List Expr) X.env)).any (·.1)=false:=by rfl) :
  QE X (.Call (.Name "len" p) [.Name x px] [] pos) (eu i):=by
 refine⟨fun B σ F H env Q rp h=>b8 (rn nK hg hm oY (fT (cv hN hv hd hcd) ig he) (by decide) (by decide) he hpl) ?_⟩;obtain⟨xs,hx,q⟩:=h;obtain⟨p,vs,h1,h2,h3,h4,h5⟩:=rp.ov i xs hx;refine⟨.ref p,h1,p,vs,rfl,.inl (fU.of h2),F,.int xs.length,rp,ao.refl _,?_,q⟩;rw [h5.length];exact bE
theorem Gn {x:Str} {a:Addr} {sl:Array (Option Value)} {its:Array Value} {n:Nat} {ns:List Int} {pp:Pos} (ac:PySem.W.nsIn X.K mainGlobals x=some (some (.ref a))) (hl:X.K.lookup a=some ⟨.type "tuple",none,.seq its n,sl⟩) (hs:its.size≤sizeLine) (hv:Vals (ns.map V.int) its.toList)
  (hg:Gl X x:=by rfl) (hdb:(x == ("__debug__" : Str))=false:=by decide):QE X (.Name x pp) (cC (.tup (ns.map D.int))):=by
 refine⟨fun B σ F H env Q rp hq pins s I=>?_⟩;refine uX I hg (Nz I.ok.mod.kin I.ok.mod.glob ac) ?_ hdb;exact⟨.ref a,H,I,rfl,F,_,rp,ao.refl _,gx (.inr ⟨_,its,n,hl,rfl,rfl,hs,hv,rfl⟩) (oN ns),hq⟩
end
section
variable {X:Cx} {N':List Str} {ix:List Nat} {scope:Scope} {elt a:Expr} {ifs:List Expr} {x:Str} {px py pos spos p pos2:Pos} {tt:TB} {te ta:TD} {ts:ft}
theorem uo {y:Str} (i:Nat) (hNd:X.N.Nodup) (hc:X.calm=true) (O:bI X N' 1 ix scope) (hN:N'.Nodup) (h0:N'[0]?=some x) (hx:(relabel scope X.env).names.lookup x=some .local) (hgl:Gl X "range") (hm:X.mg "range" = none) (ha:QA X [a] ts)
  (ht:∀C s H fp pins,pV (aE X N' scope C s H fp pins) ifs tt) (he:∀C s H fp pins,QE (aE X N' scope C s H fp pins) elt te) (hy:X.N[i]?=some y:=by rfl) (hl:Loc X.env.scope y:=by first | exact Or.inl rfl | exact Or.inr rfl)
  (hsw:swapsWith (.ListComp elt [⟨.Name x px,.Call (.Name "range" p) [a] [] pos2,ifs,0⟩] scope pos) (some (.Name y py)) spos.line X.env=pure true:=by rfl) (hf:X.fn y=true∨X.env.scope.names.lookup y=some .local:=by first | exact .inl rfl | exact .inr rfl)
  (hst:starEach [a] X.env=[(false,eval a X.env)]:=by rfl) (hs:∀x,M3 (.Call (.Name "range" p) [a] [] pos2) X.env x=pure x:=by intro _;rfl) :
  QS X (.Assign [.Name y py] (.ListComp elt [⟨.Name x px,.Call (.Name "range" p) [a] [] pos2,ifs,0⟩] scope pos) spos) (bY i (cS (gp iH ix ts tt te))):=by
 refine⟨fun B σ F H env D rp h pins s I=>?_⟩;refine iX hc (iQ hgl hm iO hst) O hNd hy hl hsw hf hs pins s σ H _ I ?_;refine cw (ha B σ F H env _ rp h) fun vs H1 hq0=>?_;obtain⟨F1,ds,r1,s1,d1,q1⟩:=hq0
 (try dsimp only at q1);unfold iH at q1
 split at q1
 ·simp only [aj,Den] at d1;obtain⟨v,r,rfl,rfl,rfl⟩:=d1;refine⟨_,rfl,q1.1.1,q1.1.2,?_⟩;intro a' C s fp pins ha';obtain⟨W,w0,step⟩:=gJ (X:=X) (px:=px) hN h0 hx ht he s1 r1 jT q1.2 a' C s fp pins ha';refine⟨W,w0,fun i' m σ' H' w=>?_⟩;rcases step i' m σ' H' w with ⟨st,z⟩ | z
  ·refine .inl ⟨st,?_⟩;obtain⟨F',d,r',s',hd,q'⟩:=RF.rv (Q:=fun x=>D.nx (env.set i (some (.d x)))) z;refine⟨F',_,r'.set hd ?_,q'⟩;rw [I.len];exact (Mi.mp hy).1
  ·exact .inr z
 ·exact q1.elim
end
section
variable {X:Cx} {b:Expr} {tb:TD} {x:Str} {tab:List (Str×Str)} {a:Addr} {es:Array DictEntry} {n:Nat} {p pos:Pos}
end
section
variable {X:Cx} {e:Expr} {ts:ft} {p pos:Pos}
def qK (i:Nat):TB:=fun env Q=>∃xs,env[i]?=some (some (.own xs))∧Q (!xs.isEmpty)
theorem JS {x:Str} {px:Pos} (i:Nat) (hN:X.N[i]?=some x:=by rfl) (hv:qJ X.env.scope x:=by first | exact Or.inl rfl | exact Or.inr (Or.inl rfl) | exact Or.inr (Or.inr rfl)) (hd:(x == ("__debug__" : Str))=false:=by decide)
  (hcd:(x == ("__classdict__" : Str))=false:=by decide):QT X (.Name x px) (qK i):=by
 refine⟨fun B σ F H env Q rp h=>rh (Cp (cv hN hv hd hcd) (by intro _;rfl)) ?_⟩;obtain⟨xs,hx,q⟩:=h;obtain⟨p,vs,h1,h2,h3,h4,h5⟩:=rp.ov i xs hx;refine⟨.ref p,h1,!vs.isEmpty,.inl ⟨vs,fU.of h2,rfl⟩,F,rp,ao.refl _,?_⟩;have hl:=h5.length;have e:vs.isEmpty=xs.isEmpty:=by cases vs <;> cases xs <;> simp_all
 rw [e];exact q
end
open PySem
section
variable {Q:D→Prop} {i j:Int} {xs ys:List D} {z z':Str} {C:Int→Int→Prop} {g:Int→Int→D} {k:Bool}
theorem so:zd C g (.int i) (.int j) Q=(C i j∧Q (g i j)):=rfl
theorem je:fu (.int i) (.int j) Q=Q (.int (i + j)):=rfl
theorem kD:fu (.lst xs) (.lst ys) Q=(xs.length + ys.length≤sizeLine∧Q (.lst (xs ++ ys))):=rfl
theorem kG:fu (.tup xs) (.tup ys) Q=(xs.length + ys.length≤sizeLine∧Q (.tup (xs ++ ys))):=rfl
theorem kR:fu (.str z) (.str z') Q=(z.length + z'.length≤sizeLine∧Q (.str (z ++ z'))):=rfl
theorem oF:oZ (.int i) Q=Q (.int (-i)):=rfl
theorem zb:lh (.int i) (.int j) Q=Q (.bl (decide (i=j))):=by
 unfold lh jB;simp only [dep,aY,Nc,and_self,true_and];rw [Bool.beq_eq_decide_eq]
theorem sx:vS (.int i) (.int j) Q=Q (.bl (!decide (i=j))):=by
 unfold vS jB;simp only [dep,aY,Nc,and_self,true_and];rw [Bool.beq_eq_decide_eq]
theorem yb:lh (.str z) (.str z') Q=Q (.bl (z == z')):=by
 unfold lh jB;simp only [dep,aY,Nc,and_self,true_and]
theorem yu {k':Bool}:lh (.bl k) (.bl k') Q=Q (.bl (k == k')):=by
 unfold lh jB;simp only [dep,aY,Nc,and_self,true_and]
theorem yQ:C6 [.int i] Q=Q (.int i.natAbs):=by
 show Q _=Q _
 congr 2
 split <;> omega
theorem kh:gy [.lst xs] Q=Q (.int xs.length):=rfl
theorem nW:gy [.tup xs] Q=Q (.int xs.length):=rfl
theorem oV:gy [.str z] Q=(z.length≤sizeLine∧Q (.int z.length)):=rfl
theorem vL:BM [.int i,.int j] Q=Q (.int (max i j)):=by
 show Q _=Q _
 congr 2
 split <;> omega
theorem vn:BZ [.int i,.int j] Q=Q (.int (min i j)):=by
 show Q _=Q _
 congr 2
 split <;> omega
theorem oK:tJ [.int i] Q=Q (.int i):=rfl
theorem oT:tJ [.bl k] Q=Q (.int (if k then 1 else 0)):=rfl
theorem iD:gb [.lst xs] Q=Q (.tup xs):=rfl
theorem iM:gb [.tup xs] Q=Q (.tup xs):=rfl
theorem qS:fG (.lst xs)=some xs:=rfl
theorem qV:fG (.tup xs)=some xs:=rfl
theorem CZ {lo hi:Option Int}:K1 (.lst xs) lo hi Q=Q (.lst (cutD xs lo hi)):=rfl
theorem yT {R:Int→Nat→Prop}:iH [.int j] R=((-(2 ^ 62)≤j∧j < 2 ^ 62)∧R 0 j.toNat):=rfl
theorem yX {R:Int→Nat→Prop}:EV [.int i,.int j] R=((-(2 ^ 62)≤i∧i < 2 ^ 62∧-(2 ^ 62)≤j∧j < 2 ^ 62)∧R i (j - i).toNat):=rfl
theorem AO (bs:List Bool):boolsOf (bs.map D.bl)=some bs:=xi bs
def Pl (x:D):Prop:=Ga x≠.oth
def isInt:D→Bool | .int _=>true | .bl _=>true | _=>false
def LA:D→Bool | .bl _=>true | _=>false
def isTup:D→Bool | .tup _=>true | _=>false
theorem ES {x:D} (h:Pl x) (q:Q (.bl (isInt x))):EE "int" x Q:=by cases x <;> first | exact⟨_,rfl,q⟩ | exact absurd rfl h
theorem Iw {x:D} (h:Pl x) (q:Q (.bl (LA x))):EE "bool" x Q:=by cases x <;> first | exact⟨_,rfl,q⟩ | exact absurd rfl h
theorem Ad {x:D} (h:Pl x) (q:Q (.bl (isTup x))):EE "tuple" x Q:=by cases x <;> first | exact⟨_,rfl,q⟩ | exact absurd rfl h
end
def Cz (xs:List D) (R:D→List D→Prop):Prop:=match xs with | x :: r=>R x r | _=>False
theorem se {x:D} {r:List D} {R:D→List D→Prop}:Cz (x :: r) R=R x r:=rfl
theorem rL (g:nY) (gs:uG) (xs:List D) (env:En) (Q:En→Prop):bO g gs xs env Q=Cz xs fun x r=>g x env fun env'=>gs r env' Q:=by
 unfold bO Cz;apply propext
 constructor
 ·rintro⟨x,y,rfl,h⟩;exact h
 ·intro h;split at h
  ·exact⟨_,_,rfl,h⟩
  ·exact h.elim
theorem dg {g:nY} {tb:bS} {Z:iI} {xs:List D} (I:Nat→En→Prop)
  (step:∀(i:Nat) (x:D) (env:En) (N:En→Prop),xs[i]?=some x→I i env→(∀e,I (i + 1) e→N e)→g x env fun e=>tb { Z with nx:=N,ct:=N,bk:=Z.nx } e)
  (done:∀env,I xs.length env→Z.nx env) {env:En} (h0:I 0 env):turns g tb Z xs env:=by
 have go:∀(n k:Nat) (env:En),k + n=xs.length→I k env→turns g tb Z (xs.drop k) env:=by
  intro n
  induction n with
  | zero =>
   intro k env hk h;rw [Ng (by omega)]
   exact done env (by rw [← hk];exact h)
  | succ n ih =>
   intro k env hk h;have hx:xs[k]?=some (xs[k]'(by omega)):=by simp
   rw [drop_cons hx];exact step k _ env _ hx h fun e he=>ih (k + 1) e (by omega) he
 simpa using go xs.length 0 env (by omega) h0
theorem fC {te:TD} {gv:En} {Q:List D→Prop} (f:D→D):∀(xs acc:List D),(∀x∈xs,∀N:D→Prop,N (f x)→te (gv.set 0 (some (.d x))) N)→acc.length + xs.length≤sizeLine→Q (acc ++ xs.map f)→comps cU te gv Q xs acc
 | [],acc,_,_,q=>by simpa [comps] using q
 | x :: xs,acc,h,hl,q=>by
  simp only [comps,cU,if_true];refine h x MO _ ⟨by simp at hl;omega,fC f xs _ (fun y hy=>h y (MB _ hy)) (by simp at hl ⊢;omega) (by simpa using q)⟩
theorem kA {te:TD} {gv:En} {Q:List D→Prop} (R:D→D→Prop):∀(xs acc:List D),(∀x∈xs,∀N:D→Prop,(∀y,R x y→N y)→te (gv.set 0 (some (.d x))) N)→acc.length + xs.length≤sizeLine→(∀ys,ys.length=xs.length→(∀(i:Nat) (x y:D),xs[i]?=some x→ys[i]?=some y→R x y)→Q (acc ++ ys))→comps cU te gv Q xs acc
 | [],acc,_,_,q=>by simpa [comps] using q [] rfl (by simp)
 | x :: xs,acc,h,hl,q=>by
  simp only [comps,cU,if_true];refine h x MO _ fun y hy=>⟨by simp at hl;omega,kA R xs _ (fun y hy=>h y (MB _ hy)) (by simp at hl ⊢;omega) fun ys hl2 hr=>?_⟩;rw [List.append_assoc];refine q (y :: ys) (by simpa using hl2) fun i a b ha hb=>?_
  cases i with
  | zero=>simp at ha hb;subst ha hb;exact hy
  | succ i=>exact hr i a b (by simpa using ha) (by simpa using hb)
theorem qq {α:Type} {xs:List α} {i:Int} (h0:0≤i) (h1:i < xs.length):lD xs i=xs[i.toNat]?:=by
 unfold L2.lD vT;rw [Mw h0,Mw h1];rfl
theorem mx {a b:Int} (h:0 < b):0≤a.fmod b∧a.fmod b < b:=⟨Int.fmod_nonneg_of_pos a h,Int.fmod_lt_of_pos a h⟩
def bR (n:Nat) (a:Int):Prop:=a.natAbs < 2 ^ n
theorem bits_le {n m:Nat} {a:Int} (h:bR n a) (hm:n≤m):bR m a:=ME h (Nat.pow_le_pow_right (by decide) hm)
theorem rQ {n:Nat} {a:Int} (h:bR n a):Builtin.Int.intBits a≤n:=by
 unfold Builtin.Int.intBits
 by_cases e:a=0
 ·subst e;simp
 ·rw [Mo (by simpa using e)];have:a.natAbs≠0:=by omega
  exact (Nat.log2_lt this).mpr h
theorem ff {n m:Nat} {a b:Int} (ha:bR n a) (hb:bR m b) (h:n + m≤1000000):IntMulOk a b:=by
 have h1:=rQ ha;have h2:=rQ hb;unfold IntMulOk Builtin.Int.intTooBig
 have:¬ ((Builtin.Int.intBits a:Int) + (Builtin.Int.intBits b:Int) > (bitsLine:Int)):=by
  have:(1000000:Int)≤(bitsLine:Int):=by decide
  omega
 simp only [Bool.and_eq_true,MU]
 rintro⟨_,h3⟩;exact this h3
theorem bits_mul {n m:Nat} {a b:Int} (ha:bR n a) (hb:bR m b):bR (n + m) (a * b):=by
 unfold bR at *;rw [Int.natAbs_mul,Nat.pow_add];exact Nat.mul_lt_mul'' ha hb
theorem bits_add {n m:Nat} {a b:Int} (ha:bR n a) (hb:bR m b):bR (max n m + 1) (a + b):=by
 unfold bR at *;have h1:(2:Nat) ^ n≤2 ^ max n m:=Nat.pow_le_pow_right (by decide) (Nat.le_max_left _ _);have h2:(2:Nat) ^ m≤2 ^ max n m:=Nat.pow_le_pow_right (by decide) (Nat.le_max_right _ _);rw [Nat.pow_succ];omega
theorem bits_neg {n:Nat} {a:Int} (ha:bR n a):bR n (-a):=by unfold bR at *;rwa [Int.natAbs_neg]
theorem He {n:Nat} {a b:Int} (hb:bR n b) (h0:b≠0) (hn:n≤9000):An a b:=by
 refine⟨h0,?_⟩;have:b.natAbs≠0:=by omega
 exact ME ((Nat.log2_lt this).mpr hb) hn
theorem Ca {a b:Int} (h1:-(2 ^ 64) < a) (h2:a < 2 ^ 64):IntMulOk a b:=.of_left (intBits_le_64 h1 h2)
theorem we {a b:Int} (h1:-(2 ^ 64) < b) (h2:b < 2 ^ 64):IntMulOk a b:=.of_right (intBits_le_64 h1 h2)
theorem LK {c:Int} (j:Int) (h:j≠0∧j.natAbs < 2 ^ 256):An c j:=He (n:=256) h.2 h.1 (by decide)
theorem J8 (i j:Int) (h:0≤j∧j≤1000000∧i.natAbs < 2 ^ 64):GQ i j:=h
theorem yV {c:Int} (j:Int) (h:j≠0):DX c j:=h
theorem zI (n:Nat) (a:Int) (h:a.natAbs < 2 ^ n):bR n a:=h
def y8 (i:Nat) (e:En):Nat:=match e[i]? with | some (some (.own xs))=>xs.length | _=>0
def Ff (i:Nat) (e:En):Nat:=match e[i]? with | some (some (.d (.int j)))=>j.toNat | _=>0
end L2.L3
local macro_rules | `(tactic| simp_all_arith only [$ls,*]) => `(tactic| ((try dsimp only [$(⟨ls.elemsAndSeps⟩),*, L2.L3.aJ, L2.L3.iW, L2.L3.ck, L2.L3.bN, L2.L3.jQ, L2.L3.ia, L2.L3.bY, L2.L3.l7, L2.L3.oM, L2.L3.hU, L2.L3.cV, L2.L3.dE, L2.L3.ef, L2.L3.sN, L2.L3.af, L2.L3.cC, L2.L3.aG, L2.L3.vU, L2.L3.aL, L2.L3.pZ, L2.L3.sE, L2.L3.CB, L2.L3.nM, L2.L3.nP, L2.L3.FE, L2.L3.az, L2.L3.ae, L2.L3.av, L2.L3.bQ, L2.L3.jZ, L2.L3.o6, L2.L3.cS, L2.L3.o3, L2.L3.Gg, L2.L3.nz, L2.L3.dq, L2.L3.aV, L2.L3.iC, L2.L3.iU, L2.L3.cU, L2.L3.aD, MP, List.map_nil, MQ, Nj, List.cons_append, List.nil_append, MV, MS, List.set_cons_zero, List.set_cons_succ, L2.L3.gP, L2.L3.gp, L2.L3.so, L2.L3.je, L2.L3.kD, L2.L3.kG, L2.L3.kR, L2.L3.oF, L2.L3.kh, L2.L3.nW, L2.L3.oV, L2.L3.oK, L2.L3.oT, L2.L3.iD, L2.L3.iM]); (try simp only [$ls,*, L2.L3.aJ, L2.L3.iW, L2.L3.ck, L2.L3.bN, L2.L3.jQ, L2.L3.ia, L2.L3.bY, L2.L3.l7, L2.L3.oM, L2.L3.hU, L2.L3.cV, L2.L3.dE, L2.L3.ef, L2.L3.sN, L2.L3.af, L2.L3.cC, L2.L3.aG, L2.L3.vU, L2.L3.aL, L2.L3.pZ, L2.L3.sE, L2.L3.CB, L2.L3.nM, L2.L3.nP, L2.L3.FE, L2.L3.az, L2.L3.ae, L2.L3.av, L2.L3.bQ, L2.L3.jZ, L2.L3.o6, L2.L3.cS, L2.L3.o3, L2.L3.Gg, L2.L3.nz, L2.L3.dq, L2.L3.aV, L2.L3.iC, L2.L3.rL, L2.L3.se, L2.L3.iU, L2.L3.cU, L2.L3.aD, MP, List.map_nil, MQ, Nj, List.cons_append, List.nil_append, Nf, MV, MS, List.getElem?_nil, List.set_cons_zero, List.set_cons_succ, Option.some.injEq, L2.L3.Lo.d.injEq, L2.L3.Lo.own.injEq, L2.L3.D.bl.injEq, L2.L3.D.int.injEq, exists_eq_left', exists_eq_left, Nat.reduceAdd, Nat.reduceSub, Nat.sub_self, Nat.add_one_sub_one, List.replicate_succ, List.replicate_zero, L2.L3.D.tup.injEq, List.cons.injEq, and_assoc, L2.L3.gP, L2.L3.gp, L2.L3.so, L2.L3.je, L2.L3.kD, L2.L3.kG, L2.L3.kR, L2.L3.oF, L2.L3.zb, L2.L3.sx, L2.L3.yb, L2.L3.yu, L2.L3.yQ, L2.L3.kh, L2.L3.nW, L2.L3.oV, L2.L3.vL, L2.L3.vn, L2.L3.oK, L2.L3.oT, L2.L3.iD, L2.L3.iM, L2.L3.qS, L2.L3.qV, L2.L3.CZ, L2.L3.yT, L2.L3.yX, MU, true_and, and_true, if_true, if_false, Mr, Bool.not_eq_true', decide_eq_false_iff_not, MK, Int.reduceToNat, Int.reducePow, Int.reduceMul, Int.reduceAdd, Int.reduceNeg, Int.reduceSub, Int.reduceLT, Int.reduceLE, Int.reduceEq, Nat.reduceEqDiff, decide_true, decide_false, Nat.reduceLeDiff, Nat.reduceLT, Bool.true_eq_false, Bool.not_true, Bool.not_false, Bool.not_not])))
local macro_rules | `(tactic| simp_arith! only [$ls,*] $[$loc]?) => `(tactic| ((try dsimp only [$(⟨ls.elemsAndSeps⟩),*, L2.L3.aJ, L2.L3.iW, L2.L3.ck, L2.L3.bN, L2.L3.jQ, L2.L3.ia, L2.L3.bY, L2.L3.l7, L2.L3.oM, L2.L3.hU, L2.L3.cV, L2.L3.dE, L2.L3.ef, L2.L3.sN, L2.L3.af, L2.L3.cC, L2.L3.aG, L2.L3.vU, L2.L3.aL, L2.L3.pZ, L2.L3.sE, L2.L3.CB, L2.L3.nM, L2.L3.nP, L2.L3.FE, L2.L3.az, L2.L3.ae, L2.L3.av, L2.L3.bQ, L2.L3.jZ, L2.L3.o6, L2.L3.cS, L2.L3.o3, L2.L3.Gg, L2.L3.nz, L2.L3.dq, L2.L3.aV, L2.L3.iC, L2.L3.iU, L2.L3.cU, L2.L3.aD, MP, List.map_nil, MQ, Nj, List.cons_append, List.nil_append, MV, MS, List.set_cons_zero, List.set_cons_succ, L2.L3.gP, L2.L3.gp, L2.L3.so, L2.L3.je, L2.L3.kD, L2.L3.kG, L2.L3.kR, L2.L3.oF, L2.L3.kh, L2.L3.nW, L2.L3.oV, L2.L3.oK, L2.L3.oT, L2.L3.iD, L2.L3.iM, L2.L3.kP, L2.L3.eu, L2.L3.qK] $[$loc]?); (try simp only [$ls,*, L2.L3.aJ, L2.L3.iW, L2.L3.ck, L2.L3.bN, L2.L3.jQ, L2.L3.ia, L2.L3.bY, L2.L3.l7, L2.L3.oM, L2.L3.hU, L2.L3.cV, L2.L3.dE, L2.L3.ef, L2.L3.sN, L2.L3.af, L2.L3.cC, L2.L3.aG, L2.L3.vU, L2.L3.aL, L2.L3.pZ, L2.L3.sE, L2.L3.CB, L2.L3.nM, L2.L3.nP, L2.L3.FE, L2.L3.az, L2.L3.ae, L2.L3.av, L2.L3.bQ, L2.L3.jZ, L2.L3.o6, L2.L3.cS, L2.L3.o3, L2.L3.Gg, L2.L3.nz, L2.L3.dq, L2.L3.aV, L2.L3.iC, L2.L3.rL, L2.L3.se, L2.L3.iU, L2.L3.cU, L2.L3.aD, MP, List.map_nil, MQ, Nj, List.cons_append, List.nil_append, Nf, MV, MS, List.getElem?_nil, List.set_cons_zero, List.set_cons_succ, Option.some.injEq, L2.L3.Lo.d.injEq, L2.L3.Lo.own.injEq, L2.L3.D.bl.injEq, L2.L3.D.int.injEq, exists_eq_left', exists_eq_left, Nat.reduceAdd, Nat.reduceSub, Nat.sub_self, Nat.add_one_sub_one, List.replicate_succ, List.replicate_zero, L2.L3.D.tup.injEq, List.cons.injEq, and_assoc, L2.L3.gP, L2.L3.gp, L2.L3.so, L2.L3.je, L2.L3.kD, L2.L3.kG, L2.L3.kR, L2.L3.oF, L2.L3.zb, L2.L3.sx, L2.L3.yb, L2.L3.yu, L2.L3.yQ, L2.L3.kh, L2.L3.nW, L2.L3.oV, L2.L3.vL, L2.L3.vn, L2.L3.oK, L2.L3.oT, L2.L3.iD, L2.L3.iM, L2.L3.qS, L2.L3.qV, L2.L3.CZ, L2.L3.yT, L2.L3.yX, MU, true_and, and_true, if_true, if_false, Mr, Bool.not_eq_true', decide_eq_false_iff_not, MK, Int.reduceToNat, Int.reducePow, Int.reduceMul, Int.reduceAdd, Int.reduceNeg, Int.reduceSub, Int.reduceLT, Int.reduceLE, Int.reduceEq, Nat.reduceEqDiff, decide_true, decide_false, Nat.reduceLeDiff, Nat.reduceLT, Bool.true_eq_false, Bool.not_true, Bool.not_false, Bool.not_not, L2.L3.kP, L2.L3.tL, L2.L3.ue, L2.L3.D.lst.injEq, L2.L3.eu, L2.L3.qK] $[$loc]?)))
namespace L2.L3
open PySem
def F1 (P:D→(D→Prop)→Prop):Fw:=fun ds Q=>∃x,ds=[x]∧P x Q
def F2 (P:D→D→(D→Prop)→Prop):Fw:=fun ds Q=>∃x y,ds=[x,y]∧P x y Q
def F3 (P:D→D→D→(D→Prop)→Prop):Fw:=fun ds Q=>∃x y z,ds=[x,y,z]∧P x y z Q
def F4 (P:D→D→D→D→(D→Prop)→Prop):Fw:=fun ds Q=>∃x y z u,ds=[x,y,z,u]∧P x y z u Q
theorem o8 {P}:∀ds Q,F1 P ds Q→ds.length=1:=by rintro ds Q ⟨x,rfl,_⟩;rfl
theorem kr {P}:∀ds Q,F2 P ds Q→ds.length=2:=by rintro ds Q ⟨x,y,rfl,_⟩;rfl
theorem ud {P}:∀ds Q,F3 P ds Q→ds.length=3:=by rintro ds Q ⟨x,y,z,rfl,_⟩;rfl
theorem IZ {P}:∀ds Q,F4 P ds Q→ds.length=4:=by rintro ds Q ⟨x,y,z,u,rfl,_⟩;rfl
theorem pF {P} {x:D} {Q}:F1 P [x] Q=P x Q:=by
 unfold F1;apply propext;constructor
 ·rintro⟨x',e,h⟩;cases e;exact h
 ·intro h;exact⟨_,rfl,h⟩
theorem fX {P} {x y:D} {Q}:F2 P [x,y] Q=P x y Q:=by
 unfold F2;apply propext;constructor
 ·rintro⟨x',y',e,h⟩;cases e;exact h
 ·intro h;exact⟨_,_,rfl,h⟩
theorem xt {P} {x y z:D} {Q}:F3 P [x,y,z] Q=P x y z Q:=by
 unfold F3;apply propext;constructor
 ·rintro⟨x',y',z',e,h⟩;cases e;exact h
 ·intro h;exact⟨_,_,_,rfl,h⟩
theorem FW {P} {x y z u:D} {Q}:F4 P [x,y,z,u] Q=P x y z u Q:=by
 unfold F4;apply propext;constructor
 ·rintro⟨x',y',z',u',e,h⟩;cases e;exact h
 ·intro h;exact⟨_,_,_,_,rfl,h⟩
def x5:D→Bool | .int _=>true | _=>false
def rP (x:D) (Q:D→Prop):Prop:=Pl x∧Q (.bl (x5 x))
def eG:Fw:=F1 rP
def lN:bS:=(ck (nM (o6 "int" (af 0)) (nP (o6 "bool" (af 0)))))
theorem vj:∀ds Q,eG ds Q→ds.length=1:=o8
theorem pI:∀ds (Q:D→Prop),eG ds Q→lN { nx:=fun _=>Q .non,rt:=Q } (aD ["thing"] ds):=by
 rintro ds Q ⟨x,rfl,hx,h⟩
 simp_all_arith only [lN]
 refine ES hx ⟨_,rfl,?_⟩;cases x <;> simp only [isInt,if_true,Mr,if_false] <;> first | exact h | exact Iw hx ⟨_,rfl,h⟩
def zC (ns:List Int) (k:Int):Int:=if k < ns.length then ns.getD k.toNat 0 else 0
def zJ (x y:D) (Q:D→Prop):Prop:=∃(ns:List Int) (k:Int),x=.lst (ns.map D.int)∧y=.int k∧0≤k∧Q (.int (zC ns k))
def y4:Fw:=F2 zJ
def rN:bS:=(aJ (iW (aL (aG Eg (af 1) (az gy (ae (af 0) av)))) (ck (aG cX (af 0) (af 1))) bN) (ck (cC (.int 0))))
theorem xo:∀ds (Q:D→Prop),y4 ds Q→rN { nx:=fun _=>Q .non,rt:=Q } (aD ["_law_script","_law_k"] ds):=by
 rintro ds Q ⟨x,y,rfl,ns,k,rfl,rfl,hk,h⟩
 simp_all_arith only [rN,My]
 unfold zC at h
 by_cases hl:k < ns.length
 ·rw [Mw hl] at h ⊢;have hn:k.toNat < ns.length:=by omega
  refine⟨.int (ns.getD k.toNat 0),?_,h⟩;rw [qq hk (by simpa using hl)];simp [hn]
 ·rw [Mo hl] at h ⊢;exact h
def eO:Fw:=F1 rP
def pJ:bS:=(ck (nM (o6 "int" (af 0)) (nP (o6 "bool" (af 0)))))
theorem sJ:∀ds Q,eO ds Q→ds.length=1:=o8
theorem vM:∀ds (Q:D→Prop),eO ds Q→pJ { nx:=fun _=>Q .non,rt:=Q } (aD ["_law_thing_here"] ds):=by
 exact pI
end L2.L3
namespace L2
open PySem PySem.Spec PyProof.Rows
theorem Inv.E5 {X:Cx} {pins:List (Addr×Obj)} {σ:St} {H:Hp} {s:Shared} {h':Heap} {t':Nat} {ch:List Addr} (I:Inv X pins σ H s) (k:∀b o,b∉ch→s.heap.get? b=some o→h'.get? b=some o) (hf:∀b∈ch,mi X pins H b) :
  Inv X pins σ H { s with heap:=h',toks:=t' }:=by
 have far:∀b u,H b=some u→b∉ch:=fun b u e z=>by rw [(hf b z).1] at e;cases e
 refine I.step (g':=s.gens) (d':=s.drawn) (ch:=ch) (fun b hb=>⟨(hf b hb).2.2.2.1,(hf b hb).2.1,(hf b hb).2.2.2.2.1,(hf b hb).2.2.2.2.2⟩) (fun b o _ _ hc e _=>k b o hc e) (fun b o _ _ hc e _=>⟨o.slots,k b o hc e⟩)
  (fun _ _ _ _ n=>n) (fun b o hc e=>⟨o,k b o hc e⟩) (fun _ _ e=>e) (fun _ _ _ e=>e) (fun b ps e=>⟨#[],by rw [e];simp⟩) (fun m hm=>?_) (fun b u e=>?_) I.bare
 ·obtain⟨o,es,ep,ho,r⟩:=hm;exact⟨o,es,ep,k _ o (fun z=>(hf _ z).2.1 rfl) ho,r⟩
 ·refine (I.hok b u e).yn (fun c v hc q=>k c v ?_ q) (fun _ q=>q) fun _ _ q=>q;rcases hc with z | z
  ·rw [z];exact far b u e
  ·exact far c _ z
section
variable {prog:Program} {w:World} {A:Around} {E:Value→Shared→Prop} {s:Shared}
theorem G1 {j l:Addr} {k:Nat} {its:Array Value} {y:Value} {Q:Value→Shared→Prop} (hj:s.heap.IsTupleIter j l k) (hl:s.heap.IsTuple l its) (hy:its[k]?=some y)
  (q:∀h1,h1.IsTupleIter j l (k + 1)→Heap.SameBut j s.heap h1→Q y { s with heap:=h1 }):wpAny (model prog w) A (Builtin.SmallTypes.nextOf (.ref j)) Q E s:=by
 obtain⟨oj,e1,c1,d1⟩:=id hj;obtain⟨ot,e2,_,_,d2⟩:=hl;unfold Builtin.SmallTypes.nextOf;refine Mj (Nb (name:=Str.ofString "__next__") hj.typeIs F.slot_tuple_iterator_next (wpAny_call_entry F.slot_tuple_iterator_next hj.typeIs F.entry_tuple_iterator_next ?_ (F.args_tuple_iterator_next_1 _)))
 show wpAny _ _ (field (.ref j) 0 >>= _) _ _ s
 refine Mj (wpAny_field e1 d1 (x:=.ref l) rfl ?_);show wpAny _ _ (if (Value.ref l == Value.none)=true then _ else _) _ _ s
 rw [Mo (show ¬ ((Value.ref l == Value.none)=true) from Bool.false_ne_true)];show wpAny _ _ (field (.ref j) 1 >>= _) _ _ s
 refine Mj (wpAny_field e1 d1 (x:=.int k 0) rfl ?_);show wpAny _ _ (seqItems? (.ref l) >>= _) _ _ s
 refine Mj (wpAny_seqItems e2 d2 ?_);simp only [Int.toNat_natCast,hy];refine Mj (wpAny_setField e1 d1 (by simp) (Mp ⟨y,rfl,Mp (q _ ?_ (Heap.SameBut.update ..))⟩));exact⟨_,Heap.get?_update_self _ e1 (Obj.isFreed_of_fields (Obj.data_mapFields d1 _)),(Obj.cls_mapFields ..).trans c1,by rw [Obj.data_mapFields d1];simp [rawInt]⟩
theorem y3 {j l:Addr} {k:Nat} {its:Array Value} {Q:Value→Shared→Prop} (hh:A.handled=none) (hj:s.heap.IsTupleIter j l k) (hl:s.heap.IsTuple l its) (hy:its[k]?=none)
  (q:∀h1 e,Heap.ExtBut j s.heap h1→(∃o,h1.get? e=some o∧o.cls=.type "StopIteration")→E (.ref e) { s with heap:=h1 }):wpAny (model prog w) A (Builtin.SmallTypes.nextOf (.ref j)) Q E s:=by
 obtain⟨oj,e1,c1,d1⟩:=id hj;obtain⟨ot,e2,_,_,d2⟩:=hl;unfold Builtin.SmallTypes.nextOf;refine Mj (Nb (name:=Str.ofString "__next__") hj.typeIs F.slot_tuple_iterator_next (wpAny_call_entry F.slot_tuple_iterator_next hj.typeIs F.entry_tuple_iterator_next ?_ (F.args_tuple_iterator_next_1 _)))
 show wpAny _ _ (field (.ref j) 0 >>= _) _ _ s
 refine Mj (wpAny_field e1 d1 (x:=.ref l) rfl ?_);show wpAny _ _ (if (Value.ref l == Value.none)=true then _ else _) _ _ s
 rw [Mo (show ¬ ((Value.ref l == Value.none)=true) from Bool.false_ne_true)];show wpAny _ _ (field (.ref j) 1 >>= _) _ _ s
 refine Mj (wpAny_field e1 d1 (x:=.int k 0) rfl ?_);show wpAny _ _ (seqItems? (.ref l) >>= _) _ _ s
 refine Mj (wpAny_seqItems e2 d2 ?_);simp only [Int.toNat_natCast,hy];refine Mj (wpAny_rule (Mj (wpAny_setField e1 d1 (by simp) (show wpAny _ _ (newExc (.type "StopIteration") [] >>= _) _ _ _ from Mj ?_))))
 simp only [newExc,newTuple];refine Mj (wpAny_newObj_type (Mj (m:=firstArgMember _ _) (wpAny_of_eq (a:=Value.none) (by first | rfl | (simp only [firstArgMember];rfl)) (wpAny_newObj_type ?_ (by size_fits)))) (by size_fits));simp only [raiseNew];refine Mj (wpAny_handled ?_)
 first | rw [show A.in1.handled=none from hh] | rw [hh]
 exact Mj (Mp (wpAny_throw (q _ _ (((Heap.SameBut.update ..).extBut.push _).push _) ⟨_,MM _ rfl,rfl⟩)))
theorem Ej {e j:Addr} {k:Nat} {y z:Value} {T:Heap→Prop} {Q:Value→Shared→Prop} (he:IsEnum s.heap e j k z) (ne:e≠j)
  (nx:∀R:Value→Shared→Prop,(∀h1,T h1→Heap.SameBut j s.heap h1→R y { s with heap:=h1 })→wpAny (model prog w) A (Builtin.SmallTypes.nextOf (.ref j)) R E s)
  (mv:∀h1 h2:Heap,T h1→(∀o,h1.get? j=some o→h2.get? j=some o)→T h2) (hj:∀h1,T h1→∃o,h1.get? j=some o)
  (q:∀h1,IsEnumOut h1 e j ((k:Int) + 1) y s.heap.objs.size→T h1→h1.get? s.heap.objs.size=some { cls:=.type "tuple",data:=.seq #[.int k s.toks,y] }→(∀b o,b≠e→b≠j→s.heap.get? b=some o→h1.get? b=some o) →
   Q (.ref s.heap.objs.size) { s with heap:=h1,toks:=s.toks + 1 }) :
  wpAny (model prog w) A (Builtin.«enumerate.__next__» ⟨[.ref e],[]⟩) (fun fin s'=>∃v,fin=.done (.ret v)∧Q v s') E s:=by
 obtain⟨hp,g,d,tk,os⟩:=s;show wpAny _ _ (field (.ref e) 2 >>= _) _ _ _
 refine Mj (wpAny_field he rfl (x:=.ref j) rfl (Mj (nx _ fun g1 t1 b1=>?_)))
 replace b1:Heap.SameBut j hp g1:=b1
 have i1:IsEnum g1 e j k z:=(b1.2 e ne).trans he;show wpAny _ _ (field (.ref e) 3 >>= _) _ _ ⟨g1,g,d,tk,os⟩
 refine Mj (wpAny_field i1 rfl (x:=rawInt k) rfl ?_);show wpAny _ _ (field (.ref e) 4 >>= _) _ _ ⟨g1,g,d,tk,os⟩
 refine Mj (wpAny_field i1 rfl (x:=.none) rfl ?_);show wpAny _ _ (mkInt k >>= _) _ _ ⟨g1,g,d,tk,os⟩
 refine Mj (wpAny_mkInt ?_);show wpAny _ _ (setField (.ref e) 3 (rawInt ((k:Int) + 1)) >>= _) _ _ ⟨g1,g,d,tk + 1,os⟩
 refine Mj (wpAny_setField_rec i1 (by simp) fun g2 i2 b2=>?_)
 replace b2:Heap.SameBut e g1 g2:=b2
 replace i2:IsEnum g2 e j ((k:Int) + 1) z:=i2
 show wpAny _ _ (setField (.ref e) 4 .none >>= _) _ _ ⟨g2,g,d,tk + 1,os⟩
 refine Mj (wpAny_setField_rec i2 (by simp) fun g3 i3 b3=>?_)
 replace b3:Heap.SameBut e g2 g3:=b3
 replace i3:IsEnum g3 e j ((k:Int) + 1) z:=i3
 show wpAny _ _ (newTuple [.int k tk,y] >>= _) _ _ ⟨g3,g,d,tk + 1,os⟩
 refine Mj (wpAny_newTuple ?_);have i4:IsEnum (g3.push { cls:=.type "tuple",data:=.seq #[.int k tk,y] }) e j ((k:Int) + 1) z:=Mz _ i3
 generalize eg:g3.push { cls:=.type "tuple",data:=.seq #[.int k tk,y] }=g4 at i4
 have sz:g3.objs.size=hp.objs.size:=by rw [b3.1,b2.1,b1.1]
 have lt:e < hp.objs.size:=ML he;have t4:g4.get? hp.objs.size=some { cls:=.type "tuple",data:=.seq #[.int k tk,y] }:=by rw [← eg,← sz];exact MM _ rfl
 have k4:∀b o,b≠e→b≠j→hp.get? b=some o→g4.get? b=some o:=fun b o n1 n2 hb=>by
  rw [← eg];exact Mz _ (b3.extBut b o n1 (b2.extBut b o n1 (b1.extBut b o n2 hb)))
 have T4:T g4:=mv g1 g4 t1 fun o ho=>by rw [← eg];exact Mz _ (b3.extBut j o (Ne.symm ne) (b2.extBut j o (Ne.symm ne) ho))
 show wpAny _ _ (Builtin.SmallTypes.ownedTupleIsFree (.ref e) >>= _) _ _ ⟨g4,g,d,tk + 1,os⟩
 rw [sz];clear eg i3 b3 i2 b2 i1 b1 t1 sz g3 g2 g1;refine Mj ?_;unfold Builtin.SmallTypes.ownedTupleIsFree;refine Mj (wpAny_field i4 rfl (x:=.none) rfl (Mp ?_));simp only [if_true];refine Mj (wpAny_rule (Mj (wpAny_field i4 rfl (x:=z) rfl (Mj (wpAny_setField_rec i4 (by simp) fun g5 i5 b5=>?_)))))
 replace b5:Heap.SameBut e g4 g5:=b5
 replace i5:IsEnum g5 e j ((k:Int) + 1) y:=i5
 show wpAny _ _ (Builtin.SmallTypes.ownedTupleHandOut (.ref e) (.ref hp.objs.size) >>= _) _ _ ⟨g5,g,d,tk + 1,os⟩
 refine Mj ?_;unfold Builtin.SmallTypes.ownedTupleHandOut;refine Mj (wpAny_setField_rec i5 (by simp) fun g6 i6 b6=>?_)
 replace b6:Heap.SameBut e g5 g6:=b6
 replace i6:IsEnumOut g6 e j ((k:Int) + 1) y hp.objs.size:=i6
 refine wpAny_setField_rec i6 (by simp) fun g7 i7 b7=>?_
 replace b7:Heap.SameBut e g6 g7:=b7
 replace i7:IsEnumOut g7 e j ((k:Int) + 1) y hp.objs.size:=i7
 have far:∀b o,b≠e→g4.get? b=some o→g7.get? b=some o:=fun b o n hb=>b7.extBut _ _ n (b6.extBut _ _ n (b5.extBut _ _ n hb));refine Mj (wpAny_letGo (Mp ⟨_,rfl,q g7 i7 (mv g4 g7 T4 fun o ho=>far j o (Ne.symm ne) ho) (far _ _ (Nat.ne_of_gt lt) t4) fun b o n1 n2 hb=>far b o n1 (k4 b o n1 n2 hb)⟩))
theorem zN {e j:Addr} {k:Nat} {y z:Value} {T:Heap→Prop} {Q:Option Value→Shared→Prop} (he:IsEnum s.heap e j k z) (ne:e≠j)
  (nx:∀(A':Around) (E':Value→Shared→Prop) (R:Value→Shared→Prop),(∀h1,T h1→Heap.SameBut j s.heap h1→R y { s with heap:=h1 })→wpAny (model prog w) A' (Builtin.SmallTypes.nextOf (.ref j)) R E' s)
  (mv:∀h1 h2:Heap,T h1→(∀o,h1.get? j=some o→h2.get? j=some o)→T h2) (hj:∀h1,T h1→∃o,h1.get? j=some o)
  (q:∀h1,IsEnumOut h1 e j ((k:Int) + 1) y s.heap.objs.size→T h1→h1.get? s.heap.objs.size=some { cls:=.type "tuple",data:=.seq #[.int k s.toks,y] }→(∀b o,b≠e→b≠j→s.heap.get? b=some o→h1.get? b=some o) →
   Q (some (.ref s.heap.objs.size)) { s with heap:=h1,toks:=s.toks + 1 }):wpAny (model prog w) A (pyNext (.ref e)) Q E s:=by
 have ty:s.TypeIs (.ref e) "enumerate":=⟨_,he,rfl⟩
 unfold pyNext
 exact Mj (wpAny_attempt (Nb (name:=Str.ofString "__next__") ty F.slot_enumerate_next (wpAny_call_entry F.slot_enumerate_next ty F.entry_enumerate_next
  (Ej he ne (fun R hR=>nx _ _ R hR) mv hj fun h1 a b c d=>Mp (q h1 a b c d)) (F.args_enumerate_next_1 _))))
theorem C7 {e j:Addr} {k:Nat} {z:Value} {Q:Option Value→Shared→Prop} (he:IsEnum s.heap e j k z)
  (nx:∀(A':Around) (E':Value→Shared→Prop),A'.handled=A.handled→(∀h1 x,Heap.ExtBut j s.heap h1→(∃o,h1.get? x=some o∧o.cls=.type "StopIteration")→E' (.ref x) { s with heap:=h1 })→wpAny (model prog w) A' (Builtin.SmallTypes.nextOf (.ref j)) (fun _ _=>False) E' s)
  (q:∀h1,Heap.ExtBut j s.heap h1→Q none { s with heap:=h1 }):wpAny (model prog w) A (pyNext (.ref e)) Q E s:=by
 have ty:s.TypeIs (.ref e) "enumerate":=⟨_,he,rfl⟩
 unfold pyNext;refine Mj (wpAny_attempt (Nb (name:=Str.ofString "__next__") ty F.slot_enumerate_next (wpAny_call_entry F.slot_enumerate_next ty F.entry_enumerate_next ?_ (F.args_enumerate_next_1 _))))
 show wpAny _ _ (field (.ref e) 2 >>= _) _ _ _
 refine Mj (wpAny_field he rfl (x:=.ref j) rfl (Mj (Nd (nx _ _ rfl fun h1 x b1 c1=>?_) (fun _ _ f=>f.elim) fun _ _ u=>u)));obtain⟨o,ho,hc⟩:=c1;exact Mj (wpAny_isInstance (T:="StopIteration") (b:=true) ⟨o,ho,hc⟩ isSubtype_stop (Mp (q _ b1)))
end
end L2
namespace L2.L3
open PySem PySem.Spec PyProof.Rows
def JK (S:Hp→List V→Prop):It :=
 ⟨fun i H=>∃xs x,S H xs∧xs[i]?=some x,fun i H y H'=>∃p x,(∀xs,S H xs→xs[i]?=some x)∧H p=none∧y=.ref p∧H'=upd H p (.tup [.int i,x]),fun i H=>∃xs,S H xs∧xs.length≤i⟩
theorem CV {X:Cx} {pins:List (Addr×Obj)} {σ:St} {H:Hp} {s:Shared} {e j:Addr} {i:Nat} {x:V} {u:Value} {h2:Heap} (I:Inv X pins σ H s) (hf:∀b∈[e,j],mi X pins H b) (ru:RelV x u)
  (lt:e < s.heap.objs.size) (lj:j < s.heap.objs.size) (t1:h2.get? s.heap.objs.size=some { cls:=.type "tuple",data:=.seq #[.int i s.toks,u] }) (fr:∀b o,b≠e→b≠j→s.heap.get? b=some o→h2.get? b=some o) :
  Inv X pins σ (upd H s.heap.objs.size (.tup [.int i,x])) { s with heap:=h2,toks:=s.toks + 1 }∧H s.heap.objs.size=none:=by
 have hn:H s.heap.objs.size=none:=I.hok.fresh (Mv _);refine⟨?_,hn⟩
 have I1:Inv X pins σ (upd H s.heap.objs.size (.tup [.int i,x])) { s with heap:=s.heap.push { cls:=.type "tuple",data:=.seq #[.int i s.toks,u] },toks:=s.toks } :=
  I.laid (t':=s.toks) (fun b o e=>Mz _ e) (Mv _) (show c6 X.prog X.w _ _ _ (.tup [.int i,x]) from ⟨by simp [MK],[.int i s.toks,u],.cons ⟨_,rfl⟩ (.cons ru .nil),uO.new _ _⟩)
 refine Inv.E5 (s:={ s with heap:=s.heap.push { cls:=.type "tuple",data:=.seq #[.int i s.toks,u] },toks:=s.toks }) (h':=h2) (t':=s.toks + 1) (ch:=[e,j]) I1 (fun b o hb hg=>?_) fun b hb=>?_
 ·have nb1:b≠e:=fun z=>hb (by simp [z]);have nb2:b≠j:=fun z=>hb (by simp [z]);rcases Heap.get?_push_cases hg with ⟨rfl,rfl⟩ | hg
  ·exact t1
  ·exact fr b o nb1 nb2 hg
 ·obtain⟨f0,f⟩:=hf b hb;refine⟨?_,f⟩;rw [aq];exact f0;rcases MA.mp hb with rfl | hb
  ·exact MY lt
  ·rw [MG.mp hb];exact MY lj
theorem Di {P:Program} {w:World} {K:Mn} {elts:List Expr} {x1:Nat} {tp:Pos} (a e j:Addr) (ne:e≠j):Turn P w K (.Tuple elts x1 tp) (JK fun H xs=>fU K H a xs) [e,j] e (fun i h=>(∃z,IsEnum h e j i z)∧h.IsListIter j a i) where
 mem:=by simp
 obj:=fun i h st b hb=>by
  obtain⟨⟨z,e1⟩,o,e2,c,d⟩:=st;rcases MA.mp hb with rfl | hb
  ·exact⟨_,e1,fun v q=>by
    have q':Data.fields _=Data.cell v:=q
    cases q'⟩
  ·rw [MG.mp hb];exact⟨o,e2,fun v q=>by rw [d] at q;cases q⟩
 keep:=fun i h h' st k=>⟨⟨st.1.choose,k e (by simp) _ st.1.choose_spec⟩,st.2.at fun o q=>k j (by simp) o q⟩
 item:=by
  intro X hP hw hK hc i pins s σ H E I hf st hg;subst hP hw hK;obtain⟨⟨z,he⟩,hj⟩:=st;obtain⟨xs,x,hq,hx⟩:=hg;obtain⟨its,rv,p,hz⟩:=I.list hq;obtain⟨u,hu,ru⟩:=rv.get hx;have lt:e < s.heap.objs.size:=ML he;have lj:j < s.heap.objs.size:=by obtain⟨_,q,_⟩:=hj;exact ML q
  refine zN (T:=fun h=>h.IsListIter j a (i + 1)) he ne (fun A' E' R hR=>wpAny_nextOf_list_item hj p.isList (x:=u) (by simpa using hu) hR) (fun h1 h2 t k=>t.at fun o q=>k o q) (fun h1 t=>let ⟨o,q,_⟩:=t;⟨o,q⟩) fun h1 o1 t1 n1 fr=>?_
  refine⟨_,rfl,wpAny_letOwnedTupleGo_enum o1 fun h2 e2 b2=>?_⟩;have n2:h2.get? s.heap.objs.size=some { cls:=.type "tuple",data:=.seq #[.int i s.toks,u] }:=(b2.2 _ (Nat.ne_of_gt lt)).trans n1
  obtain⟨I2,hn⟩:=CV (h2:=h2) I hf ru lt lj n2 fun b o q1 q2 q3=>(b2.2 b q1).trans (fr b o q1 q2 q3);refine⟨.ref s.heap.objs.size,_,I2,rfl,⟨_,x,fun ys hy=>by rw [I.r8 hy hq];exact hx,hn,rfl,rfl⟩,⟨⟨u,by simpa using e2⟩,t1.at fun o q=>(b2.2 j (Ne.symm ne)).trans q⟩,fun b hb=>?_⟩;rw [aq];exact (hf b hb).1;rcases MA.mp hb with rfl | hb
  ·exact MY lt
  ·rw [MG.mp hb];exact MY lj
 done:=by
  intro X hP hw hK hc i pins s σ H E I hf st hg;subst hP hw hK;obtain⟨⟨z,he⟩,hj⟩:=st;obtain⟨xs,hq,hx⟩:=hg;obtain⟨its,rv,p,hz⟩:=I.list hq;have hl:=rv.length;refine C7 he (fun A' E' hA hE=>wpAny_nextOf_list_end (hA.trans (I.ok.hd hc)) hj p.isList (by simp;omega) hE) fun h1 b1=>⟨rfl,?_⟩;obtain⟨f0,f1,f2,f3,f4,f5⟩:=hf j (by simp);exact I.turned (t':=s.toks) (fun b o hb e=>b1 b o hb e) f0 f1 f3 f4 f5
 self:=fun _ _ _ _ _ st h=>wpAny_pyIter_enum st.1.choose_spec h
theorem Dw {P:Program} {w:World} {K:Mn} {elts:List Expr} {x1:Nat} {tp:Pos} (a e j:Addr) (ne:e≠j):Turn P w K (.Tuple elts x1 tp) (JK fun H xs=>jv K H a xs) [e,j] e (fun i h=>(∃z,IsEnum h e j i z)∧h.IsTupleIter j a i) where
 mem:=by simp
 obj:=fun i h st b hb=>by
  obtain⟨⟨z,e1⟩,o,e2,c,d⟩:=st;rcases MA.mp hb with rfl | hb
  ·exact⟨_,e1,fun v q=>by
    have q':Data.fields _=Data.cell v:=q
    cases q'⟩
  ·rw [MG.mp hb];exact⟨o,e2,fun v q=>by rw [d] at q;cases q⟩
 keep:=fun i h h' st k=>⟨⟨st.1.choose,k e (by simp) _ st.1.choose_spec⟩,st.2.at fun o q=>k j (by simp) o q⟩
 item:=by
  intro X hP hw hK hc i pins s σ H E I hf st hg;subst hP hw hK;obtain⟨⟨z,he⟩,hj⟩:=st;obtain⟨xs,x,hq,hx⟩:=hg;obtain⟨its,rv,p,hz⟩:=I.tuple hq;obtain⟨u,hu,ru⟩:=rv.get hx;have lt:e < s.heap.objs.size:=ML he;have lj:j < s.heap.objs.size:=by obtain⟨_,q,_⟩:=hj;exact ML q
  refine zN (T:=fun h=>h.IsTupleIter j a (i + 1)) he ne (fun A' E' R hR=>G1 hj (show s.heap.IsTuple a its.toArray from p) (y:=u) (by simpa using hu) hR) (fun h1 h2 t k=>t.at fun o q=>k o q) (fun h1 t=>let ⟨o,q,_⟩:=t;⟨o,q⟩) fun h1 o1 t1 n1 fr=>?_
  refine⟨_,rfl,wpAny_letOwnedTupleGo_enum o1 fun h2 e2 b2=>?_⟩;have n2:h2.get? s.heap.objs.size=some { cls:=.type "tuple",data:=.seq #[.int i s.toks,u] }:=(b2.2 _ (Nat.ne_of_gt lt)).trans n1
  obtain⟨I2,hn⟩:=CV (h2:=h2) I hf ru lt lj n2 fun b o q1 q2 q3=>(b2.2 b q1).trans (fr b o q1 q2 q3);refine⟨.ref s.heap.objs.size,_,I2,rfl,⟨_,x,fun ys hy=>by rw [I.nV hy hq];exact hx,hn,rfl,rfl⟩,⟨⟨u,by simpa using e2⟩,t1.at fun o q=>(b2.2 j (Ne.symm ne)).trans q⟩,fun b hb=>?_⟩;rw [aq];exact (hf b hb).1;rcases MA.mp hb with rfl | hb
  ·exact MY lt
  ·rw [MG.mp hb];exact MY lj
 done:=by
  intro X hP hw hK hc i pins s σ H E I hf st hg;subst hP hw hK;obtain⟨⟨z,he⟩,hj⟩:=st;obtain⟨xs,hq,hx⟩:=hg;obtain⟨its,rv,p,hz⟩:=I.tuple hq;have hl:=rv.length;refine C7 he (fun A' E' hA hE=>y3 (hA.trans (I.ok.hd hc)) hj (show s.heap.IsTuple a its.toArray from p) (by simp;omega) hE) fun h1 b1=>⟨rfl,?_⟩;obtain⟨f0,f1,f2,f3,f4,f5⟩:=hf j (by simp);exact I.turned (t':=s.toks) (fun b o hb e=>b1 b o hb e) f0 f1 f3 f4 f5
 self:=fun _ _ _ _ _ st h=>wpAny_pyIter_enum st.1.choose_spec h
section
variable {prog:Program} {w:World} {A:Around} {E:Value→Shared→Prop} {s:Shared}
open AutoSeq1 (wpAny_loadPart') in
theorem HZ (l:Addr) (its:Array Value) (o:Obj) (c:o.cls=.type "tuple") (n:Nat) (dd:o.data=.seq its n) :
  Meets (Builtin.«enumerate.__new__» ⟨[.type "enumerate",.ref l],[]⟩) (fun _ R s=>s.heap.get? l=some o ∧
   R (.ok (.ret (.ref (s.heap.push { cls:=.type "tuple_iterator",data:=.fields #[.ref l,.int 0 0] }).objs.size)))
    { s with heap:=(s.heap.push { cls:=.type "tuple_iterator",data:=.fields #[.ref l,.int 0 0] }).push { cls:=.type "enumerate",data:=.fields #[.none,.bool false,.ref s.heap.objs.size,rawInt 0,.none,.none] } }) :=
 .of_wp fun prog w A R s hh=>by
  obtain⟨oc,od,odt,osl⟩:=o
  replace c:oc=.type "tuple":=c
  replace dd:odt=.seq its n:=dd
  subst c dd;obtain⟨hp,gg,dr,tk,os⟩:=s;obtain⟨hl,q⟩:=hh;have hsub:=sub_enumerate;have hT:Heap.IsTuple (Shared.heap ⟨hp,gg,dr,tk,os⟩) l its:=⟨_,hl,rfl,n,rfl⟩
  wp_walk using wpAny_loadPart' hl
  refine wpAny_stack_any fun st=>Mp ?_
  split
  ·rename_i cc _ _ _ _ _;cases (cc == Value.type "enumerate") <;> (wp_walk using wpAny_loadPart' hl,wpAny_pyIter_tuple hT;exact⟨_,rfl,q⟩)
  ·wp_walk using wpAny_loadPart' hl,wpAny_pyIter_tuple hT
   exact⟨_,rfl,q⟩
theorem Dx {l:Addr} {its:Array Value} {Q:Value→Shared→Prop} (hl:s.heap.IsTuple l its)
  (q:∀h1,IsEnum h1 (s.heap.objs.size + 1) s.heap.objs.size 0 .none→h1.IsTupleIter s.heap.objs.size l 0→(∀b o,s.heap.get? b=some o→h1.get? b=some o)→Q (.ref (s.heap.objs.size + 1)) { s with heap:=h1 }):wpAny (model prog w) A (call (.type "enumerate") [.ref l]) Q E s:=by
 obtain⟨o,e1,c1,n,d1⟩:=hl;refine callType_new F.called_enumerate (by decide) (F.typeCall_enumerate_1 _) (F.newCall_enumerate_1 _) (fun ob=>F.args_object_init_2 ob _) F.entry_enumerate_new (HZ l its o c1 n d1) ⟨e1,?_⟩;have z:(s.heap.push { cls:=.type "tuple_iterator",data:=.fields #[.ref l,.int 0 0] }).objs.size=s.heap.objs.size + 1:=Heap.size_push ..
 show _∧_
 rw [z]
 have i1:IsEnum ((s.heap.push { cls:=.type "tuple_iterator",data:=.fields #[.ref l,.int 0 0] }).push { cls:=.type "enumerate",data:=.fields #[.none,.bool false,.ref s.heap.objs.size,rawInt 0,.none,.none] }) (s.heap.objs.size + 1) s.heap.objs.size 0 .none:=by
  have y:=MM (s.heap.push { cls:=.type "tuple_iterator",data:=.fields #[.ref l,.int 0 0] }) (o:={ cls:=.type "enumerate",data:=.fields #[.none,.bool false,.ref s.heap.objs.size,rawInt 0,.none,.none] }) rfl
  rw [z] at y;exact y
 exact⟨⟨_,i1,rfl⟩,q _ i1 ⟨_,Mz _ (MM _ rfl),rfl,rfl⟩ fun b o x=>Mz _ (Mz _ x)⟩
end
section
variable {X:Cx}
def LZ (K:Mn) (ta:TA):TI:=fun σ H R=>ta σ H fun vs H1=>∃a,vs=[.ref a]∧(((∃xs,fU K H1 a xs)∧R (JK fun H xs=>fU K H a xs) H1)∨((∃xs,jv K H1 a xs)∧R (JK fun H xs=>jv K H a xs) H1))
theorem FT {elts:List Expr} {x1:Nat} {tp:Pos} {a:Expr} {ta:TA} {p pos:Pos} (hg:Gl X "enumerate") (hm:X.mg "enumerate" = none) (ha:PA X [a] ta) (hs:starEach [a] X.env=[(false,eval a X.env)]:=by rfl) :
  PI X (.Tuple elts x1 tp) (.Call (.Name "enumerate" p) [a] [] pos) (LZ X.K ta):=by
 intro pins s σ H R I h;refine Call_ (lP I hg hm boot_enumerate (PyProof.Rows.callWith_type1 (bU (ha pos pins s σ H _ I h) fun us s1 ⟨vs,H1,I1,r1,q1⟩=>?_) hs rfl));obtain⟨l,e,q⟩:=q1;subst e
 cases r1 with
 | cons r rr =>
  cases rr;cases r
  have fin:∀b∈[s1.heap.objs.size + 1,s1.heap.objs.size],mi X pins H1 b:=fun b hb=>by
   have hb':s1.heap.objs.size≤b:=by
    rcases MA.mp hb with rfl | hb
    ·omega
    ·rw [MG.mp hb];exact Mv _
   exact I1.AR hb' (I1.hok.fresh hb')
  rcases q with ⟨⟨xs,hq⟩,q⟩ | ⟨⟨xs,hq⟩,q⟩
  ·obtain⟨its,rv,pl,hz⟩:=I1.list hq;refine call_enumerate_list pl.isList fun h1 i1 j1 _ k1=>?_;refine wpAny_pyIter_enum i1 ⟨_,[s1.heap.objs.size + 1,s1.heap.objs.size],_,_,H1,rfl,I1.kept (t':=s1.toks) k1,Di l (s1.heap.objs.size + 1) s1.heap.objs.size (Nat.succ_ne_self _),⟨⟨_,i1⟩,j1⟩,fin,q⟩
  ·obtain⟨its,rv,pl,hz⟩:=I1.tuple hq;refine Dx (show s1.heap.IsTuple l its.toArray from pl) fun h1 i1 j1 k1=>?_;refine wpAny_pyIter_enum i1 ⟨_,[s1.heap.objs.size + 1,s1.heap.objs.size],_,_,H1,rfl,I1.kept (t':=s1.toks) k1,Dw l (s1.heap.objs.size + 1) s1.heap.objs.size (Nat.succ_ne_self _),⟨⟨_,i1⟩,j1⟩,fin,q⟩
end
structure u5 (K:Mn) (J:It) (F1:Hp) (xs:List D):Prop where
 go:∀(i:Nat) (G H':Hp),ao F1 G→ao G H'→i < xs.length→J.go i H'
 yld:∀(i:Nat) (G H':Hp) (y:V) (H'':Hp) (x:D) (B:Base) (σ:St) (env:En),ao F1 G→Rep K B G H' σ env→xs[i]?=some x→J.yld i H' y H''→∃G',Rep K B G' H'' σ env∧ao G G'∧Den K G' x y
 stop:∀(G H':Hp),ao F1 G→ao G H'→J.stop xs.length H'
def jI (xs:List D):List D:=xs.mapIdx fun i x=>.tup [.int (i:Int),x]
theorem wF {xs:List D} {i:Nat} {y:D} (h:(jI xs)[i]?=some y):∃x,xs[i]?=some x∧y=.tup [.int (i:Int),x]:=by
 unfold jI at h;rw [List.getElem?_mapIdx] at h
 cases e:xs[i]? with
 | none=>rw [e] at h;cases h
 | some x=>rw [e] at h;cases h;exact⟨x,rfl,rfl⟩
theorem n9 {xs:List D}:(jI xs).length=xs.length:=by simp [jI]
theorem xq {K:Mn} {F1:Hp} {vs:List V} {xs:List D} {S:Hp→List V→Prop} (hS:∀G H',ao F1 G→ao G H'→S H' vs) (r:aj K F1 xs vs):u5 K (JK S) F1 (jI xs) where
 go:=fun i G H' s1 s2 hi=>by
  rw [n9] at hi;have:i < vs.length:=by rw [← r.length];exact hi
  exact⟨vs,vs[i],hS G H' s1 s2,by simp [this]⟩
 yld:=fun i G H' y H'' x B σ env s1 rp hx hy=>by
  obtain⟨x',hx',rfl⟩:=wF hx;obtain⟨v,h1,h2⟩:=r.get hx';obtain⟨p,u,q1,q3,rfl,rfl⟩:=hy;have q2:=q1 vs (hS G H' s1 rp.fh);rw [h1] at q2;cases q2;obtain⟨r2,s2⟩:=rp.laid (o:=.tup [.int i,v]) q3;exact⟨_,r2,s2,gx (jv.of au) (aM bE (aM (Den.mono (s1.trans s2) _ _ h2) aO))⟩
 stop:=fun G H' s1 s2=>⟨vs,hS G H' s1 s2,by rw [n9,r.length];exact Mv _⟩
section
variable {X:Cx} {N':List Str} {ix:List Nat} {scope:Scope} {elt iter a b:Expr} {ifs:List Expr} {x y:Str} {px py tp pos:Pos} {c:Nat} {tt:TB} {te ti:TD} {ts:ft}
def CN (d:D):Option (List D):=match d with | .lst xs=>some xs | .tup xs=>some xs | _=>none
theorem CG {B:Base} {σ:St} {F H:Hp} {env:En} {P:List D→Prop} {R:It→Hp→Prop} (hi:QA X [a] ts) (rp:Rep X.K B F H σ env) (h:ts env fun ds=>∃d xs,ds=[d]∧CN d=some xs∧P (jI xs))
  (hR:∀(J:It) (F1 H1:Hp) (xs:List D),Rep X.K B F1 H1 σ env→ao F F1→u5 X.K J F1 xs→P xs→R J H1) :
  LZ X.K (wA X [a]) σ H R:=by
 refine cw (hi B σ F H env _ rp h) fun vs H1 hq0=>?_;obtain⟨F1,ds,r1,s1,d1,d,xs,hx,hd,q1⟩:=hq0;subst hx;simp only [aj] at d1;obtain⟨v,r,rfl,dv,rfl⟩:=d1
 cases d with
 | lst ys =>
  simp only [CN] at hd;cases hd;simp only [Den] at dv;obtain⟨l,vs,rfl,q,r⟩:=dv
  exact⟨l,rfl,.inl ⟨⟨vs,r1.fh.seq q⟩,hR _ F1 H1 _ r1 s1 (xq (fun G H' z1 z2=>z2.seq (z1.seq q)) r) q1⟩⟩
 | tup ys =>
  simp only [CN] at hd;cases hd;simp only [Den] at dv;obtain⟨l,vs,rfl,q,r⟩:=dv
  exact⟨l,rfl,.inr ⟨⟨vs,ao.cT r1.fh q⟩,hR _ F1 H1 _ r1 s1 (xq (fun G H' z1 z2=>ao.cT z2 (ao.cT z1 q)) r) q1⟩⟩
 | _=>simp only [CN] at hd;cases hd
def tP (ts:ft) (g:nY) (tb:bS):bS:=fun D env=>ts env fun ds=>∃d xs,ds=[d]∧CN d=some xs∧turns g tb D (jI xs) env
theorem Br {tg:Expr} {body:List Stmt} {g:nY} {t:bS} (hg:QG X tg g) (hb:sS X body t) {B:Base} {σ:St} {F1 H1:Hp} {env:En} {D:iI} {J:It} {xs:List L3.D} (r1:Rep X.K B F1 H1 σ env) (S:u5 X.K J F1 xs) (q1:turns g t D xs env) :
  ∃W:Nat→Nat→St→Hp→Prop,(∃m,W 0 m σ H1)∧∀i m σ H,W i m σ H→(J.stop i H∧(RS X B D).nx σ H)∨(J.go i H∧∃N:St→Hp→Prop,(∀σ' H',N σ' H'→∃m',m' < m∧W (i + 1) m' σ' H') ∧
    ∀x H',J.yld i H x H'→wG X tg x σ H' fun σ2 H2=>wSs X body { RS X B D with nx:=N,ct:=N,bk:=(RS X B D).nx } σ2 H2):=by
 have sm:=RS.same (X:=X) (B:=B) (D:=D) r1.f0;refine⟨fun i m σ H=>m=xs.length - i∧i≤xs.length∧∃F env,Rep X.K ⟨F1,B.H,B.N,B.nb⟩ F H σ env∧turns g t D (xs.drop i) env,⟨xs.length,by simp,Nc _,F1,env,r1.now,by simpa using q1⟩,?_⟩
 rintro i m σ2 H2 ⟨rfl,hi2,F2,env2,r2,q2⟩
 by_cases hlt:i < xs.length
 ·have hxi:xs[i]?=some xs[i]:=by simp [hlt]
  rw [drop_cons hxi] at q2;refine .inr ⟨S.go i F2 H2 r2.f0 r2.fh hlt,fun σ' H'=>∃F env,Rep X.K ⟨F1,B.H,B.N,B.nb⟩ F H' σ' env∧turns g t D (xs.drop (i + 1)) env,fun σ' H' ⟨F',env',r',q'⟩=>⟨xs.length - (i + 1),by omega,rfl,by omega,F',env',r',q'⟩,fun z H' hz=>?_⟩;obtain⟨G,rG,sG,dz⟩:=S.yld i F2 H2 z H' xs[i] _ σ2 env2 r2.f0 r2 hxi hz;refine fV (hg _ σ2 G _ env2 _ _ _ rG dz q2) fun σ3 H3 hq0=>?_;obtain⟨F3,env3,r3,s3,q3⟩:=hq0
  exact d8 (hb _ σ3 F3 H3 env3 _ r3 q3) (fun _ _ q=>q) (fun v H q=>sm.2.1 v H q) (fun v H q=>sm.1 v H q) (fun _ _ q=>q)
 ·have e:i=xs.length:=by omega
  subst e;rw [Ng (Mv _)] at q2;exact .inl ⟨S.stop F2 H2 r2.f0 r2.fh,sm.1 _ _ ⟨F2,env2,r2,q2⟩⟩
theorem Fp {elts:List Expr} {x1:Nat} {body:List Stmt} {g:nY} {t:bS} {p pos2:Pos} (hp:PassesOwn (model X.prog X.w) X.A X.env X.xe) (hc:X.calm=true) (hgl:Gl X "enumerate") (hm:X.mg "enumerate" = none) (ha:QA X [a] ts) (hg:QG X (.Tuple elts x1 tp) g) (hb:sS X body t)
  (hst:starEach [a] X.env=[(false,eval a X.env)]:=by rfl) (hs:∀x,M3 (.Call (.Name "enumerate" p) [a] [] pos2) X.env x=pure x:=by intro _;rfl):QS X (.For (.Tuple elts x1 tp) (.Call (.Name "enumerate" p) [a] [] pos2) body [] pos) (tP ts g t):=by
 refine⟨fun B σ F H env D rp h=>dD (oe hp hc (FT hgl hm iO hst) vf eN hs) ?_⟩;exact CG (P:=fun xs=>turns g t D xs env) ha rp h fun J F1 H1 xs r1 s1 S q=>Br hg hb r1 S q
end
mutual
theorem zD:∀(a b c:D),aY a b=true→aY a c=aY b c:=by
 intro a b c h;cases a <;> cases b <;> first | (simp only [aY,Mr] at h;done) | skip
 all_goals cases c <;> first | rfl | (simp only [aY,beq_iff_eq] at h ⊢;subst h;rfl) | skip
 all_goals first
  | (simp only [aY] at h ⊢;exact xg _ _ _ h)
  | (simp only [aY,beq_iff_eq] at h ⊢;rw [Bool.eq_iff_iff];simp only [beq_iff_eq];split at h <;> split <;> simp_all <;> omega)
  | (simp only [aY,beq_iff_eq] at h ⊢;rw [Bool.eq_iff_iff];simp only [beq_iff_eq];split at h <;> simp_all)
  | (simp only [aY,beq_iff_eq] at h ⊢;subst h;rw [Bool.eq_iff_iff];simp only [beq_iff_eq];split <;> simp_all)
  | (simp only [aY,beq_iff_eq] at h ⊢;subst h;split <;> simp_all)
theorem xg:∀(a b c:List D),dY a b=true→dY a c=dY b c:=by
 intro a b c h
 cases a with
 | nil=>cases b with
  | nil=>rfl
  | cons y r=>simp only [dY,Mr] at h
 | cons x r=>cases b with
  | nil=>simp only [dY,Mr] at h
  | cons y t =>
   simp only [dY,Bool.and_eq_true] at h
   cases c with
   | nil=>rfl
   | cons z u=>simp only [dY];rw [zD x y z h.1,xg r t u h.2]
end
section
variable {X:Cx} {pins:List (Addr×Obj)} {σ:St} {H F:Hp} {s:Shared}
open Classical in
noncomputable def kX (us:List Value) (ds:List D) (d:D) (u:Value):Bool:=decide (∃(i:Nat) (x:D),us[i]?=some u∧ds[i]?=some x∧aY x d=true)
open Classical in
theorem qG (I:Inv X pins σ H s) (fh:ao F H) {ds:List D} {vs:List V} {us:List Value} {d:D} (hd:cB ds < 1000) (dl:aj X.K F ds vs) (rv:Vals vs us) {j:Nat} {x:D} {u:Value} (hx:ds[j]?=some x) (hu:us[j]?=some u):kX us ds d u=aY x d:=by
 unfold kX
 have dle:∀(k:Nat) (y:D),ds[k]?=some y→dep y < 1000:=fun k y hy=>by
  clear dl rv hx hu
  induction ds generalizing k with
  | nil=>simp at hy
  | cons z r ih =>
   simp only [cB] at hd
   cases k with
   | zero=>simp at hy;subst hy;omega
   | succ k=>exact ih (by omega) k (by simpa using hy)
 cases hb:aY x d with
 | true=>exact decide_eq_true ⟨j,x,hu,hx,hb⟩
 | false =>
  refine decide_eq_false fun hq0=>?_;obtain⟨i,y,h1,h2,h3⟩:=hq0;obtain⟨v1,e1,d1⟩:=dl.get hx;obtain⟨v2,e2,d2⟩:=dl.get h2;obtain⟨w1,g1,r1⟩:=rv.get e1;obtain⟨w2,g2,r2⟩:=rv.get e2;rw [hu] at g1;cases g1;rw [h1] at g2;cases g2;have:=r1.inj r2;subst this;have k:=qp I fh y x _ (dle _ _ h2) (dle _ _ hx) d2 d1;rw [zD y x d k,hb] at h3;cases h3
theorem rM (I:Inv X pins σ H s) (fh:ao F H) {ds:List D} {vs:List V} {us:List Value} {d:D} (hd:cB ds < 1000) (dl:aj X.K F ds vs) (rv:Vals vs us):us.map (kX us ds d)=ds.map fun x=>aY x d:=by
 have l1:=dl.length;have l2:=rv.length;apply List.ext_getElem?
 intro i;rw [Ms,Ms]
 by_cases hi:i < ds.length
 ·have h1:ds[i]?=some ds[i]:=by simp [hi]
  have h2:us[i]?=some (us[i]'(by omega)):=Mm _;rw [h1,h2];simp only [Option.map_some];rw [qG I fh hd dl rv h1 h2]
 ·rw [MI (by omega),MI (by omega)];rfl
end
section
variable {X:Cx} {a b:Expr} {ta tb:TD} {pos:Pos}
def Ke (X:Cx) (neg:Bool):R2:=fun x y H Q=>∃(F:Hp) (d:D) (ds:List D) (vs:List V) (p:Addr),ao F H∧Den X.K F d x∧y=.ref p∧(fU X.K F p vs∨jv X.K F p vs)∧aj X.K F ds vs∧X.A.units + 64 < cLine∧cB ds≤60∧dep d≤60∧Q (.bl (if neg then !ds.any (fun e=>aY e d) else ds.any fun e=>aY e d)) H
theorem any_map' {α:Type} (f:α→Bool) (l:List α):l.any f=(l.map f).any id:=by rw [List.any_map];rfl
theorem rS {X:Cx} {pins:List (Addr×Obj)} {σ:St} {H F:Hp} {s:Shared} (I:Inv X pins σ H s) (fh:ao F H) {ds:List D} {vs:List V} {us:List Value} {d:D} {x:V} {v:Value} (hu:X.A.units + 64 < cLine) (hds:cB ds≤60) (hd:dep d≤60) (dl:aj X.K F ds vs) (rv:Vals vs us) (dx:Den X.K F d x) (rx:RelV x v) :
  ∀u∈us,SeqAt.EqAt X.A.in1 s u v (kX us ds d u):=by
 intro u hu';obtain⟨j,hj,e⟩:=List.getElem_of_mem hu';have h2:us[j]?=some u:=by rw [← e];simp [hj]
 have l1:=dl.length;have l2:=rv.length;have h1:ds[j]?=some (ds[j]'(by omega)):=Mm _;rw [qG I fh (by omega) dl rv h1 h2];obtain⟨w,g1,g2⟩:=dl.get h1;obtain⟨u',g3,g4⟩:=rv.get g1;rw [h2] at g3;cases g3
 have dle:dep (ds[j]'(by omega))≤60:=by
  have go:∀(l:List D) (n:Nat),cB l≤n→∀y∈l,dep y≤n:=by
   intro l
   induction l with
   | nil=>intro n _ y hy;cases hy
   | cons z r ih =>
    intro n hn y hy;simp only [cB] at hn;rcases MA.mp hy with rfl | hy
    ·omega
    ·exact ih n (by omega) y hy
  exact go ds 60 hds _ (Na _)
 exact sg I fh _ d X.A.in1 _ x u v (by rw [units_in1];omega) (by omega) (by omega) g2 dx g4 rx
theorem Fj:kY X (compareOp .NotIn) (Ke X true):=by
 intro pins s σ H x y v u Q I rx ry h;obtain⟨F,d,ds,vs,p,fh,dx,rfl,hq,dl,hu,h1,h2,q⟩:=h;cases ry;rcases hq with hq | hq
 ·obtain⟨its,r,pl,hz⟩:=I.list (fh.seq hq);refine SeqAt.notIn_listAt (kX its ds d) pl.isList (fun w hw=>rS I fh hu h1 h2 dl r dx rx w (by simpa using hw)) ⟨.bl _,H,I,rfl,?_⟩;rw [show its.toArray.any (kX its ds d)=its.any (kX its ds d) by simp,any_map',rM I fh (by omega) dl r,← any_map'];exact q
 ·obtain⟨its,r,pl,hz⟩:=I.tuple (ao.cT fh hq);refine SeqAt.notIn_tupleAt (kX its ds d) pl (fun w hw=>rS I fh hu h1 h2 dl r dx rx w (by simpa using hw)) ⟨.bl _,H,I,rfl,?_⟩;rw [show its.toArray.any (kX its ds d)=its.any (kX its ds d) by simp,any_map',rM I fh (by omega) dl r,← any_map'];exact q
def DU (neg:Bool) (x y:D) (Q:D→Prop):Prop:=∃ds,CN y=some ds∧cB ds≤60∧dep x≤60∧Q (.bl (if neg then !ds.any (fun e=>aY e x) else ds.any fun e=>aY e x))
theorem Io (hu:X.A.units + 64 < cLine) (neg:Bool):zX X (Ke X neg) (DU neg):=by
 intro B σ F H env Q d d' x y Z rp h1 h2 hz hf;obtain⟨ds,e,l1,l2,q⟩:=hf
 cases d' with
 | lst xs =>
  simp only [CN] at e;cases e;simp only [Den] at h2;obtain⟨p,vs,rfl,hq,dl⟩:=h2
  exact⟨F,d,_,vs,p,rp.fh,h1,rfl,.inl hq,dl,hu,l1,l2,hz _ H F _ rp (ao.refl _) gQ q⟩
 | tup xs =>
  simp only [CN] at e;cases e;simp only [Den] at h2;obtain⟨p,vs,rfl,hq,dl⟩:=h2
  exact⟨F,d,_,vs,p,rp.fh,h1,rfl,.inr hq,dl,hu,l1,l2,hz _ H F _ rp (ao.refl _) gQ q⟩
 | _=>simp only [CN] at e;cases e
theorem BO (hu:X.A.units + 64 < cLine) (ha:QE X a ta) (hb:QE X b tb) (hm:behindInMarks .NotIn b=false:=by rfl):QT X (.Compare a [.NotIn] [b] pos) (aL (aG (DU true) ta tb)):=jO Fj (Io hu true) ha hb hm
end
end L2.L3
namespace L2
open PySem PySem.Spec PyProof.Rows
section
variable {X:Cx}
theorem Vals.insertAt {xs:List V} {us:List Value} {x:V} {u:Value} (h:Vals xs us) (r:RelV x u) (k:Nat):Vals (xs.take k ++ x :: xs.drop k) (us.take k ++ u :: us.drop k):=by
 induction h generalizing k with
 | nil=>simp;exact .cons r .nil
 | @cons y w ys ws q t ih =>
  cases k with
  | zero=>exact .cons r (.cons q t)
  | succ k=>exact .cons q (ih k)
def EW:V→List V→Hp→VK→Prop:=fun x vs H Q=>∃l xs i y,x=.ref l∧vs=[.int i,y]∧H l=some (.lst xs)∧0≤i∧i≤xs.length∧xs.length < sizeLine∧Q .non (upd H l (.lst (xs.take i.toNat ++ y :: xs.drop i.toNat)))
theorem Bc:Ky X "list.insert" EW:=by
 intro pins s σ H x vs v us Q I rx rv h;obtain⟨l,xs,i,y,rfl,rfl,hH,h0,h1,h2,q⟩:=h;cases rx;obtain⟨u,w,rfl,ru,rw'⟩:=rv.two;obtain⟨t,rfl⟩:=ru;obtain⟨z,its,n,r,hl,e⟩:=I.FG hH;have hs:xs.length≤2 ^ 62:=by rw [sizeLine_eq] at h2;omega
 have hfit:¬ (!Builtin.List.listFitsIndex i)=true:=by
  rw [fitsIndex_both (by omega) (by omega)];exact Bool.false_ne_true
 refine call_meets F.slot_list_insert ⟨_,e,rfl⟩ F.entry_list_insert (F.args_list_insert_3 _ _ _) (AutoSeq1.list_insert_list_int_val_1 l its.toArray n i t w hfit (by rw [MH];omega)) ⟨e,?_⟩;refine⟨.non,_,I.El (its':=its.take i.toNat ++ w :: its.drop i.toNat) hH e ?_ (r.insertAt rw' i.toNat) ?_,rfl,q⟩
 ·apply Array.toList_inj.mp
  have c1:¬ i < 0:=by omega
  have c2:min i.toNat its.toArray.size=i.toNat:=by rw [MH];omega
  simp only [c1,if_false,c2];simp;exact List.take_of_length_le (by simp)
 ·simp;omega
end
end L2
namespace L2.L3
open PySem PySem.Spec PyProof.Rows
section
variable {X:Cx} {e f:Expr} {te tf:TD} {ts:ft} {pos:Pos}
def qH (i:Nat) (te tf:TD):bS:=fun D env=>∃xs,env[i]?=some (some (.own xs))∧te env fun y=>tf env fun x=>∃k:Int,y=.int k∧0≤k∧k≤xs.length∧xs.length < sizeLine∧D.nx (env.set i (some (.own (xs.take k.toNat ++ x :: xs.drop k.toNat))))
theorem Bb {x:Str} {px apos cpos:Pos} (i:Nat) (he:QE X e te) (hf:QE X f tf) (hN:X.N[i]?=some x:=by rfl) (hv:qJ X.env.scope x:=by first | exact Or.inl rfl | exact Or.inr (Or.inl rfl) | exact Or.inr (Or.inr rfl)) (hd:(x == ("__debug__" : Str))=false:=by decide) (hcd:(x == ("__classdict__" : Str))=false:=by decide)
  (hbase:attributeBase (.Name x px) "insert" X.env (eval (.Name x px) X.env)=eval (.Name x px) X.env:=by rfl)
  (hfew:((backTo cpos (starEach [e,f] X.env)).all (fun x=>!x.1) && (backToKw cpos (keywordEach [] X.env)).all (fun x=>x.1.isSome)
   && decide (([e,f]:List Expr).length + ([]:List Keyword).length + (if ([]:List Keyword).isEmpty then 0 else 1) < 30))=true:=by rfl)
  (hline:(apos.endLine == cpos.line)=true:=by rfl) (hst:starEach [e,f] X.env=(false,eval e X.env) :: starEach [f] X.env:=by exact bq rfl) (hst2:starEach [f] X.env=(false,eval f X.env) :: starEach [] X.env:=by exact bq rfl) (hplain:(backTo cpos (starEach ([f]:List Expr) X.env)).any (·.1)=false:=by rfl)
  (hs:swapsWith (.Call (.Attribute (.Name x px) "insert" apos) [e,f] [] cpos) none pos.line X.env=pure false:=by rfl) :
  QS X (.Expr (.Call (.Attribute (.Name x px) "insert" apos) [e,f] [] cpos) pos) (qH i te tf):=by
 refine⟨?_⟩;intro B σ F H env D rp h;refine dD (qf (Af PySem.F.plainAttrs_list PySem.F.slot_list_insert PySem.F.type_list_insert Bc (cv hN hv hd hcd) (fT bH (fT bH ig hst2) hst) hbase hfew hline hst hplain) hs) ?_;obtain⟨xs,hx,h⟩:=h;obtain⟨p,vs,h1,h2,h3,h4,h5⟩:=rp.ov i xs hx;refine⟨.ref p,h1,.inl ⟨rfl,vs,fU.of h2⟩,?_⟩;refine aA (he B σ F H env _ rp h) fun y H1 hq0=>?_;obtain⟨F1,d,r1,s1,d1,q1⟩:=hq0;refine aA (hf B σ F1 H1 env _ r1 q1) fun z H2 hq0=>?_
 obtain⟨F2,d',r2,s2,d2,k,e1,k0,k1,k2,q2⟩:=hq0;subst e1;simp only [Den] at d1;subst d1;obtain⟨p',vs',g1,g2,g3,g4,g5⟩:=r2.ov i xs hx;rw [h1] at g1;cases g1;have hl:=g5.length;exact⟨p,vs',k,z,rfl,rfl,g2,k0,by omega,by omega,F2,_,r2.change hx h1 ((g5.take _).append (aM d2 (g5.drop _))),q2⟩
def qZ (i:Nat):TB:=fun env Q=>∃xs,env[i]?=some (some (.own xs))∧cB xs≤50∧Q (!xs.isEmpty)
theorem Au {x:Str} {px pl:Pos} (i:Nat) (hu:X.A.units + 64 < cLine) (hN:X.N[i]?=some x:=by rfl) (hv:qJ X.env.scope x:=by first | exact Or.inl rfl | exact Or.inr (Or.inl rfl) | exact Or.inr (Or.inr rfl)) (hd:(x == ("__debug__" : Str))=false:=by decide)
  (hcd:(x == ("__classdict__" : Str))=false:=by decide):QT X (.Compare (.Name x px) [.NotEq] [.List [] pl] pos) (qZ i):=by
 refine⟨fun B σ F H env Q rp h=>rh (mC yE (cv hN hv hd hcd) (ya ig) (kz _)) ?_⟩;obtain⟨xs,hx,hdep,q⟩:=h;obtain⟨p,vs,h1,h2,h3,h4,h5⟩:=rp.ov i xs hx;refine⟨.ref p,h1,by simp [MK],fun w hw=>?_⟩;have ne:p≠w:=fun z=>by subst z;rw [h2] at hw;cases hw
 have s1:ao F (upd F p (.lst vs)):=cu h3;refine⟨upd (upd F p (.lst vs)) w (.lst []),.lst xs,.lst [],?_,?_,?_,by simp only [dep];omega,by simp only [dep];omega,by decide,!xs.isEmpty,?_,F,rp.loose hw,ao.refl _,q⟩
 ·refine tS fun b o hb=>?_
  by_cases z:b=p
  ·subst z;rw [au] at hb;cases hb;exact h2
  ·rw [aq z] at hb;exact rp.fh _ _ hb
 ·have s2:ao (upd F p (.lst vs)) (upd (upd F p (.lst vs)) w (.lst [])):=cu (by rw [aq (Ne.symm ne)];exact rp.lM hw);exact iZ (fU.of (by rw [aq ne];exact au)) (aj.mono (s1.trans s2) _ _ h5)
 ·exact iZ (fU.of au) aO
 ·cases xs <;> rfl
def m5 (j i:Nat) (te:TD):bS:=fun Z env=>∃xs,env[i]?=some (some (.own xs))∧te env fun y=>∃(k:Nat) (x:D),y=.int k∧xs[k]?=some x∧k < 2 ^ 62∧Z.nx ((env.set i (some (.own (xs.eraseIdx k)))).set j (some (.d x)))
theorem aj.eraseIdx {K:Mn} {F:Hp}:∀{ds:List D} {vs:List V} (k:Nat),aj K F ds vs→aj K F (ds.eraseIdx k) (vs.eraseIdx k)
 | [],vs,k,h=>by simp only [aj] at h;subst h;simpa using aO
 | d :: ds,vs,0,h=>by
  simp only [aj] at h;obtain⟨v,r,rfl,a,b⟩:=h
  exact b
 | d :: ds,vs,k + 1,h=>by
  simp only [aj] at h;obtain⟨v,r,rfl,a,b⟩:=h;exact aM a (aj.eraseIdx k b)
theorem uh {x y:Str} {px py apos cpos:Pos} (j i:Nat) (nd:X.N.Nodup) (he:QE X e te) (hN:X.N[i]?=some x:=by rfl) (hv:qJ X.env.scope x:=by first | exact Or.inl rfl | exact Or.inr (Or.inl rfl) | exact Or.inr (Or.inr rfl)) (hd:(x == ("__debug__" : Str))=false:=by decide) (hcd:(x == ("__classdict__" : Str))=false:=by decide)
  (hj:X.N[j]?=some y:=by rfl) (hy:Loc X.env.scope y:=by first | exact Or.inl rfl | exact Or.inr rfl)
  (hbase:attributeBase (.Name x px) "pop" X.env (eval (.Name x px) X.env)=eval (.Name x px) X.env:=by rfl)
  (hfew:((backTo cpos (starEach [e] X.env)).all (fun x=>!x.1) && (backToKw cpos (keywordEach [] X.env)).all (fun x=>x.1.isSome)
   && decide (([e]:List Expr).length + ([]:List Keyword).length + (if ([]:List Keyword).isEmpty then 0 else 1) < 30))=true:=by rfl)
  (hline:(apos.endLine == cpos.line)=true:=by rfl) (hst:starEach [e] X.env=(false,eval e X.env) :: starEach [] X.env:=by exact bq rfl) (hplain:(backTo cpos (starEach ([]:List Expr) X.env)).any (·.1)=false:=by rfl)
  (hs:swapsWith (.Call (.Attribute (.Name x px) "pop" apos) [e] [] cpos) (some (.Name y py)) pos.line X.env=pure false:=by rfl) (hf:X.fn y=true∨X.env.scope.names.lookup y=some .local:=by first | exact .inl rfl | exact .inr rfl) :
  QS X (.Assign [.Name y py] (.Call (.Attribute (.Name x px) "pop" apos) [e] [] cpos) pos) (m5 j i te):=by
 refine⟨fun B σ F H env D rp h pins s I=>?_⟩;refine nU (i:=j) nd hj hy (Af PySem.F.plainAttrs_list PySem.F.slot_list_pop PySem.F.type_list_pop wX (cv hN hv hd hcd) (fT bH ig hst) hbase hfew hline hst hplain) hs hf pins s σ H _ I ?_;obtain⟨xs,hx,h⟩:=h;obtain⟨p,vs,h1,h2,h3,h4,h5⟩:=rp.ov i xs hx;refine⟨.ref p,h1,.inl ⟨rfl,vs,fU.of h2⟩,?_⟩;refine aA (he B σ F H env _ rp h) fun w H1 hq0=>?_;obtain⟨F1,d,r1,s1,d1,k,x',e1,hk,hk2,q1⟩:=hq0
 subst e1;simp only [Den] at d1;subst d1;obtain⟨p',vs',g1,g2,g3,g4,g5⟩:=r1.ov i xs hx;rw [h1] at g1;cases g1;obtain⟨u,hu,du⟩:=g5.get hk;have hl:=g5.length;have hkl:=(Mi.mp hk).1;have hix:seqIndex? (k:Int) vs'.length=some k:=(qj (n:=vs'.length) (i:=(k:Int)) (j:=k) (by unfold vT;rw [Mw (by omega),Mw (by omega)];simp)).1;refine⟨p,vs',k,k,u,rfl,rfl,g2,by omega,by omega,hix,hu,F1,_,(r1.change hx h1 (g5.eraseIdx k)).set du ?_,q1⟩
 rw [I.len];exact (Mi.mp hj).1
theorem AK {a:Expr} {ta:TA} {p:Pos} (hg:Gl X "range") (hm:X.mg "range" = none) (ha:PA X [a] ta) (hs:starEach [a] X.env=[(false,eval a X.env)]:=by rfl) :
  PE X (.Call (.Name "range" p) [a] [] pos) (fun σ H Q=>ta σ H fun vs H1=>∃n:Int,vs=[.int n]∧∀r,H1 r=none→Q (.ref r) (upd H1 r (.rng 0 n))):=by
 intro pins s σ H Q I h;refine Call_ (lP I hg hm boot_range (PyProof.Rows.callWith_type1 (bU (ha pos pins s σ H _ I h) fun us s1 ⟨vs,H1,I1,r1,q1⟩=>?_) hs rfl));obtain⟨n,rfl,q⟩:=q1;obtain⟨u,rfl,ru⟩:=r1.one;obtain⟨t,rfl⟩:=ru;refine call_range_1 ⟨.ref s1.heap.objs.size,_,I1.laid (fun b o e=>Mz _ e) (Mv _) (show c6 X.prog X.w _ _ _ (.rng 0 n) from ⟨_,_,_,MM _ rfl⟩),rfl,q _ (I1.hok.fresh (Mv _))⟩
theorem kC {n:Nat} {acc:Array Value} (h:ItemsOf (fun i v=>∃t,v=.int ((0:Int) + i * 1) t) acc n):Vals ((List.range n).map fun (i:Nat)=>V.int (i:Int)) acc.toList:=by
 have hl:acc.toList.length=n:=by simpa using h.1
 have go:∀(l:List Value) (k:Nat),(∀(j:Nat) (v:Value),l[j]?=some v→∃t,v=.int ((k + j:Nat):Int) t)→Vals ((List.range' k l.length).map fun (i:Nat)=>V.int (i:Int)) l:=by
  intro l
  induction l with
  | nil=>intro k _;exact .nil
  | cons v r ih =>
   intro k hk;obtain⟨t,e⟩:=hk 0 v rfl;refine .cons ⟨t,by simpa using e⟩ (ih (k + 1) fun j w hw=>?_);obtain⟨t',e'⟩:=hk (j + 1) w (by simpa using hw);exact⟨t',by rw [e'];congr 1;omega⟩
 have:=go acc.toList 0 fun j v hv=>by
  obtain⟨t,e⟩:=h.2 j v (by simpa using hv);exact⟨t,by rw [e];congr 1;omega⟩
 rw [hl,← List.range_eq_range'] at this;exact this
theorem yH (hc:X.calm=true):eQ X (.type "list") (fun xs H Q=>∃r n,xs=[.ref r]∧H r=some (.rng 0 n)∧(-(2 ^ 62)≤n∧n≤16777216)∧∀l,H l=none→Q (.ref l) (upd H l (.lst ((List.range n.toNat).map fun (i:Nat)=>V.int (i:Int))))):=by
 intro pins s σ H xs us Q I r h;obtain⟨a,n,rfl,hr,⟨n1,n2⟩,q⟩:=h;obtain⟨u,rfl,rx⟩:=vals1 r;cases rx;obtain⟨t,u,v,e⟩:=(show c6 X.prog X.w H s.heap a (.rng 0 n) from I.hok a _ hr);have hsz:Builtin.Range.rangeSize 0 n 1=(n.toNat:Int):=by rw [rangeSize_one];split <;> omega
 refine call_list_range (I.ok.hd hc) e (small_one (by decide) (by decide) n1 (by omega)) hsz (by omega) fun h' tk acc c kp e' it=>?_;refine⟨.ref s.heap.objs.size,_,I.laid (t':=tk) kp (Mv _) (show c6 X.prog X.w _ h' _ (.lst ((List.range n.toNat).map fun (i:Nat)=>V.int (i:Int))) from ⟨by simp [MK];omega,acc.toList,c,kC it,by simpa using e'⟩),rfl,q _ (I.hok.fresh (Mv _))⟩
def vP (ts:ft):ft:=fun env Q=>ts env fun ds=>∃n:Int,ds=[.int n]∧(-(2 ^ 62)≤n∧n≤16777216)∧Q (aN 0 n.toNat)
theorem yj {K:Mn} {F:Hp} (n:Nat):aj K F (aN 0 n) ((List.range n).map fun (i:Nat)=>V.int (i:Int)):=by
 have e:aN 0 n=((List.range n).map fun (i:Nat)=>(i:Int)).map D.int:=by unfold aN;rw [List.map_map];congr 1;funext i;simp
 have e2:((List.range n).map fun (i:Nat)=>V.int (i:Int))=((List.range n).map fun (i:Nat)=>(i:Int)).map V.int:=by rw [List.map_map];rfl
 rw [e,e2];exact oN _
theorem Cr {a:Expr} {p p2 pos2:Pos} (hm:X.mg "list" = none) (hm2:X.mg "range" = none) (ha:QA X [a] ts) (hc:X.calm=true:=by rfl) (hg:Gl X "list":=by rfl) (hg2:Gl X "range":=by rfl) (hs:starEach [a] X.env=[(false,eval a X.env)]:=by rfl)
  (he:starEach [.Call (.Name "range" p2) [a] [] pos2] X.env=(false,eval (.Call (.Name "range" p2) [a] [] pos2) X.env) :: starEach [] X.env:=by exact bq rfl) (hpl:(backTo pos (starEach ([]:List Expr) X.env)).any (·.1)=false:=by rfl) :
  QF X (.Call (.Name "list" p) [.Call (.Name "range" p2) [a] [] pos2] [] pos) (vP ts):=by
 refine⟨fun B σ F H env Q rp h=>b8 (oE (yH hc) hg hm sh (fT (AK hg2 hm2 iO hs) ig he) (by decide) (by decide) he hpl) ?_⟩;refine cw (ha B σ F H env _ rp h) fun vs H1 hq0=>?_;obtain⟨F1,ds,r1,s1,d1,n,e1,hn,q1⟩:=hq0;subst e1;simp only [aj,Den] at d1;obtain⟨v,r,rfl,rfl,rfl⟩:=d1;refine⟨n,rfl,fun r hr=>?_⟩;obtain⟨r2,s2⟩:=r1.laid (o:=.rng 0 n) hr;exact⟨r,n,rfl,au,hn,fun w hw=>⟨_,_,w,_,_,rfl,hw,rfl,r2,s1.trans s2,yj _,q1⟩⟩
end
section
variable {X:Cx} {N':List Str} {ix:List Nat} {scope:Scope} {elt a:Expr} {ifs:List Expr} {x:Str} {px py pos spos p pos2:Pos} {tt:TB} {te:TD} {ts:ft}
theorem pP {y:Str} (i:Nat) (hNd:X.N.Nodup) (hc:X.calm=true) (O:bI X N' 1 ix scope) (hN:N'.Nodup) (h0:N'[0]?=some x) (hx:(relabel scope X.env).names.lookup x=some .local) (hgl:Gl X "range") (hm:X.mg "range" = none) (ha:QA X [a] ts)
  (ht:∀C s H fp pins,pV (aE X N' scope C s H fp pins) ifs tt) (he:∀C s H fp pins,QE (aE X N' scope C s H fp pins) elt te) (hy:X.N[i]?=some y:=by rfl) (hl:Loc X.env.scope y:=by first | exact Or.inl rfl | exact Or.inr rfl)
  (hsw:swapsWith (.ListComp elt [⟨.Name x px,.Call (.Name "range" p) [a] [] pos2,ifs,0⟩] scope pos) (some (.Name y py)) spos.line X.env=pure true:=by rfl) (hf:X.fn y=true∨X.env.scope.names.lookup y=some .local:=by first | exact .inl rfl | exact .inr rfl)
  (hst:starEach [a] X.env=[(false,eval a X.env)]:=by rfl) (hs:∀x,M3 (.Call (.Name "range" p) [a] [] pos2) X.env x=pure x:=by intro _;rfl) :
  QS X (.Assign [.Name y py] (.ListComp elt [⟨.Name x px,.Call (.Name "range" p) [a] [] pos2,ifs,0⟩] scope pos) spos) (cV i (gp iH ix ts tt te)):=by
 refine⟨fun B σ F H env D rp h pins s I=>?_⟩;refine iX hc (iQ hgl hm iO hst) O hNd hy hl hsw hf hs pins s σ H _ I ?_;refine cw (ha B σ F H env _ rp h) fun vs H1 hq0=>?_;obtain⟨F1,ds,r1,s1,d1,q1⟩:=hq0
 (try dsimp only at q1);unfold iH at q1
 split at q1
 ·simp only [aj,Den] at d1;obtain⟨v,r,rfl,rfl,rfl⟩:=d1;refine⟨_,rfl,q1.1.1,q1.1.2,?_⟩;intro a' C s fp pins ha';obtain⟨W,w0,step⟩:=gJ (X:=X) (px:=px) hN h0 hx ht he s1 r1 jT q1.2 a' C s fp pins ha';refine⟨W,w0,fun i' m σ' H' w=>?_⟩;rcases step i' m σ' H' w with ⟨st,z⟩ | z
  ·refine .inl ⟨st,?_⟩;obtain⟨F',H2,p,vs,ds,e1,hp,e2,r',s',hd,q'⟩:=z;cases e1;subst e2;refine⟨F',_,r'.Cb hp hd ?_,q'⟩;rw [I.len];exact (Mi.mp hy).1
  ·exact .inr z
 ·exact q1.elim
end
section
variable {X:Cx} {o e:Expr} {to te:TD} {apos cpos:Pos}
theorem AF {X:Cx} {pins:List (Addr×Obj)} {σ:St} {H F:Hp} {s:Shared} (I:Inv X pins σ H s) (fh:ao F H) {ds:List D} {vs:List V} {us:List Value} {d:D} {x:V} {v:Value} (A:Around) (hu:A.units + 62 < cLine) (hds:cB ds≤60) (hd:dep d≤60) (dl:aj X.K F ds vs) (rv:Vals vs us) (dx:Den X.K F d x) (rx:RelV x v) :
  ∀u∈us,SeqAt.EqAt A s u v (kX us ds d u):=by
 intro u hu';obtain⟨j,hj,e⟩:=List.getElem_of_mem hu';have h2:us[j]?=some u:=by rw [← e];simp [hj]
 have l1:=dl.length;have l2:=rv.length;have h1:ds[j]?=some (ds[j]'(by omega)):=Mm _;rw [qG I fh (by omega) dl rv h1 h2];obtain⟨w,g1,g2⟩:=dl.get h1;obtain⟨u',g3,g4⟩:=rv.get g1;rw [h2] at g3;cases g3
 have dle:dep (ds[j]'(by omega))≤60:=by
  have go:∀(l:List D) (n:Nat),cB l≤n→∀y∈l,dep y≤n:=by
   intro l
   induction l with
   | nil=>intro n _ y hy;cases hy
   | cons z r ih =>
    intro n hn y hy;simp only [cB] at hn;rcases MA.mp hy with rfl | hy
    ·omega
    ·exact ih n (by omega) y hy
  exact go ds 60 hds _ (Na _)
 exact sg I fh _ d A _ x u v (by omega) (by omega) (by omega) g2 dx g4 rx
end
section
variable {X:Cx} {a b e:Expr} {ta te:TD} {pos p2:Pos}
abbrev KG:=En→(D→En→Prop)→Prop
def L5 (X:Cx) (B:Base) (σ:St) (F:Hp) (Q:D→En→Prop):VK:=fun v H'=>∃F' d env',Rep X.K B F' H' σ env'∧ao F F'∧Den X.K F' d v∧Q d env'
structure LY (X:Cx) (e:Expr) (t:KG):Prop where
 of ::
 run:∀(B:Base) (σ:St) (F H:Hp) (env:En) (Q:D→En→Prop),Rep X.K B F H σ env→t env Q→wE X e σ H (L5 X B σ F Q)
def C4 (i:Nat):KG:=fun env Q=>∃xs x,env[i]?=some (some (.own (xs ++ [x])))∧Q x (env.set i (some (.own xs)))
theorem HW {x:Str} {px apos cpos:Pos} (i:Nat) (hN:X.N[i]?=some x:=by rfl) (hv:qJ X.env.scope x:=by first | exact Or.inl rfl | exact Or.inr (Or.inl rfl) | exact Or.inr (Or.inr rfl)) (hd:(x == ("__debug__" : Str))=false:=by decide)
  (hcd:(x == ("__classdict__" : Str))=false:=by decide) (hbase:attributeBase (.Name x px) "pop" X.env (eval (.Name x px) X.env)=eval (.Name x px) X.env:=by rfl) (hline:(apos.endLine == cpos.line)=true:=by rfl) :
  LY X (.Call (.Attribute (.Name x px) "pop" apos) [] [] cpos) (C4 i):=by
 refine⟨fun B σ F H env Q rp h=>b8 (GN PySem.F.plainAttrs_list PySem.F.slot_list_pop PySem.F.type_list_pop GH (cv hN hv hd hcd) hbase hline) ?_⟩;obtain⟨xs,y,hx,q⟩:=h;obtain⟨p,vs,h1,h2,h3,h4,h5⟩:=rp.ov i _ hx;have hl:=h5.length;have hget:(xs ++ [y])[xs.length]?=some y:=by simp
 obtain⟨v,hv',dv⟩:=h5.get hget;have hlen:vs.length - 1=xs.length:=by rw [← hl];simp
 refine⟨.ref p,h1,.inl ⟨rfl,vs,fU.of h2⟩,p,vs,v,rfl,rfl,h2,by rw [hlen];exact hv',F,y,_,rp.change hx h1 ?_,ao.refl _,dv,q⟩;have:=h5.take xs.length;rw [List.dropLast_eq_take,hlen]
 simpa using this
def xS (te:KG) (g:nY):bS:=fun Z env=>te env fun x e1=>g x e1 Z.nx
theorem Fd {tg:Expr} {g:nY} {te:KG} (he:LY X e te) (hg:QG X tg g) (hs:swapsWithSole [tg] e pos.line X.env=pure false:=by rfl) (hw:swappedStores [tg] e X.env=pure none:=by rfl)
  (h1:(assignEach [tg] X.env).map (·.2)=[assign tg X.env]:=by rfl):QS X (.Assign [tg] e pos) (xS te g):=by
 refine⟨fun B σ F H env D rp h=>dD (uN bH vf hs hw h1) ?_⟩;refine aA (he.run B σ F H env _ rp h) fun v H1 hq0=>?_;obtain⟨F1,d,e1,r1,s1,d1,q1⟩:=hq0;exact fV (hg B σ F1 H1 e1 _ d v r1 d1 q1) fun σ2 H2 ⟨F2,env2,r2,s2,q2⟩=>⟨F2,env2,r2,q2⟩
end
end L2.L3
local macro_rules | `(tactic| simp_arith only [$ls,*] $[$loc]?) => `(tactic| ((try dsimp only [$(⟨ls.elemsAndSeps⟩),*, L2.L3.aJ, L2.L3.iW, L2.L3.ck, L2.L3.bN, L2.L3.jQ, L2.L3.ia, L2.L3.bY, L2.L3.l7, L2.L3.oM, L2.L3.hU, L2.L3.cV, L2.L3.dE, L2.L3.ef, L2.L3.sN, L2.L3.af, L2.L3.cC, L2.L3.aG, L2.L3.vU, L2.L3.aL, L2.L3.pZ, L2.L3.sE, L2.L3.CB, L2.L3.nM, L2.L3.nP, L2.L3.FE, L2.L3.az, L2.L3.ae, L2.L3.av, L2.L3.bQ, L2.L3.jZ, L2.L3.o6, L2.L3.cS, L2.L3.o3, L2.L3.Gg, L2.L3.nz, L2.L3.dq, L2.L3.aV, L2.L3.iC, L2.L3.iU, L2.L3.cU, L2.L3.aD, MP, List.map_nil, MQ, Nj, List.cons_append, List.nil_append, MV, MS, List.set_cons_zero, List.set_cons_succ, L2.L3.gP, L2.L3.gp, L2.L3.so, L2.L3.je, L2.L3.kD, L2.L3.kG, L2.L3.kR, L2.L3.oF, L2.L3.kh, L2.L3.nW, L2.L3.oV, L2.L3.oK, L2.L3.oT, L2.L3.iD, L2.L3.iM, L2.L3.kP, L2.L3.eu, L2.L3.qK, L2.L3.qH, L2.L3.m5, L2.L3.qZ, L2.L3.vP, L2.L3.tP, L2.L3.C4, L2.L3.xS] $[$loc]?); (try simp only [$ls,*, L2.L3.aJ, L2.L3.iW, L2.L3.ck, L2.L3.bN, L2.L3.jQ, L2.L3.ia, L2.L3.bY, L2.L3.l7, L2.L3.oM, L2.L3.hU, L2.L3.cV, L2.L3.dE, L2.L3.ef, L2.L3.sN, L2.L3.af, L2.L3.cC, L2.L3.aG, L2.L3.vU, L2.L3.aL, L2.L3.pZ, L2.L3.sE, L2.L3.CB, L2.L3.nM, L2.L3.nP, L2.L3.FE, L2.L3.az, L2.L3.ae, L2.L3.av, L2.L3.bQ, L2.L3.jZ, L2.L3.o6, L2.L3.cS, L2.L3.o3, L2.L3.Gg, L2.L3.nz, L2.L3.dq, L2.L3.aV, L2.L3.iC, L2.L3.rL, L2.L3.se, L2.L3.iU, L2.L3.cU, L2.L3.aD, MP, List.map_nil, MQ, Nj, List.cons_append, List.nil_append, Nf, MV, MS, List.getElem?_nil, List.set_cons_zero, List.set_cons_succ, Option.some.injEq, L2.L3.Lo.d.injEq, L2.L3.Lo.own.injEq, L2.L3.D.bl.injEq, L2.L3.D.int.injEq, exists_eq_left', exists_eq_left, Nat.reduceAdd, Nat.reduceSub, Nat.sub_self, Nat.add_one_sub_one, List.replicate_succ, List.replicate_zero, L2.L3.D.tup.injEq, List.cons.injEq, and_assoc, L2.L3.gP, L2.L3.gp, L2.L3.so, L2.L3.je, L2.L3.kD, L2.L3.kG, L2.L3.kR, L2.L3.oF, L2.L3.zb, L2.L3.sx, L2.L3.yb, L2.L3.yu, L2.L3.yQ, L2.L3.kh, L2.L3.nW, L2.L3.oV, L2.L3.vL, L2.L3.vn, L2.L3.oK, L2.L3.oT, L2.L3.iD, L2.L3.iM, L2.L3.qS, L2.L3.qV, L2.L3.CZ, L2.L3.yT, L2.L3.yX, MU, true_and, and_true, if_true, if_false, Mr, Bool.not_eq_true', decide_eq_false_iff_not, MK, Int.reduceToNat, Int.reducePow, Int.reduceMul, Int.reduceAdd, Int.reduceNeg, Int.reduceSub, Int.reduceLT, Int.reduceLE, Int.reduceEq, Nat.reduceEqDiff, decide_true, decide_false, Nat.reduceLeDiff, Nat.reduceLT, Bool.true_eq_false, Bool.not_true, Bool.not_false, Bool.not_not, L2.L3.kP, L2.L3.tL, L2.L3.ue, L2.L3.D.lst.injEq, L2.L3.eu, L2.L3.qK, L2.L3.qH, L2.L3.m5, L2.L3.qZ, L2.L3.vP, L2.L3.tP, L2.L3.CN, L2.L3.C4, L2.L3.xS] $[$loc]?)))
namespace L2.L3
open PySem PySem.Spec PyProof.Rows
def mM:Stmt→List Stmt
 | .ClassDef (body:=b) ..=>b
 | _=>[]
section
variable {X:Cx} {a b c e:Expr} {ta tb te:TD} {pos:Pos} {st:Stmt} {t:bS}
def xH (i:Nat) (te:TD):bS:=fun Z env=>∃xs,env[i]?=some (some (.own xs))∧te env fun y=>∃(k:Nat),y=.int k∧k < xs.length∧k < 2 ^ 62∧Z.nx (env.set i (some (.own (xs.eraseIdx k))))
theorem Fv {x:Str} {px apos cpos:Pos} (i:Nat) (he:QE X e te) (hN:X.N[i]?=some x:=by rfl) (hv:qJ X.env.scope x:=by first | exact Or.inl rfl | exact Or.inr (Or.inl rfl) | exact Or.inr (Or.inr rfl)) (hd:(x == ("__debug__" : Str))=false:=by decide) (hcd:(x == ("__classdict__" : Str))=false:=by decide)
  (hbase:attributeBase (.Name x px) "pop" X.env (eval (.Name x px) X.env)=eval (.Name x px) X.env:=by rfl)
  (hfew:((backTo cpos (starEach [e] X.env)).all (fun x=>!x.1) && (backToKw cpos (keywordEach [] X.env)).all (fun x=>x.1.isSome)
   && decide (([e]:List Expr).length + ([]:List Keyword).length + (if ([]:List Keyword).isEmpty then 0 else 1) < 30))=true:=by rfl)
  (hline:(apos.endLine == cpos.line)=true:=by rfl) (hst:starEach [e] X.env=(false,eval e X.env) :: starEach [] X.env:=by exact bq rfl) (hplain:(backTo cpos (starEach ([]:List Expr) X.env)).any (·.1)=false:=by rfl)
  (hs:swapsWith (.Call (.Attribute (.Name x px) "pop" apos) [e] [] cpos) none pos.line X.env=pure false:=by rfl) :
  QS X (.Expr (.Call (.Attribute (.Name x px) "pop" apos) [e] [] cpos) pos) (xH i te):=by
 refine⟨fun B σ F H env D rp h=>dD (qf (Af PySem.F.plainAttrs_list PySem.F.slot_list_pop PySem.F.type_list_pop wX (cv hN hv hd hcd) (fT bH ig hst) hbase hfew hline hst hplain) hs) ?_⟩;obtain⟨xs,hx,h⟩:=h;obtain⟨p,vs,h1,h2,h3,h4,h5⟩:=rp.ov i xs hx;refine⟨.ref p,h1,.inl ⟨rfl,vs,fU.of h2⟩,?_⟩;refine aA (he B σ F H env _ rp h) fun w H1 hq0=>?_;obtain⟨F1,d,r1,s1,d1,k,e1,hk,hk2,q1⟩:=hq0;subst e1;simp only [Den] at d1
 subst d1;obtain⟨p',vs',g1,g2,g3,g4,g5⟩:=r1.ov i xs hx;rw [h1] at g1;cases g1;have hl:=g5.length;obtain⟨u,hu,du⟩:=g5.get (Mm hk);have hix:seqIndex? (k:Int) vs'.length=some k:=(qj (n:=vs'.length) (i:=(k:Int)) (j:=k) (by unfold vT;rw [Mw (by omega),Mw (by omega)];simp)).1;exact⟨p,vs',k,k,u,rfl,rfl,g2,by omega,by omega,hix,hu,F1,_,r1.change hx h1 (g5.eraseIdx k),q1⟩
end
section
variable {prog:Program} {w:World} {A:Around} {E:Value→Shared→Prop} {s:Shared}
def kJ (prog:Program) (w:World) (A:Around) (s:Shared) (v:Value):Prop:=∀(E:Value→Shared→Prop) (Q:Bool→Shared→Prop),Q true s→wpAny (model prog w) A (eqIsQuiet 8 v) Q E s
def ik (prog:Program) (w:World) (A:Around) (s:Shared) (v:Value) (h:Int) (n:Nat):Prop:=∀(E:Value→Shared→Prop) (Q:Int→Shared→Prop),Q h { s with toks:=s.toks + n }→wpAny (model prog w) A (PySem.pyHash v) Q E s
theorem wc {key:Value} {stored:List Value} {Q:Bool→Shared→Prop} (hkey:kJ prog w A s key)
  (hst:∀v∈stored,kJ prog w A s v) (h:Q false s):wpAny (model prog w) A (tableMayTell key stored) Q E s:=by
 unfold tableMayTell
 split
 ·exact Mp h
 ·refine Mj (hkey _ _ ?_);simp only [Bool.not_true,Mr,if_false];refine Mj ?_;refine wpAny_forIn_list _ (fun rest r s'=>s'=s∧r=(none,())∧∀v∈rest,kJ prog w A s v) _ ?_ ?_ _ _ ⟨rfl,rfl,hst⟩
  ·rintro x rest r s' ⟨rfl,rfl,hr⟩;refine Mj (hr x MO _ _ ?_);simp only [Bool.not_true,Mr,if_false];exact Mp ⟨rfl,rfl,fun v hv=>hr v (MB _ hv)⟩
  ·rintro r s' ⟨rfl,rfl,_⟩;exact Mp h
structure mn (prog:Program) (w:World) (A:Around) (s:Shared) (es:Array DictEntry) (key:Value) (h:Int) (m:Nat→Bool):Prop where
 eq:∀(j:Nat) (hj:j < es.size),SeqAt.EqAt A s es[j].key key (m j)
 mh:∀(j:Nat) (hj:j < es.size),m j=true→es[j].hash=h
 mu:∀(i j:Nat),i < es.size→j < es.size→m i=true→m j=true→i=j
 same:∀(j:Nat) (hj:j < es.size),es[j].key=key→es[j].hash=h
 qk:kJ prog w A s key
 qs:∀(j:Nat) (hj:j < es.size),kJ prog w A s es[j].key
 ns:(∃i t,key=.int i t)∨(∃a,key=.ref a)∨key=.none
theorem Bx {M:Model} {A:Around} {E:Value→Shared→Prop} {s:Shared} {α β:Type} {c:Prop} [Decidable c] {t1 t2:Sem β} {k:β→Sem α} {v:β} {Q:α→Shared→Prop} (h1:∀{R:β→Shared→Prop},R v s→wpAny M A t1 R E s) (h2:∀{R:β→Shared→Prop},R v s→wpAny M A t2 R E s)
  (h:wpAny M A (k v) Q E s):wpAny M A (if c then t1 >>= k else t2 >>= k) Q E s:=by
 split
 ·exact Mj (h1 h)
 ·exact Mj (h2 h)
theorem t6 {d:Addr} {o:Obj} {es:Array DictEntry} {ep} {key:Value} {h:Int} {m:Nat→Bool} {Q:Option Nat→Shared→Prop} (f:mn prog w A s es key h m)
  (ho:s.heap.get? d=some o) (hd:o.data=.dict es ep)
  (hnone:(∀j,j < es.size→m j=false)→Q none s) (hsome:∀j,j < es.size→m j=true→Q (some j) s) :
  wpAny (model prog w) A (dictFind d key h) Q E s:=by
 have hask:∀(j:Nat),j < es.size→m j=true→((es[j]?.map (·.hash)) == some h)=true:=by
  intro j hj hm;rw [Array.getElem?_eq_getElem hj,Option.map_some,f.mh j hj hm];simp
 have hst:∀v∈(placesWithHash es.size (fun i=>es[i]?.map (·.hash)) h).filterMap (fun i=>es[i]?.map (·.key)),kJ prog w A s v:=by
  intro v hv;obtain⟨i,_,hi⟩:=List.mem_filterMap.mp hv
  cases hei:es[i]? with
  | none=>rw [hei] at hi;cases hi
  | some e =>
   rw [hei] at hi;obtain rfl:e.key=v:=by simpa using hi
   obtain⟨hl,rfl⟩:=Array.getElem?_eq_some_iff.mp hei;exact f.qs i hl
 have hany:¬ (es.any fun e=>e.key == key && e.hash != h)=true:=by
  rw [← Array.any_toList,List.any_eq_true]
  rintro⟨e,hin,hc⟩;obtain⟨i,hi,rfl⟩:=Array.mem_iff_getElem.mp (Array.mem_toList_iff.mp hin);simp only [Bool.and_eq_true,beq_iff_eq,bne_iff_ne,ne_eq] at hc;exact hc.2 (f.same i hi hc.1)
 have plain:wpAny (model prog w) A (dictWalkPlain d key h es (placesWithHash es.size (fun i=>es[i]?.map (·.hash)) h)) Q E s:=by
  refine Mj ?_
  refine wpAny_forIn_list _
   (fun rest b s'=>s'=s∧b=(none,())∧∃i,rest=(List.range' i (es.size - i)).filter (fun i=>(es[i]?.map (·.hash)) == some h)∧i≤es.size ∧
    ∀j,j < i→m j=false) _ ?_ ?_ _ _
   ⟨rfl,rfl,0,by rw [placesWithHash,List.range_eq_range',Nat.sub_zero],Nc _,fun _ h=>absurd h (Nr _)⟩
  ·rintro x rest b s' ⟨rfl,rfl,i,hr,hi,hno⟩;obtain⟨hix,hxn,hpx,hskip,hrest⟩:=filter_range'_cons _ _ _ _ _ hr.symm;have hlt:x < es.size:=by omega
   have before:∀j,j < x→m j=false:=fun j hjx=>by
    rcases Nn j i with c | c
    ·exact hno j c
    ·cases hmj:m j with
     | false=>rfl
     | true=>have q:=hskip j c hjx;rw [hask j (by omega) hmj] at q;cases q
   have hnext:m x=false→∃i,rest=(List.range' i (es.size - i)).filter (fun i=>(es[i]?.map (·.hash)) == some h)∧i≤es.size∧∀j,j < i→m j=false:=fun hne =>
    ⟨x + 1,by rw [hrest];congr 2;omega,hlt,fun j hji=>by
     rcases Nn j x with c | c
     ·exact before j c
     ·have:j=x:=by omega
      subst this;exact hne⟩
   simp only [Array.getElem?_eq_getElem hlt]
   by_cases hh:(es[x].hash == h)=true
   ·rw [Mw hh];refine Mj (wpAny_dictEpoch ho hd (Mj (f.eq x hlt prog w _ _ (Mj (wpAny_dictEpoch ho hd ?_)))));show wpAny _ _ (if (ep != ep)=true then _ else _) _ E _
    rw [Mo (by simp)]
    cases hm:m x with
    | true=>exact Mj (wpAny_rule (Mp (Mp (hsome x hlt hm))))
    | false=>exact Mj (wpAny_rule (Mp ⟨rfl,rfl,hnext hm⟩))
   ·rw [Mo hh];refine Mp ⟨rfl,rfl,hnext ?_⟩
    cases hm:m x with
    | false=>rfl
    | true=>exact absurd (beq_iff_eq.mpr (f.mh x hlt hm)) hh
  ·rintro b s' ⟨rfl,rfl,i,hr,hi,hno⟩;refine Mp (hnone fun j hj=>?_);rcases Nn j i with c | c
   ·exact hno j c
   ·have:=List.filter_eq_nil_iff.mp hr.symm j (List.mem_range'_1.mpr ⟨c,by omega⟩)
    cases hmj:m j with
    | false=>rfl
    | true=>rw [hask j hj hmj] at this;exact absurd rfl this
 have ns:=f.ns;unfold dictFind
 try with_reducible refine wpAny_holding ?_
 refine Mj (wpAny_dictEntries ho hd ?_)
 extract_lets places stored hit jp2 jp1 jp0
 have h1:wpAny (model prog w) A (jp1 ()) Q E s:=by
  refine Bx (v:=false) (fun q=>Mp q) (fun q=>wc f.qk hst q) ?_;dsimp only [jp2,stored,places,hit]
  (
   rw [Mo (by simp)];refine Mj ?_
   refine wpAny_forIn_list _
    (fun rest b s'=>s'=s∧∃i hit,b=(none,hit)∧rest=(List.range' i (es.size - i)).filter (fun i=>(es[i]?.map (·.hash)) == some h)∧i≤es.size ∧
     ((hit=none∧∀j,j < i→m j=false)∨∃j,hit=some j∧j < i∧m j=true)) _ ?_ ?_ _ _
    ⟨rfl,0,none,rfl,by rw [placesWithHash,List.range_eq_range',Nat.sub_zero],Nc _,.inl ⟨rfl,fun _ h=>absurd h (Nr _)⟩⟩
   ·rintro x rest b s' ⟨rfl,i,hit,rfl,hr,hi,hH⟩;obtain⟨hix,hxn,hpx,hskip,hrest⟩:=filter_range'_cons _ _ _ _ _ hr.symm;have hlt:x < es.size:=by omega
    have hrest':rest=(List.range' (x + 1) (es.size - (x + 1))).filter (fun i=>(es[i]?.map (·.hash)) == some h):=by rw [hrest];congr 2;omega
    have hHx:(hit=none∧∀j,j < x→m j=false)∨∃j,hit=some j∧j < x∧m j=true:=by
     rcases hH with ⟨h0,hno⟩ | ⟨j,h1,hji,hj⟩
     ·refine .inl ⟨h0,fun j hjx=>?_⟩;rcases Nn j i with c | c
      ·exact hno j c
      ·cases hmj:m j with
       | false=>rfl
       | true=>have q:=hskip j c hjx;rw [hask j (by omega) hmj] at q;cases q
     ·exact .inr ⟨j,h1,by omega,hj⟩
    have hstay:m x=false→((hit=none∧∀j,j < x + 1→m j=false)∨∃j,hit=some j∧j < x + 1∧m j=true):=by
     intro hne;rcases hHx with ⟨h0,hno⟩ | ⟨j,h1,hjx,hj⟩
     ·refine .inl ⟨h0,fun j hjx=>?_⟩;rcases Nn j x with c | c
      ·exact hno j c
      ·have:j=x:=by omega
       subst this;exact hne
     ·exact .inr ⟨j,h1,by omega,hj⟩
    rw [Array.getElem?_eq_getElem hlt];dsimp only
    by_cases hh:(es[x].hash == h)=true
    ·rw [Mw hh];refine Mj (wpAny_dictEpoch ho hd (Mj (f.eq x hlt prog w _ _ (Mj (wpAny_dictEpoch ho hd ?_)))));show wpAny _ _ (if (ep != ep)=true then _ else _) _ E _
     rw [Mo (by simp)]
     cases hm:m x with
     | true =>
      rcases hHx with ⟨rfl,_⟩ | ⟨j,_,hjx,hj⟩
      ·first | rw [Mw rfl] | skip
       simp only [Option.isSome_none,Mr,if_false]
       first | refine Mj (Mp ?_) | skip
       refine Mj (wpAny_rule ?_)
       split
       ·exact Mp (Mp (hsome x hlt hm))
       ·exact Mp ⟨rfl,x + 1,some x,rfl,hrest',hlt,.inr ⟨x,rfl,Nat.lt_succ_self x,hm⟩⟩
      ·exact absurd (f.mu j x (by omega) hlt hj hm) (by omega)
     | false =>
      simp only [Mr,if_false];refine Mj (wpAny_rule ?_)
      first | rw [Mo (by simp)] | skip
      first
       | exact Mp ⟨rfl,x + 1,hit,rfl,hrest',hlt,hstay hm⟩
       | exact Mj (Mp (Mp ⟨rfl,x + 1,hit,rfl,hrest',hlt,hstay hm⟩))
    ·rw [Mo hh];refine Mp ⟨rfl,x + 1,hit,rfl,hrest',hlt,hstay ?_⟩
     cases hm:m x with
     | false=>rfl
     | true=>exact absurd (beq_iff_eq.mpr (f.mh x hlt hm)) hh
   ·rintro b s' ⟨rfl,i,hit,rfl,hr,hi,hH⟩;rcases hH with ⟨rfl,hno⟩ | ⟨j,rfl,hji,hj⟩
    ·refine Mp (hnone fun j hj=>?_);rcases Nn j i with c | c
     ·exact hno j c
     ·have:=List.filter_eq_nil_iff.mp hr.symm j (List.mem_range'_1.mpr ⟨c,by omega⟩)
      cases hmj:m j with
      | false=>rfl
      | true=>rw [hask j hj hmj] at this;exact absurd rfl this
    ·exact Mp (hsome j (by omega) hj))
 rcases ns with ⟨ki,kt,rfl⟩ | ⟨ka,rfl⟩ | rfl
 ·exact wpAny_ite_split (fun _=>plain) fun _=>h1
 ·exact wpAny_ite_split (fun _=>plain) fun _=>wpAny_ite_split (fun z=>absurd z hany) fun _=>h1
 ·exact wpAny_ite_split (fun _=>plain) fun _=>h1
theorem bJ.typeIs {d:Addr} {es:Array DictEntry} {ep:Nat} (x:bJ s.heap d es ep):s.TypeIs (.ref d) "dict":=let ⟨o,ho,hc,_⟩:=x;⟨o,ho,hc.1⟩
theorem bJ.new (h:Heap):bJ (h.push { cls:=.type "dict",data:=.dict #[] }) h.objs.size #[] 0:=⟨_,MM _ rfl,⟨rfl,rfl,rfl⟩,rfl⟩
theorem w8 {d:Addr} {es:Array DictEntry} {ep:Nat} {key:Value} {h:Int} {n:Nat} {m:Nat→Bool} {Q:Option Value→Shared→Prop} (hh:ik prog w A s key h n) (f:mn prog w A { s with toks:=s.toks + n } es key h m) (x:bJ s.heap d es ep)
  (hnone:(∀j,j < es.size→m j=false)→Q none { s with toks:=s.toks + n }) (hsome:∀j (hj:j < es.size),m j=true→Q (some es[j].val) { s with toks:=s.toks + n }) :
  wpAny (model prog w) A (dictGet d key) Q E s:=by
 obtain⟨o,ho,_,hd⟩:=x;unfold dictGet
 try with_reducible refine wpAny_holding ?_
 refine Mj (hh _ _ (Mj (t6 (s:={ s with toks:=s.toks + n }) f ho hd ?_ ?_)))
 ·intro hno;exact Mp (hnone hno)
 ·intro j hj hm;refine Mj (wpAny_dictEntries (s:={ s with toks:=s.toks + n }) ho hd ?_);rw [Array.getElem?_eq_getElem hj];exact Mp (hsome j hj hm)
theorem wb {d:Addr} {es:Array DictEntry} {ep:Nat} {key v:Value} {h:Int} {n:Nat} {m:Nat→Bool} {Q:Unit→Shared→Prop} (hh:ik prog w A s key h n) (f:mn prog w A { s with toks:=s.toks + n } es key h m) (x:bJ s.heap d es ep) (hz:es.size≤sizeLine)
  (hnone:(∀j,j < es.size→m j=false)→∀h',bJ h' d (es.push ⟨h,key,v⟩) (ep + 1)→Heap.SameBut d s.heap h'→Q () { s with heap:=h',toks:=s.toks + n })
  (hsome:∀j (hj:j < es.size),m j=true→∀h',bJ h' d (es.modify j fun e=>{ e with val:=v }) ep→Heap.SameBut d s.heap h'→Q () { s with heap:=h',toks:=s.toks + n }) :
  wpAny (model prog w) A (dictSet d key v) Q E s:=by
 obtain⟨o,ho,hc,hd⟩:=x;unfold dictSet
 try with_reducible refine wpAny_holding ?_
 refine Mj (hh _ _ ?_);unfold dictSetHashed
 try with_reducible refine wpAny_holding ?_
 refine Mj (t6 (s:={ s with toks:=s.toks + n }) f ho hd ?_ ?_)
 ·intro hno;exact Mj (wpAny_rule (wpAny_updateDictKeys (hz:=hz) (s:={ s with toks:=s.toks + n }) ho hd (hnone hno _ ⟨_,Heap.get?_update_self _ ho (Obj.isFreed_of_dict (Obj.data_mapDictKeys hd _)),hc.mapDictKeys _,Obj.data_mapDictKeys hd _⟩ (Heap.SameBut.update ..))))
 ·intro j hj hm;exact Mj (wpAny_rule (Mj (wpAny_updateDict (s:={ s with toks:=s.toks + n }) ho hd (wpAny_point (hsome j hj hm _ ⟨_,Heap.get?_update_self _ ho (Obj.isFreed_of_dict (Obj.data_mapDict hd _)),hc.mapDict _,Obj.data_mapDict hd _⟩ (Heap.SameBut.update ..))))))
theorem wy {d:Addr} {es:Array DictEntry} {ep:Nat} {key:Value} {h:Int} {n j:Nat} {m:Nat→Bool} {Q:Value→Shared→Prop} (hh:ik prog w A.in1 s key h n) (f:mn prog w A.in1 { s with toks:=s.toks + n } es key h m) (x:bJ s.heap d es ep)
  (hj:j < es.size) (hm:m j=true) (hq:Q es[j].val { s with toks:=s.toks + n }):wpAny (model prog w) A (getItem (.ref d) key) Q E s:=by
 unfold getItem
 try with_reducible refine wpAny_holding ?_
 refine Mj (wpAny_sequenceKey x.typeIs (by decide) ?_)
 refine Mj (Nb (name:=Str.ofString "__getitem__") x.typeIs slot_dict_getitem
  (wpAny_call_entry slot_dict_getitem x.typeIs entry_dict_getitem ?_ (args_dict_getitem _ _)))
 show wpAny _ _ (dictGet d key >>= _) _ _ s
 refine Mj (w8 hh f x (fun hno=>by rw [hno j hj] at hm;cases hm) fun i hi hmi=>?_);have:=f.mu i j hi hj hmi hm;subst this;exact Mp ⟨_,rfl,Mp hq⟩
theorem xx {d:Addr} {es:Array DictEntry} {ep:Nat} {key v:Value} {h:Int} {n:Nat} {m:Nat→Bool} {Q:Unit→Shared→Prop} (hh:ik prog w A.in1 s key h n) (f:mn prog w A.in1 { s with toks:=s.toks + n } es key h m) (x:bJ s.heap d es ep) (hz:es.size≤sizeLine)
  (hnone:(∀j,j < es.size→m j=false)→∀h',bJ h' d (es.push ⟨h,key,v⟩) (ep + 1)→Heap.SameBut d s.heap h'→Q () { s with heap:=h',toks:=s.toks + n })
  (hsome:∀j (hj:j < es.size),m j=true→∀h',bJ h' d (es.modify j fun e=>{ e with val:=v }) ep→Heap.SameBut d s.heap h'→Q () { s with heap:=h',toks:=s.toks + n }) :
  wpAny (model prog w) A (setItem (.ref d) key v) Q E s:=by
 unfold setItem
 try with_reducible refine wpAny_holding ?_
 refine Mj (wpAny_sequenceKey x.typeIs (by decide) ?_)
 refine Mj (Nb (name:=Str.ofString "__setitem__") x.typeIs slot_dict_setitem
  (wpAny_call_entry slot_dict_setitem x.typeIs entry_dict_setitem ?_ (args_dict_setitem _ _ _)))
 show wpAny _ _ (Builtin.Dict.notOrdered "__setitem__" ⟨[.ref d,key,v],[]⟩ >>= _) _ _ s
 refine Mj (wpAny_notOrdered_dict x.typeIs ?_);show wpAny _ _ (dictSet d key v >>= _) _ _ s
 exact Mj (wb hh f x hz (fun hno h' a b=>Mp ⟨.none,rfl,Mp (hnone hno h' a b)⟩) (fun j hj hm h' a b=>Mp ⟨.none,rfl,Mp (hsome j hj hm h' a b)⟩))
theorem uK {d:Addr} {es:Array DictEntry} {ep:Nat} {key:Value} {h:Int} {n:Nat} {m:Nat→Bool} {Q:Bool→Shared→Prop} (hh:ik prog w A.in1 s key h n) (f:mn prog w A.in1 { s with toks:=s.toks + n } es key h m) (x:bJ s.heap d es ep) (hs:(d == sysModules)=false)
  (hnone:(∀j,j < es.size→m j=false)→Q false { s with toks:=s.toks + n }) (hsome:∀j (hj:j < es.size),m j=true→Q true { s with toks:=s.toks + n }):wpAny (model prog w) A (contains (.ref d) key) Q E s:=by
 unfold contains
 try with_reducible refine wpAny_holding ?_
 refine Mj (wpAny_specialOf x.typeIs slot_dict_contains.lookup ?_);show wpAny _ _ (if (some (Value.builtin "dict.__contains__") == some Value.none)=true then _ else _) _ E s
 rw [Mo (by rw [beq_builtin_none];exact Bool.false_ne_true)]
 refine Mj (wpAny_callSpecialUnlessNone?_slot (name:=Str.ofString "__contains__") x.typeIs slot_dict_contains
  (wpAny_call_entry slot_dict_contains x.typeIs entry_dict_contains ?_ (args_dict_contains _ _)))
 show wpAny _ _ (dictGet d key >>= _) _ _ s
 refine Mj (w8 hh f x (fun hno=>?_) fun i hi hmi=>?_)
 ·show wpAny _ _ (Builtin.Dict.pendingKey? d key >>= _) _ _ _
  exact Mj (wpAny_pendingKey_other hs (Mp ⟨_,rfl,wpAny_truthy_bool (hnone hno)⟩))
 ·show wpAny _ _ (ret (.bool true)) _ _ _
  exact Mp ⟨_,rfl,wpAny_truthy_bool (hsome i hi hmi)⟩
end
mutual
def aX:D→Bool
 | .int _=>true
 | .non=>true
 | .tup ds=>iA ds
 | _=>false
def iA:List D→Bool
 | []=>true
 | d :: ds=>aX d && iA ds
end
mutual
def Ea:D→Nat
 | .int _=>1
 | .non=>1
 | .tup ds=>uI ds + 1
 | _=>0
def uI:List D→Nat
 | []=>0
 | d :: ds=>Ea d + uI ds
end
theorem ow (d:D):∀ds:List D,qR (ds ++ [d])=qR ds ++ [Dd d]
 | []=>rfl
 | x :: ds=>by show Dd x :: qR (ds ++ [d])=_;rw [ow d ds];rfl
theorem o4 (d:D):∀ds:List D,uI (ds ++ [d])=uI ds + Ea d
 | []=>by simp [uI]
 | x :: ds=>by show Ea x + uI (ds ++ [d])=_;rw [o4 d ds];simp only [uI];omega
mutual
theorem dP:∀(a b:D),aX a=true→aY a b=true→aX b=true→a=b
 | .int i,b,h,e,k=>by cases b <;> simp only [aY,aX,beq_iff_eq,Mr] at e k;rw [e]
 | .tup ds,b,h,e,k=>by
  cases b <;> simp only [aY,aX,Mr] at e k
  rw [xN _ _ (by simpa only [aX] using h) e k]
 | .non,b,h,e,k=>by cases b <;> simp only [aY,Mr] at e;rfl
 | .bl _,b,h,e,k=>by simp only [aX,Mr] at h
 | .str _,b,h,e,k=>by simp only [aX,Mr] at h
 | .lst _,b,h,e,k=>by simp only [aX,Mr] at h
 | .dct _ _,b,h,e,k=>by simp only [aX,Mr] at h
 | .ty _,b,h,e,k=>by simp only [aX,Mr] at h
 | .exc _,b,h,e,k=>by simp only [aX,Mr] at h
 | .cls _,b,h,e,k=>by simp only [aX,Mr] at h
 | .obj _,b,h,e,k=>by simp only [aX,Mr] at h
theorem xN:∀(a b:List D),iA a=true→dY a b=true→iA b=true→a=b
 | [],b,h,e,k=>by cases b <;> simp only [dY,Mr] at e;rfl
 | x :: a,b,h,e,k=>by
  cases b with
  | nil=>simp only [dY,Mr] at e
  | cons y b =>
   simp only [dY,iA,Bool.and_eq_true] at e h k;rw [dP x y h.1 e.1 k.1,xN a b h.2 e.2 k.2]
end
mutual
theorem gH:∀(a:D),aX a=true→aY a a=true
 | .int i,h=>by simp only [aY,beq_self_eq_true]
 | .tup ds,h=>by simp only [aY];exact qL ds (by simpa only [aX] using h)
 | .non,h=>by simp only [aY]
 | .bl _,h=>by simp only [aX,Mr] at h
 | .str _,h=>by simp only [aX,Mr] at h
 | .lst _,h=>by simp only [aX,Mr] at h
 | .dct _ _,h=>by simp only [aX,Mr] at h
 | .ty _,h=>by simp only [aX,Mr] at h
 | .exc _,h=>by simp only [aX,Mr] at h
 | .cls _,h=>by simp only [aX,Mr] at h
 | .obj _,h=>by simp only [aX,Mr] at h
theorem qL:∀(a:List D),iA a=true→dY a a=true
 | [],h=>rfl
 | x :: a,h=>by
  simp only [iA,Bool.and_eq_true] at h;simp only [dY,Bool.and_eq_true];exact⟨gH x h.1,qL a h.2⟩
end
section
variable {X:Cx} {pins:List (Addr×Obj)} {σ:St} {H F:Hp}
theorem B5 {s:Shared} {a:Addr} {items:List Value} {A:Around} {ds:List D} {vs:List V} (hu:A.units < cLine) (hT:IsTup s.heap a items.toArray) (rv:Vals vs items) (dl:aj X.K F ds vs)
  (rec:∀(d:D) (v:V) (u:Value) (n:Nat),d∈ds→Den X.K F d v→RelV v u→ik X.prog X.w A.in1 { s with toks:=s.toks + n } u (Dd d) (Ea d)) :
  ik X.prog X.w A s (.ref a) (reduceHash (Builtin.Tuple.tupleHashOf (qR ds))) (uI ds + 1):=by
 intro E Q h;obtain⟨o,ho,hc,n,hd⟩:=hT;have hT:s.TypeIs (.ref a) "tuple":=⟨o,ho,hc⟩
 unfold PySem.pyHash
 first | unfold pyHashByItsType | skip
 first | refine Mj (wpAny_cRoomFor_or (.inr hu) ?_) | skip
 refine Mj (wpAny_specialOf hT PySem.F.slot_tuple_hash.lookup ?_);show wpAny _ _ (if (some (Value.builtin "tuple.__hash__") == some Value.none)=true then _ else _) Q E s
 rw [Mo (by rw [beq_builtin_none];exact Bool.false_ne_true)];refine Mj (wpAny_specialOf hT PySem.F.slot_tuple_hash.lookup ?_);show wpAny _ _ (callSpecialIfBoundUnlessNone? (.ref a) "__hash__" _ >>= _) Q E s
 refine Mj (wpAny_callSpecialIfBoundUnlessNone?_slot hT PySem.F.slot_tuple_hash (wpAny_call_entry PySem.F.slot_tuple_hash hT PySem.F.entry_tuple_hash ?_ (PySem.F.args_tuple_hash_1 _)));show wpAny _ _ (Builtin.Tuple.tupleItemsOf (.ref a) >>= _) _ _ s
 refine Mj (wpAny_tupleItemsOf ho hd ?_);refine Mj ?_;rw [← Array.forIn_toList]
 refine wpAny_forIn_list _
  (fun rest (b:Array Int) s'=>∃done left vl,ds=done ++ left∧aj X.K F left vl∧Vals vl rest∧b.toList=qR done∧s'={ s with toks:=s.toks + uI done })
  _ ?_ ?_ _ _ ⟨[],ds,vs,rfl,dl,by simpa using rv,rfl,rfl⟩
 ·rintro x rest b s' ⟨done,left,vl,rfl,hl,hv,hb,rfl⟩
  cases hv with
  | @cons v _ vl' _ r1 hv' =>
   cases left with
   | nil=>simp only [aj] at hl;cases hl
   | cons d left' =>
    simp only [aj] at hl;obtain⟨v',r',e,hd',hl'⟩:=hl;cases e;refine Mj (rec d v x _ (by simp) hd' r1 _ _ ?_)
    first
     | exact Mp ⟨done ++ [d],left',vl',by simp,hl',hv',by simp [hb,ow],by simp [o4,Nat.add_assoc]⟩
     | exact Mj (Mp (Mp ⟨done ++ [d],left',vl',by simp,hl',hv',by simp [hb,ow],by simp [o4,Nat.add_assoc]⟩))
 ·rintro b s' ⟨done,left,vl,rfl,hl,hv,hb,rfl⟩;cases hv
  cases left with
  | cons d left'=>simp only [aj] at hl;obtain⟨_,_,e,_⟩:=hl;cases e
  | nil =>
  rw [Nf] at h;show wpAny _ _ (retInt (Builtin.Tuple.tupleHashOf b.toList)) _ _ _
  rw [hb];refine wpAny_ret_mkInt ?_;show wpAny _ _ (if (decide (-(2:Int) ^ 63≤Builtin.Tuple.tupleHashOf (qR done)) && decide (Builtin.Tuple.tupleHashOf (qR done) < 2 ^ 63))=true then _ else _) Q E _
  unfold reduceHash at h
  by_cases hr:(decide (-(2:Int) ^ 63≤Builtin.Tuple.tupleHashOf (qR done)) && decide (Builtin.Tuple.tupleHashOf (qR done) < 2 ^ 63))=true
  ·rw [Mw hr];rw [Mw hr] at h;exact Mp (by simpa [Nat.add_assoc] using h)
  ·rw [Mo hr];rw [Mo hr] at h;exact Mj (wpAny_rule (Mp (by simpa [Nat.add_assoc] using h)))
theorem DP {s:Shared} {A:Around} (hu:A.units < cLine):ik X.prog X.w A s .none 4238894112 1:=by
 intro E Q h;have hT:s.TypeIs .none "NoneType":=rfl
 unfold PySem.pyHash
 first | unfold pyHashByItsType | skip
 first | refine Mj (wpAny_cRoomFor_or (.inr hu) ?_) | skip
 refine Mj (wpAny_specialOf hT PySem.F.slot_NoneType_hash.lookup ?_);show wpAny _ _ (if (some (Value.builtin "NoneType.__hash__") == some Value.none)=true then _ else _) Q E s
 rw [Mo (by rw [beq_builtin_none];exact Bool.false_ne_true)];refine Mj (wpAny_specialOf hT PySem.F.slot_NoneType_hash.lookup ?_);show wpAny _ _ (callSpecialIfBoundUnlessNone? .none "__hash__" _ >>= _) Q E s
 refine Mj (wpAny_callSpecialIfBoundUnlessNone?_slot hT PySem.F.slot_NoneType_hash (wpAny_call_entry PySem.F.slot_NoneType_hash hT PySem.F.entry_NoneType_hash ?_ (PySem.F.args_NoneType_hash_1 _)));show wpAny _ _ (retInt 4238894112) _ _ _
 refine wpAny_ret_mkInt ?_;exact Mp h
mutual
theorem j4 (fh:ao F H):∀(d:D) (s:Shared) (A:Around) (v:V) (u:Value),Inv X pins σ H s→aX d=true→A.units + dep d < cLine→Den X.K F d v→RelV v u→ik X.prog X.w A s u (Dd d) (Ea d)
 | .int i,s,A,v,u,I,hk,hu,hd,r=>by
  simp only [Den] at hd;subst hd;obtain⟨t,rfl⟩:=r;intro E Q h
  exact (qx X.prog X.w).pyHash (k:=.inl i) (Bv i t) h
 | .tup ds,s,A,v,u,I,hk,hu,hd,r=>by
  simp only [Den] at hd;obtain⟨a,vs,rfl,q,dl⟩:=hd;cases r;obtain⟨its,rv,ht,hz⟩:=I.tuple (ao.cT fh q);simp only [dep] at hu
  exact B5 (by omega) ht rv dl fun d v u n hm hd' r'=>ub fh ds d { s with toks:=s.toks + n } A.in1 v u (I.tok _) (by simpa only [aX] using hk) (by rw [units_in1];omega) hm hd' r'
 | .non,s,A,v,u,I,hk,hu,hd,r=>by
  simp only [Den] at hd;subst hd;cases r
  exact DP (by simp only [dep] at hu;omega)
 | .bl _,_,_,_,_,_,hk,_,_,_=>by simp only [aX,Mr] at hk
 | .str _,_,_,_,_,_,hk,_,_,_=>by simp only [aX,Mr] at hk
 | .lst _,_,_,_,_,_,hk,_,_,_=>by simp only [aX,Mr] at hk
 | .dct _ _,_,_,_,_,_,hk,_,_,_=>by simp only [aX,Mr] at hk
 | .ty _,_,_,_,_,_,hk,_,_,_=>by simp only [aX,Mr] at hk
 | .exc _,_,_,_,_,_,hk,_,_,_=>by simp only [aX,Mr] at hk
 | .cls _,_,_,_,_,_,hk,_,_,_=>by simp only [aX,Mr] at hk
 | .obj _,_,_,_,_,_,hk,_,_,_=>by simp only [aX,Mr] at hk
theorem ub (fh:ao F H):∀(ds:List D) (d:D) (s:Shared) (A:Around) (v:V) (u:Value),Inv X pins σ H s→iA ds=true→A.units + cB ds < cLine→d∈ds→Den X.K F d v→RelV v u→ik X.prog X.w A s u (Dd d) (Ea d)
 | [],d,s,A,v,u,I,hk,hu,hm,hd,r=>by cases hm
 | x :: ds,d,s,A,v,u,I,hk,hu,hm,hd,r=>by
  simp only [iA,Bool.and_eq_true] at hk;simp only [cB] at hu
  by_cases c:d∈ds
  ·exact ub fh ds d s A v u I hk.2 (by omega) c hd r
  ·have:d=x:=(MA.mp hm).elim id (fun e=>absurd e c);rw [this] at hd ⊢;exact j4 fh x s A v u I hk.1 (by omega) hd r
end
def rO (prog:Program) (w:World) (A:Around) (s:Shared) (n:Nat) (v:Value):Prop:=∀(E:Value→Shared→Prop) (Q:Bool→Shared→Prop),Q true s→wpAny (model prog w) A (eqIsQuiet n v) Q E s
theorem Bw {s:Shared} {a:Addr} {items:List Value} {A:Around} {n:Nat} (hT:IsTup s.heap a items.toArray)
  (rec:∀u∈items,rO X.prog X.w A s n u):rO X.prog X.w A s (n + 1) (.ref a):=by
 intro E Q h;obtain⟨o,ho,hc,k,hd⟩:=hT;have hT:s.TypeIs (.ref a) "tuple":=⟨o,ho,hc⟩
 unfold eqIsQuiet;refine Mj (wpAny_specialOf hT PySem.F.slot_tuple_eq.lookup ?_);show wpAny _ _ (isInstance (.ref a) (.type "tuple") >>= _) _ _ s
 refine Mj (wpAny_isInstance hT isSubtype_tuple_tuple ?_);simp only [Bool.not_true,Mr,if_false];refine Mj (wpAny_seqItems ho hd ?_);refine Mj ?_;show wpAny _ _ (forIn items.toArray _ _) _ _ s
 rw [← Array.forIn_toList];refine wpAny_forIn_list _ (fun rest r s'=>r.1=none∧s'=s∧∀v∈rest,rO X.prog X.w A s n v) _ ?_ ?_ _ _ ⟨rfl,rfl,by simpa using rec⟩
 ·rintro v rest r s' ⟨hr,rfl,hall⟩;refine Mj (hall v MO _ _ ?_);simp only [Bool.not_true,Mr,if_false];exact Mp ⟨rfl,rfl,fun u hu'=>hall u (MB _ hu')⟩
 ·rintro⟨r1,r2⟩ s' ⟨hr,rfl,_⟩;simp only at hr;subst hr;exact Mp h
mutual
theorem oQ (fh:ao F H):∀(d:D) (s:Shared) (A:Around) (n:Nat) (v:V) (u:Value),Inv X pins σ H s→aX d=true→dep d≤n→Den X.K F d v→RelV v u→rO X.prog X.w A s n u
 | .int i,s,A,n,v,u,I,hk,hu,hd,r=>by
  simp only [Den] at hd;subst hd;obtain⟨t,rfl⟩:=r;intro E Q h;rw [eqIsQuiet_byValue n (v:=.int i t) rfl]
  exact Mp h
 | .tup ds,s,A,n,v,u,I,hk,hu,hd,r=>by
  simp only [Den] at hd;obtain⟨a,vs,rfl,q,dl⟩:=hd;cases r;obtain⟨its,rv,ht,hz⟩:=I.tuple (ao.cT fh q);simp only [dep] at hu
  cases n with
  | zero=>omega
  | succ n=>exact Bw ht (sv fh ds s A n vs its I (by simpa only [aX] using hk) (by omega) dl rv)
 | .non,s,A,n,v,u,I,hk,hu,hd,r=>by
  simp only [Den] at hd;subst hd;cases r;intro E Q h;rw [eqIsQuiet_byValue n (v:=.none) rfl]
  exact Mp h
 | .bl _,_,_,_,_,_,_,hk,_,_,_=>by simp only [aX,Mr] at hk
 | .str _,_,_,_,_,_,_,hk,_,_,_=>by simp only [aX,Mr] at hk
 | .lst _,_,_,_,_,_,_,hk,_,_,_=>by simp only [aX,Mr] at hk
 | .dct _ _,_,_,_,_,_,_,hk,_,_,_=>by simp only [aX,Mr] at hk
 | .ty _,_,_,_,_,_,_,hk,_,_,_=>by simp only [aX,Mr] at hk
 | .exc _,_,_,_,_,_,_,hk,_,_,_=>by simp only [aX,Mr] at hk
 | .cls _,_,_,_,_,_,_,hk,_,_,_=>by simp only [aX,Mr] at hk
 | .obj _,_,_,_,_,_,_,hk,_,_,_=>by simp only [aX,Mr] at hk
theorem sv (fh:ao F H):∀(ds:List D) (s:Shared) (A:Around) (n:Nat) (vs:List V) (us:List Value),Inv X pins σ H s→iA ds=true→cB ds≤n→aj X.K F ds vs→Vals vs us→∀u∈us,rO X.prog X.w A s n u
 | [],s,A,n,vs,us,I,hk,hu,dl,rv,u,hm=>by
  simp only [aj] at dl;subst dl
  cases rv;cases hm
 | d :: ds,s,A,n,vs,us,I,hk,hu,dl,rv,u,hm=>by
  simp only [aj] at dl;obtain⟨v,r,rfl,a,b⟩:=dl;simp only [iA,Bool.and_eq_true] at hk;simp only [cB] at hu
  cases rv with
  | @cons _ x _ xs r1 rv' =>
   by_cases c:u∈xs
   ·exact sv fh ds s A n r xs I hk.2 (by omega) b rv' u c
   ·have:u=x:=(MA.mp hm).elim id (fun e=>absurd e c);rw [this];exact oQ fh d s A n v x I hk.1 (by omega) a r1
end
end
end L2.L3
namespace L2.L3
open PySem PySem.Spec PyProof.Rows
structure bg (kvs:List (D×D)):Prop where
 key:∀kv∈kvs,aX kv.1=true∧dep kv.1≤8
 dif:∀(i j:Nat) (x y:D×D),kvs[i]?=some x→kvs[j]?=some y→x.1=y.1→i=j
def sR (kvs:List (D×D)) (d:D) (j:Nat):Bool:=match kvs[j]? with
 | some kv=>aY kv.1 d
 | none=>false
section
variable {X:Cx} {pins:List (Addr×Obj)} {σ:St} {H F:Hp} {s:Shared} {kvs:List (D×D)} {us vs:List V} {p:Addr} {A:Around} {d:D} {v:V} {u:Value}
theorem gS (I:Inv X pins σ H s) {ep:Nat} {rows:List (Int×V×V)} (e:H p=some (bM p ep rows)):rows.length≤sizeLine∧(p == sysModules)=false∧∃es,bJ s.heap p es ep∧Paired yl rows es.toList:=(I.hok p _ e).1
theorem gU {α β:Type} {R:α→β→Prop}:∀{xs:List α} {ys:List β} {i:Nat} {y:β},Paired R xs ys→ys[i]?=some y→∃x,xs[i]?=some x∧R x y
 | _,_,_,_,.nil,e=>by simp at e
 | _,_,0,_,.cons r _,e=>by simp at e;subst e;exact⟨_,rfl,r⟩
 | _,_,i + 1,y,.cons _ t,e=>by
  obtain⟨x,h1,h2⟩:=gU (i:=i) (y:=y) t (by simpa using e);exact⟨x,by simpa using h1,h2⟩
theorem bX (d1:aj X.K F (kvs.map (·.1)) us) (d2:aj X.K F (kvs.map (·.2)) vs):(bc kvs us vs).length=kvs.length:=by
 have l1:=d1.length;have l2:=d2.length;simp only [My] at l1 l2;unfold bc;simp only [List.length_zip,My,← l1,← l2,Nat.min_self]
theorem vi (d1:aj X.K F (kvs.map (·.1)) us) (d2:aj X.K F (kvs.map (·.2)) vs) {es:Array DictEntry} (pr:Paired yl (bc kvs us vs) es.toList) {j:Nat} (hj:j < es.size) :
  ∃kv a b,kvs[j]?=some kv∧us[j]?=some a∧vs[j]?=some b∧Den X.K F kv.1 a∧Den X.K F kv.2 b∧es[j].hash=Dd kv.1∧RelV a es[j].key∧RelV b es[j].val:=by
 have l:=bX d1 d2;have lp:=Paired.length pr;have hk:j < kvs.length:=by rw [← l,lp];simpa using hj
 obtain⟨row,hr,e1,e2,e3⟩:=gU pr (y:=es[j]) (i:=j) (by simp [hj]);have g0:kvs[j]?=some kvs[j]:=Mm hk;obtain⟨a,ha,da⟩:=d1.get (i:=j) (d:=kvs[j].1) (by rw [Ms,g0];rfl);obtain⟨b,hb,db⟩:=d2.get (i:=j) (d:=kvs[j].2) (by rw [Ms,g0];rfl)
 have:row=(Dd kvs[j].1,a,b):=by
  unfold bc at hr;rw [List.getElem?_zip_eq_some,List.getElem?_zip_eq_some,Ms,g0] at hr;obtain⟨h1,h2,h3⟩:=hr;rw [ha] at h2;rw [hb] at h3;exact Nk (Mq h1).symm (Nk (Mq h2).symm (Mq h3).symm)
 subst this;exact⟨_,a,b,g0,ha,hb,da,db,e1,e2,e3⟩
theorem qt (I:Inv X pins σ H s) (fh:ao F H) (ok:bg kvs) (d1:aj X.K F (kvs.map (·.1)) us) (d2:aj X.K F (kvs.map (·.2)) vs) {es:Array DictEntry} (pr:Paired yl (bc kvs us vs) es.toList)
  (hk:aX d=true) (hd:dep d≤8) (hu:A.units + 8 < cLine) (dd:Den X.K F d v) (rv:RelV v u):mn X.prog X.w A s es u (Dd d) (sR kvs d):=by
 have at_:=fun j hj=>vi d1 d2 pr (j:=j) hj;have mat:∀j kv,kvs[j]?=some kv→sR kvs d j=aY kv.1 d:=fun j kv e=>by unfold sR;rw [e]
 have kk:∀(j:Nat) (kv:D×D),kvs[j]?=some kv→aX kv.1=true∧dep kv.1≤8:=fun j kv e=>ok.key kv (Mu e);refine⟨fun j hj=>?_,fun j hj hm=>?_,fun i j hi hj h1 h2=>?_,fun j hj he=>?_,?_,fun j hj=>?_,?_⟩
 ·obtain⟨kv,a,b,g0,g1,g2,da,db,e1,e2,e3⟩:=at_ j hj;rw [mat j kv g0];have:=(kk j kv g0).2;exact sg I fh kv.1 d A a v _ _ (by omega) (by omega) (by omega) da dd e2 rv
 ·obtain⟨kv,a,b,g0,g1,g2,da,db,e1,e2,e3⟩:=at_ j hj;rw [mat j kv g0] at hm;rw [e1,dP kv.1 d (kk j kv g0).1 hm hk]
 ·obtain⟨kv,_,_,g0,_⟩:=at_ i hi;obtain⟨kw,_,_,f0,_⟩:=at_ j hj;rw [mat i kv g0] at h1;rw [mat j kw f0] at h2;exact ok.dif i j kv kw g0 f0 (by rw [dP kv.1 d (kk i kv g0).1 h1 hk,dP kw.1 d (kk j kw f0).1 h2 hk])
 ·obtain⟨kv,a,b,g0,g1,g2,da,db,e1,e2,e3⟩:=at_ j hj;rw [he] at e2;have:=e2.inj rv;subst this;have k1:=(kk j kv g0).2;rw [e1,dP kv.1 d (kk j kv g0).1 (qp I fh kv.1 d a (by omega) (by omega) da dd) hk]
 ·exact oQ fh d s A 8 v u I hk hd dd rv
 ·obtain⟨kv,a,b,g0,g1,g2,da,db,e1,e2,e3⟩:=at_ j hj;exact oQ fh kv.1 s A 8 a _ I (kk j kv g0).1 (kk j kv g0).2 da e2
 ·cases d with
  | int i=>simp only [Den] at dd;subst dd;obtain⟨t,rfl⟩:=rv;exact .inl ⟨i,t,rfl⟩
  | tup ds=>simp only [Den] at dd;obtain⟨a,_,rfl,_⟩:=dd;cases rv;exact .inr (.inl ⟨a,rfl⟩)
  | non=>simp only [Den] at dd;subst dd;cases rv;exact .inr (.inr rfl)
  | _=>simp only [aX,Mr] at hk
def dH (kvs:List (D×D)) (d:D):Option D:=(kvs.find? fun kv=>aY kv.1 d).map (·.2)
def putN (kvs:List (D×D)) (d x:D):List (D×D):=if (kvs.any fun kv=>aY kv.1 d)=true then kvs.map (fun kv=>if aY kv.1 d=true then (kv.1,x) else kv) else kvs ++ [(d,x)]
theorem E4 (ok:bg kvs) (hk:aX d=true) {x:D} (h:dH kvs d=some x):∃(j:Nat) (kv:D×D),kvs[j]?=some kv∧aY kv.1 d=true∧kv.2=x:=by
 unfold dH at h;obtain⟨kv,h1,h2⟩:=Nh.mp h;obtain⟨j,hj⟩:=MJ (List.mem_of_find?_eq_some h1);have m:=List.find?_some (p:=fun kv:D×D=>aY kv.1 d) h1;exact⟨j,kv,hj,m,h2⟩
theorem CF (hu:A.units + 9 < cLine) (I:Inv X pins σ H s) (fh:ao F H) (ok:bg kvs) (d1:aj X.K F (kvs.map (·.1)) us) (d2:aj X.K F (kvs.map (·.2)) vs) {ep:Nat} (e:H p=some (bM p ep (bc kvs us vs)))
  (hk:aX d=true) (hd:dep d≤8) (dd:Den X.K F d v) (rv:RelV v u) {x:D} (hx:dH kvs d=some x) {E:Value→Shared→Prop} {Q:Value→Shared→Prop}
  (h:∀w' u' s',Inv X pins σ H s'→Den X.K F x w'→RelV w' u'→Q u' s'):wpAny (model X.prog X.w) A (getItem (.ref p) u) Q E s:=by
 obtain⟨hz,hs,es,dh,pr⟩:=gS I e;obtain⟨j,kv,g0,m0,rfl⟩:=E4 ok hk hx;have lp:=Paired.length pr;rw [bX d1 d2] at lp;have hj:j < es.size:=by have:=(Mi.mp g0).1;simp at lp;omega
 obtain⟨kv',a,b,g0',g1,g2,da,db,e1,e2,e3⟩:=vi d1 d2 pr hj;rw [g0] at g0';cases g0';refine wy (j:=j) (j4 fh d s A.in1 v u I hk (by rw [units_in1];omega) dd rv) (qt (I.tok _) fh ok d1 d2 pr hk hd (by rw [units_in1];omega) dd rv) dh hj (by unfold sR;rw [g0];exact m0) ?_;exact h b _ _ (I.tok _) db e3
theorem FY (hu:A.units + 9 < cLine) (I:Inv X pins σ H s) (fh:ao F H) (ok:bg kvs) (d1:aj X.K F (kvs.map (·.1)) us) (d2:aj X.K F (kvs.map (·.2)) vs) {ep:Nat} (e:H p=some (bM p ep (bc kvs us vs)))
  (hk:aX d=true) (hd:dep d≤8) (dd:Den X.K F d v) (rv:RelV v u) {E:Value→Shared→Prop} {Q:Bool→Shared→Prop}
  (h:∀s',Inv X pins σ H s'→Q (kvs.any fun kv=>aY kv.1 d) s'):wpAny (model X.prog X.w) A (contains (.ref p) u) Q E s:=by
 obtain⟨hz,hs,es,dh,pr⟩:=gS I e;have lp:=Paired.length pr;rw [bX d1 d2] at lp;refine uK (j4 fh d s A.in1 v u I hk (by rw [units_in1];omega) dd rv) (qt (I.tok _) fh ok d1 d2 pr hk hd (by rw [units_in1];omega) dd rv) dh hs (fun hno=>?_) fun j hj hm=>?_
 ·have:(kvs.any fun kv=>aY kv.1 d)=false:=by
   rw [List.any_eq_false];intro kv hm;obtain⟨j,hj⟩:=MJ hm;have:=hno j (by have:=(Mi.mp hj).1;simp at lp;omega);unfold sR at this;rw [hj] at this
   simpa using this
  have q:=h { s with toks:=s.toks + Ea d } (I.tok _);rw [this] at q;exact q
 ·have:(kvs.any fun kv=>aY kv.1 d)=true:=by
   rw [List.any_eq_true];unfold sR at hm
   cases g:kvs[j]? with
   | none=>rw [g] at hm;cases hm
   | some kv=>rw [g] at hm;exact⟨kv,Mu g,hm⟩
  have q:=h { s with toks:=s.toks + Ea d } (I.tok _);rw [this] at q;exact q
end
theorem iB {α β:Type} {R:α→β→Prop}:∀{xs:List α} {ys:List β},xs.length=ys.length→(∀(i:Nat) x y,xs[i]?=some x→ys[i]?=some y→R x y)→Paired R xs ys
 | [],[],_,_=>.nil
 | [],_ :: _,h,_=>by simp at h
 | _ :: _,[],h,_=>by simp at h
 | x :: xs,y :: ys,h,f=>.cons (f 0 x y rfl rfl) (iB (by simpa using h) fun i a b h1 h2=>f (i + 1) a b (by simpa using h1) (by simpa using h2))
theorem dX {kvs:List (D×D)} {us vs:List V} {i:Nat} {row:Int×V×V} (h:(bc kvs us vs)[i]?=some row):∃kv,kvs[i]?=some kv∧row.1=Dd kv.1∧us[i]?=some row.2.1∧vs[i]?=some row.2.2:=by
 unfold bc at h;rw [List.getElem?_zip_eq_some,List.getElem?_zip_eq_some,Ms] at h;obtain⟨h1,h2,h3⟩:=h;obtain⟨kv,a,b⟩:=Nh.mp h1;exact⟨kv,a,b.symm,h2,h3⟩
theorem zm {kvs:List (D×D)} {d x:D} {j:Nat} {kv:D×D} (ok:bg kvs) (hk:aX d=true) (hj:kvs[j]?=some kv) (hm:aY kv.1 d=true):kvs.map (fun kv=>if aY kv.1 d=true then (kv.1,x) else kv)=kvs.set j (kv.1,x):=by
 apply List.ext_getElem?
 intro i;rw [Ms]
 by_cases e:j=i
 ·subst e;rw [Mx (Mi.mp hj).1,hj];simp only [Option.map_some,Mw hm]
 ·rw [Ml e]
  cases g:kvs[i]? with
  | none=>rfl
  | some kw =>
   simp only [Option.map_some];rw [Mo];intro hw;exact e (ok.dif j i kv kw hj g (by rw [dP kv.1 d (ok.key kv (Mu hj)).1 hm hk,dP kw.1 d (ok.key kw (Mu g)).1 hw hk]))
theorem pb {kvs:List (D×D)} {j:Nat} {kv:D×D} {x:D} (hj:kvs[j]?=some kv):(kvs.set j (kv.1,x)).map (·.1)=kvs.map (·.1):=by
 apply List.ext_getElem?
 intro i;rw [Ms,Ms]
 by_cases e:j=i
 ·subst e;rw [Mx (Mi.mp hj).1,hj];rfl
 ·rw [Ml e]
theorem pz {kvs:List (D×D)} {j:Nat} {y x:D}:(kvs.set j (y,x)).map (·.2)=(kvs.map (·.2)).set j x:=by
 rw [List.map_set]
section
variable {X:Cx} {pins:List (Addr×Obj)} {σ:St} {H F:Hp} {s:Shared} {kvs:List (D×D)} {us vs:List V} {p:Addr} {A:Around} {d x:D} {v w:V} {u r:Value}
theorem GW (hu:A.units + 9 < cLine) (I:Inv X pins σ H s) (fh:ao F H) (ok:bg kvs) (d1:aj X.K F (kvs.map (·.1)) us) (d2:aj X.K F (kvs.map (·.2)) vs) {ep:Nat} (e:H p=some (bM p ep (bc kvs us vs)))
  (hk:aX d=true) (hd:dep d≤8) (dd:Den X.K F d v) (rv:RelV v u) (dx:Den X.K F x w) (rw':RelV w r) (hl:kvs.length < sizeLine) {E:Value→Shared→Prop} {Q:Unit→Shared→Prop}
  (h:∀ep' us' vs' s',aj X.K F ((putN kvs d x).map (·.1)) us'→aj X.K F ((putN kvs d x).map (·.2)) vs'→Inv X pins σ (upd H p (bM p ep' (bc (putN kvs d x) us' vs'))) s'→Q () s'):wpAny (model X.prog X.w) A (setItem (.ref p) u r) Q E s:=by
 obtain⟨hz,hs,es,dh,pr⟩:=gS I e;have lp:=Paired.length pr;have l0:=bX d1 d2;rw [l0] at lp hz;have lp':kvs.length=es.size:=by simpa using lp
 have l1:=d1.length;have l2:=d2.length;simp only [My] at l1 l2
 have ext:∀(ep':Nat) (rows:List (Int×V×V)) (h':Heap) (es':Array DictEntry),rows.length≤sizeLine→bJ h' p es' ep'→Paired yl rows es'.toList→c6 X.prog X.w (upd H p (bM p ep' rows)) h' p (bM p ep' rows):=fun ep' rows h' es' z dh' pr'=>by
  refine⟨⟨z,hs,es',dh',pr'⟩,?_,?_⟩
  ·obtain⟨o,ho,_⟩:=dh';exact⟨o,ho⟩
  ·rintro h1 h2 ⟨z,hs,es,⟨o,ho,c,dd⟩,pr⟩ k;exact⟨z,hs,es,⟨o,k _ ho,c,dd⟩,pr⟩
 have hash:=j4 fh d s A.in1 v u I hk (by rw [units_in1];omega) dd rv;have find:=qt (I.tok (s.toks + Ea d)) fh ok d1 d2 pr hk hd (A:=A.in1) (by rw [units_in1];omega) dd rv;refine xx hash find dh (by omega) (fun hno h' dh' sb=>?_) fun j hj hm h' dh' sb=>?_
 ·have any:(kvs.any fun kv=>aY kv.1 d)=false:=by
   rw [List.any_eq_false];intro kv hm;obtain⟨j,hj⟩:=MJ hm;have:=hno j (by have:=(Mi.mp hj).1;omega);unfold sR at this;rw [hj] at this
   simpa using this
  have pe:putN kvs d x=kvs ++ [(d,x)]:=by unfold putN;rw [any];rfl
  have q1:aj X.K F ((putN kvs d x).map (·.1)) (us ++ [v]):=by rw [pe,List.map_append];exact d1.append (aM dd aO)
  have q2:aj X.K F ((putN kvs d x).map (·.2)) (vs ++ [w]):=by rw [pe,List.map_append];exact d2.append (aM dx aO)
  refine h _ _ _ _ q1 q2 (m9 I (by rw [e];exact True.intro) sb (let ⟨o,ho,_⟩:=dh';⟨o,ho⟩) (ext _ _ h' _ ?_ dh' ?_))
  ·rw [bX q1 q2,pe];simp;omega
  ·refine iB (by rw [bX q1 q2,pe];simp;omega) fun i row en h1 h2=>?_;obtain⟨kv,k1,k2,k3,k4⟩:=dX h1;rw [pe] at k1;simp only [Array.toList_push] at h2
   by_cases c:i < kvs.length
   ·rw [MC c] at k1;rw [MC (by omega)] at k3 k4;rw [MC (by simp;omega)] at h2;obtain⟨row',g1,g2⟩:=gU pr h2;obtain⟨kv',f1,f2,f3,f4⟩:=dX g1;rw [f1] at k1;cases k1;rw [f3] at k3;rw [f4] at k4;have:row'=row:=Nk (by rw [f2,k2]) (Nk (Mq k3) (Mq k4));rw [← this];exact g2
   ·have hi:i=kvs.length:=by
     have:=(Mi.mp k1).1;simp at this;omega
    rw [hi,MF (Mv _),Nat.sub_self] at k1;rw [show i=us.length by omega,MF (Mv _),Nat.sub_self] at k3;rw [show i=vs.length by omega,MF (Mv _),Nat.sub_self] at k4;rw [show i=es.toList.length by simp;omega,MF (Mv _),Nat.sub_self] at h2;cases k1;cases h2;have a3:v=row.2.1:=Mq k3;have a4:w=row.2.2:=Mq k4;exact⟨k2.symm,by rw [← a3];exact rv,by rw [← a4];exact rw'⟩
 ·obtain⟨kv,a,b,g0,g1,g2,da,db,e1,e2,e3⟩:=vi d1 d2 pr hj;unfold sR at hm;rw [g0] at hm;have any:(kvs.any fun kv=>aY kv.1 d)=true:=List.any_eq_true.mpr ⟨kv,Mu g0,hm⟩;have pe:putN kvs d x=kvs.set j (kv.1,x):=by unfold putN;rw [any,Mw rfl];exact zm ok hk g0 hm
  have q1:aj X.K F ((putN kvs d x).map (·.1)) us:=by rw [pe,pb g0];exact d1
  have q2:aj X.K F ((putN kvs d x).map (·.2)) (vs.set j w):=by rw [pe,pz];exact aj.set dx j d2
  refine h _ _ _ _ q1 q2 (m9 I (by rw [e];exact True.intro) sb (let ⟨o,ho,_⟩:=dh';⟨o,ho⟩) (ext _ _ h' _ ?_ dh' ?_))
  ·rw [bX q1 q2,pe];simp;omega
  ·refine iB (by rw [bX q1 q2,pe];simp;omega) fun i row en h1 h2=>?_;obtain⟨kw,k1,k2,k3,k4⟩:=dX h1;rw [pe] at k1;rw [Nl,Array.getElem?_modify] at h2
   by_cases c:j=i
   ·subst c;rw [Mw rfl,Array.getElem?_eq_getElem hj] at h2;rw [Mx (by omega)] at k1 k4;cases k1;cases h2;rw [g1] at k3;have a3:a=row.2.1:=Mq k3;have a4:w=row.2.2:=Mq k4;exact⟨by rw [k2];exact e1,by rw [← a3];exact e2,by rw [← a4];exact rw'⟩
   ·rw [Mo c,← Nl] at h2;rw [Ml c] at k1 k4;obtain⟨row',f0,f1⟩:=gU pr h2;obtain⟨kv',t1,t2,t3,t4⟩:=dX f0;rw [t1] at k1;cases k1;rw [t3] at k3;rw [t4] at k4;have:row'=row:=Nk (by rw [t2,k2]) (Nk (Mq k3) (Mq k4));rw [← this];exact f1
end
section
variable {K:Mn} {B:Base} {F H F' H':Hp} {σ:St} {e:En}
theorem bb {e:En} {i j:Nat} {l:Lo} {xs:List D} (hl:∀z,l≠.own z) (q:(e.set i (some l))[j]?=some (some (.own xs))):i≠j:=fun z=>by
 subst z
 by_cases w:i < e.length
 ·rw [Mx w] at q;cases q;exact hl _ rfl
 ·rw [MI (by simpa using w)] at q;cases q
theorem nj {e:En} {i j:Nat} {l:Lo} {x:D} (hl:∀z,l≠.d z) (q:(e.set i (some l))[j]?=some (some (.d x))):i≠j:=fun z=>by
 subst z
 by_cases w:i < e.length
 ·rw [Mx w] at q;cases q;exact hl _ rfl
 ·rw [MI (by simpa using w)] at q;cases q
theorem Rep.Hn (r:Rep K B F H σ e) {i:Nat} {p:Addr} (h:H p=none) (hl:i < σ.length) :
  Rep K B F (upd H p (bM p 0 [])) (σ.set i (some (.ref p))) (e.set i (some (.dic []))):=by
 have r1:=r.loose (o:=bM p 0 []) h;have hb:B.H p=none:=r.h0.free h
 have old:∀(j:Nat) (ys:List (D×D)),e[j]?=some (some (.dic ys))→σ[j]?≠some (some (.ref p)):=fun j ys q z=>by
  obtain⟨q1,_,_,_,h1,h2,_⟩:=r.mv j ys q;rw [z] at h1;cases h1;rw [h] at h2;cases h2
 refine⟨r1.f0,r1.fh,r1.h0,r1.nf,fun j y q=>?_,fun j y q=>?_,fun j k ys zs q hjk q1 q2 q3 q4=>?_,fun j y q=>?_,fun j k ys zs q hjk q1 q2 q3 q4=>?_⟩
 ·have z:=nj (fun _ w=>by cases w) q;rw [Ml z] at q ⊢;exact r1.dv j y q
 ·have z:=bb (fun _ w=>by cases w) q;rw [Ml z] at q ⊢;exact r1.ov j y q
 ·have z1:=bb (fun _ w=>by cases w) q1;have z2:=bb (fun _ w=>by cases w) q2;rw [Ml z1] at q1 q3;rw [Ml z2] at q2 q4;exact r.ne j k ys zs q hjk q1 q2 q3 q4
 ·by_cases z:i=j
  ·subst z
   by_cases w:i < e.length
   ·rw [Mx w] at q;cases q;exact⟨p,0,[],[],Mx hl,au,r.lM h,hb,aO,aO⟩
   ·rw [MI (by simpa using w)] at q;cases q
  ·rw [Ml z] at q ⊢;exact r1.mv j y q
 ·by_cases z1:i=j
  ·subst z1;rw [Ml hjk] at q2 q4;rw [Mx hl] at q3;cases q3;exact old k zs q2 q4
  ·rw [Ml z1] at q1 q3
   by_cases z2:i=k
   ·subst z2;rw [Mx hl] at q4;cases q4;exact old j ys q1 q3
   ·rw [Ml z2] at q2 q4;exact r.nm j k ys zs q hjk q1 q2 q3 q4
theorem Rep.Bl (r:Rep K B F H σ e) {i:Nat} {p:Addr} (ep:Nat) {us vs:List V} {xs ys:List (D×D)} (h:e[i]?=some (some (.dic xs))) (hp:σ[i]?=some (some (.ref p))) (hd:aj K F (ys.map (·.1)) us) (hd':aj K F (ys.map (·.2)) vs) :
  Rep K B F (upd H p (bM p ep (bc ys us vs))) σ (e.set i (some (.dic ys))):=by
 obtain⟨p',_,_,_,h1,h2,h3,h4,_⟩:=r.mv i xs h;rw [hp] at h1;cases h1;have wl:i < e.length:=(Mi.mp h).1;have fk:∀q o,F q=some o→q≠p:=fun q o z w=>by subst w;rw [h3] at z;cases z
 have bk:∀q o,B.H q=some o→q≠p:=fun q o z w=>by subst w;rw [h4] at z;cases z
 have dicAt:∀(j:Nat) (zs:List (D×D)),(e.set i (some (.dic ys)))[j]?=some (some (.dic zs))→∃ws,e[j]?=some (some (.dic ws)):=fun j zs q=>by
  by_cases z:i=j
  ·subst z;exact⟨xs,h⟩
  ·rw [Ml z] at q;exact⟨zs,q⟩
 refine⟨r.f0,fun b o z=>by rw [aq (fk b o z)];exact r.fh _ _ z,fun b o z=>by rw [aq (bk b o z)];exact r.h0 _ _ z,r.nf,fun j y q=>?_,fun j y q=>?_,fun j k as bs q hjk q1 q2 q3 q4=>?_,fun j y q=>?_,fun j k as bs q hjk q1 q2 q3 q4=>?_⟩
 ·have z:=nj (fun _ w=>by cases w) q;rw [Ml z] at q;exact r.dv j y q
 ·have z:=bb (fun _ w=>by cases w) q;rw [Ml z] at q;obtain⟨p2,us,g1,g2,g3,g4,g5⟩:=r.ov j y q;have:p2≠p:=fun w=>by subst w;rw [h2] at g2;cases g2
  exact⟨p2,us,g1,by rw [aq this];exact g2,g3,g4,g5⟩
 ·have z1:=bb (fun _ w=>by cases w) q1;have z2:=bb (fun _ w=>by cases w) q2;rw [Ml z1] at q1;rw [Ml z2] at q2;exact r.ne j k as bs q hjk q1 q2 q3 q4
 ·by_cases z:i=j
  ·subst z;rw [Mx wl] at q;cases q;exact⟨p,ep,us,vs,hp,au,h3,h4,hd,hd'⟩
  ·rw [Ml z] at q;obtain⟨p2,ep2,as,bs,g1,g2,g3,g4,g5⟩:=r.mv j y q;have:p2≠p:=fun w=>by subst w;exact r.nm j i y xs p2 (Ne.symm z) q h g1 hp
   exact⟨p2,ep2,as,bs,g1,by rw [aq this];exact g2,g3,g4,g5⟩
 ·obtain⟨as',w1⟩:=dicAt j as q1;obtain⟨bs',w2⟩:=dicAt k bs q2;exact r.nm j k as' bs' q hjk w1 w2 q3 q4
def iw (kvs:List (D×D)):Mn→Hp→Addr→Prop:=fun K G a=>∃ep us vs,G a=some (bM a ep (bc kvs us vs))∧aj K G (kvs.map (·.1)) us∧aj K G (kvs.map (·.2)) vs
theorem Rep.A0 (r:Rep K B F H σ e) {i:Nat} {xs:List (D×D)} (h:e[i]?=some (some (.dic xs))):∃F',ao F F'∧Rep K B F' H σ (e.set i (some (.d (.obj (iw xs))))):=by
 obtain⟨p,ep,us,vs,h1,h2,h3,h4,h5,h6⟩:=r.mv i xs h;have wl:i < e.length:=(Mi.mp h).1;have s1:ao F (upd F p (bM p ep (bc xs us vs))):=cu h3;refine⟨upd F p (bM p ep (bc xs us vs)),s1,r.f0.trans s1,fun b o z=>?_,r.h0,fun q hq=>?_,fun j y q=>?_,fun j y q=>?_,fun j k as bs q hjk q1 q2 q3 q4=>?_,fun j y q=>?_,fun j k as bs q hjk q1 q2 q3 q4=>?_⟩
 ·by_cases w:b=p
  ·subst w;rw [au] at z;cases z;exact h2
  ·rw [aq w] at z;exact r.fh _ _ z
 ·have:q≠p:=fun w=>by subst w;exact B.nb _ hq h4
  rw [aq this];exact r.nf q hq
 ·by_cases z:i=j
  ·subst z;rw [Mx wl] at q;cases q;refine⟨_,h1,?_⟩;simp only [Den];exact⟨p,rfl,fun G sG=>⟨ep,us,vs,sG _ _ au,aj.mono (s1.trans sG) _ _ h5,aj.mono (s1.trans sG) _ _ h6⟩⟩
  ·rw [Ml z] at q;obtain⟨v,a,b⟩:=r.dv j y q;exact⟨v,a,Den.mono s1 _ _ b⟩
 ·have z:=bb (fun _ w=>by cases w) q;rw [Ml z] at q;obtain⟨p2,us,g1,g2,g3,g4,g5⟩:=r.ov j y q;have:p2≠p:=fun w=>by subst w;rw [h2] at g2;cases g2
  exact⟨p2,us,g1,g2,by rw [aq this];exact g3,g4,aj.mono s1 _ _ g5⟩
 ·have z1:=bb (fun _ w=>by cases w) q1;have z2:=bb (fun _ w=>by cases w) q2;rw [Ml z1] at q1;rw [Ml z2] at q2;exact r.ne j k as bs q hjk q1 q2 q3 q4
 ·have z:i≠j:=ba (fun _ w=>by cases w) q;rw [Ml z] at q;obtain⟨p2,ep2,as,bs,g1,g2,g3,g4,g5,g6⟩:=r.mv j y q;have:p2≠p:=fun w=>by subst w;exact r.nm j i y xs p2 (Ne.symm z) q h g1 h1
  exact⟨p2,ep2,as,bs,g1,g2,by rw [aq this];exact g3,g4,aj.mono s1 _ _ g5,aj.mono s1 _ _ g6⟩
 ·have z1:=ba (fun _ w=>by cases w) q1;have z2:=ba (fun _ w=>by cases w) q2;rw [Ml z1] at q1;rw [Ml z2] at q2;exact r.nm j k as bs q hjk q1 q2 q3 q4
end
theorem oG {P:Program} {w:World} {H:Hp} (h:Heap) (hb:sysModules < h.objs.size):c6 P w H (h.push { cls:=.type "dict",data:=.dict #[] }) h.objs.size (bM h.objs.size 0 []):=by
 have dh:=bJ.new h;refine⟨⟨Nc _,M7.mpr (Ne.symm (MY hb)),#[],dh,.nil⟩,?_,?_⟩
 ·obtain⟨o,ho,_⟩:=dh;exact⟨o,ho⟩
 ·rintro h1 h2 ⟨z,hs,es,⟨o,ho,c,dd⟩,pr⟩ k;exact⟨z,hs,es,⟨o,k _ ho,c,dd⟩,pr⟩
def HE:TE:=fun _ H Q=>∀p,H p=none→Q (.ref p) (upd H p (bM p 0 []))
def Js (X:Cx) (td ty tv:TE):TS:=fun D σ H=>tv σ H fun v H1=>td σ H1 fun x H2=>ty σ H2 fun y H3=>∃p ep F kvs us vs d z,x=.ref p∧ao F H3∧bg kvs∧aj X.K F (kvs.map (·.1)) us∧aj X.K F (kvs.map (·.2)) vs∧H3 p=some (bM p ep (bc kvs us vs)) ∧
 aX d=true∧dep d≤8∧Den X.K F d y∧Den X.K F z v∧kvs.length < sizeLine∧∀ep' us' vs',aj X.K F ((putN kvs d z).map (·.1)) us'→aj X.K F ((putN kvs d z).map (·.2)) vs'→D.nx σ (upd H3 p (bM p ep' (bc (putN kvs d z) us' vs')))
def Jk (X:Cx) (td ty:TE):TE:=fun σ H Q=>td σ H fun x H1=>ty σ H1 fun y H2=>∃p ep F kvs us vs d z,x=.ref p∧ao F H2∧bg kvs∧aj X.K F (kvs.map (·.1)) us∧aj X.K F (kvs.map (·.2)) vs∧H2 p=some (bM p ep (bc kvs us vs)) ∧
 aX d=true∧dep d≤8∧Den X.K F d y∧dH kvs d=some z∧∀w,Den X.K F z w→Q w H2
section
variable {X:Cx} {o i e value a b:Expr} {pos pos' tpos:Pos} {td ty tv:TE} {ta tb:TD}
theorem rY:PE X (.Dict [] [] pos) HE:=fun pins s σ H Q I h =>
 wpAny_Dict_empty ⟨.ref s.heap.objs.size,_,I.laid (a:=s.heap.objs.size) (o:=bM s.heap.objs.size 0 []) (t':=s.toks) (fun _ _ q=>Mz _ q) (Mv _) (oG s.heap I.big),rfl,h _ (I.hok.fresh (Mv _))⟩
theorem vo (hu:X.A.units + 64 < cLine) (ho:PE X o td) (hi:PE X i ty) (hv:PE X value tv) (hs:swapsWith value (some (.Subscript o i pos')) pos.line X.env=pure false) :
  PS X (.Assign [.Subscript o i pos'] value pos) (Js X td ty tv):=by
 intro pins s σ H D I h;refine wpAny_Assign_Subscript (bU (hv pins s σ H _ I h) fun r s1 ⟨v,H1,I1,rv,q1⟩=>bU (ho pins s1 σ H1 _ I1 q1) fun u s2 ⟨x,H2,I2,rx,q2⟩=>bU (hi pins s2 σ H2 _ I2 q2) fun iv s3 hq=>?_) hs;obtain⟨y,H3,I3,ry,p,ep,F,kvs,us,vs,d,z,ex,fh,ok,d1,d2,e,hk,hd,dd,dz,hl,q3⟩:=hq;subst ex;obtain rfl:u=Value.ref p:=rx;exact GW (by omega) I3 fh ok d1 d2 e hk hd dd ry dz rv hl fun ep' us' vs' s4 e1 e2 I4=>⟨σ,_,I4,q3 ep' us' vs' e1 e2⟩
theorem zM (hu:X.A.units + 64 < cLine) (ho:PE X a td) (hi:PE X b ty) (hs:Er b):PE X (.Subscript a b pos) (Jk X td ty):=by
 intro pins s σ H Q I h;refine E3 PySem.F.slot_dict_getitem.lookup hs (bU (ho pins s σ H _ I h) fun u s1 ⟨x,H1,I1,rx,q1⟩=>bU (hi pins s1 σ H1 _ I1 q1) fun iv s2 hq=>?_);obtain⟨y,H2,I2,ry,p,ep,F,kvs,us,vs,d,z,ex,fh,ok,d1,d2,e,hk,hd,dd,hz,q2⟩:=hq;subst ex;obtain rfl:u=Value.ref p:=rx;refine⟨?_,CF (by omega) I2 fh ok d1 d2 e hk hd dd ry hz fun w' u' s3 I3 dw rw'=>⟨w',H2,I3,rw',q2 w' dw⟩⟩;obtain⟨_,_,es,dh,_⟩:=gS I2 e
 exact dh.typeIs
def kH (i:Nat):bS:=fun D env=>D.nx (env.set i (some (.dic [])))
theorem uf {x:Str} {pd:Pos} (i:Nat) (hN:X.N.Nodup) (hi:X.N[i]?=some x:=by rfl) (hx:Loc X.env.scope x:=by first | exact Or.inl rfl | exact Or.inr rfl) (hs:swapsWith (.Dict [] [] pd) (some (.Name x pos')) pos.line X.env=pure false:=by rfl)
  (hf:X.fn x=true∨X.env.scope.names.lookup x=some .local:=by first | exact .inl rfl | exact .inr rfl):QS X (.Assign [.Name x pos'] (.Dict [] [] pd) pos) (kH i):=by
 refine⟨fun B σ F H env D rp h pins s I=>?_⟩;refine nU (i:=i) hN hi hx rY hs hf pins s σ H _ I fun p hp=>?_;exact⟨F,_,rp.Hn hp (by rw [I.len];exact (Mi.mp hi).1),h⟩
def aZ (i:Nat) (tk tv:TD):bS:=fun Z env=>tv env fun v=>∃kvs,env[i]?=some (some (.dic kvs))∧tk env fun k=>aX k=true∧dep k≤8∧bg kvs∧kvs.length < sizeLine∧Z.nx (env.set i (some (.dic (putN kvs k v))))
theorem cF {x:Str} {px p2:Pos} (i:Nat) (hu:X.A.units + 64 < cLine) (hb:QE X b tb) (he:QE X e ta) (hN:X.N[i]?=some x:=by rfl) (hv:qJ X.env.scope x:=by first | exact Or.inl rfl | exact Or.inr (Or.inl rfl) | exact Or.inr (Or.inr rfl)) (hd:(x == ("__debug__" : Str))=false:=by decide)
  (hcd:(x == ("__classdict__" : Str))=false:=by decide) (hs:swapsWith e (some (.Subscript (.Name x px) b p2)) pos.line X.env=pure false:=by rfl):QS X (.Assign [.Subscript (.Name x px) b p2] e pos) (aZ i tb ta):=by
 refine⟨fun B σ F H env Z rp h=>?_⟩;refine dD (vo hu (cv hN hv hd hcd) bH bH hs) ?_;refine aA (he B σ F H env _ rp h) fun y H1 hq0=>?_;obtain⟨F1,d,r1,s1,d1,kvs,hx,q1⟩:=hq0;obtain⟨p,ep,us,vs,g1,g2,g3,g4,g5,g6⟩:=r1.mv i kvs hx;refine⟨.ref p,g1,?_⟩;refine aA (hb B σ F1 H1 env _ r1 q1) fun z H2 hq0=>?_;obtain⟨F2,d2,r2,s2,dd2,hk,hdp,ok,hl,q2⟩:=hq0;obtain⟨p',ep',us',vs',e1,e2,e3,e4,e5,e6⟩:=r2.mv i kvs hx
 rw [g1] at e1;cases e1;exact⟨p,ep',F2,kvs,us',vs',d2,d,rfl,r2.fh,ok,e5,e6,e2,hk,hdp,dd2,Den.mono s2 _ _ d1,hl,fun ep2 as bs f1 f2=>⟨F2,_,r2.Bl ep2 hx g1 f1 f2,q2⟩⟩
def mN (i:Nat) (tk:TD):TD:=fun env Q=>∃kvs,env[i]?=some (some (.dic kvs))∧tk env fun k=>∃v,aX k=true∧dep k≤8∧bg kvs∧dH kvs k=some v∧Q v
theorem DA {x:Str} {px:Pos} (i:Nat) (hu:X.A.units + 64 < cLine) (hb:QE X b tb) (hs:Er b) (hN:X.N[i]?=some x:=by rfl) (hv:qJ X.env.scope x:=by first | exact Or.inl rfl | exact Or.inr (Or.inl rfl) | exact Or.inr (Or.inr rfl)) (hd:(x == ("__debug__" : Str))=false:=by decide)
  (hcd:(x == ("__classdict__" : Str))=false:=by decide):QE X (.Subscript (.Name x px) b pos) (mN i tb):=by
 refine⟨fun B σ F H env Q rp h=>?_⟩;refine b8 (zM hu (cv hN hv hd hcd) bH hs) ?_;obtain⟨kvs,hx,h⟩:=h;obtain⟨p,ep,us,vs,g1,g2,g3,g4,g5,g6⟩:=rp.mv i kvs hx;refine⟨.ref p,g1,?_⟩;refine aA (hb B σ F H env _ rp h) fun z H2 hq0=>?_;obtain⟨F2,d2,r2,s2,dd2,v,hk,hdp,ok,hl,q2⟩:=hq0;obtain⟨p',ep',us',vs',e1,e2,e3,e4,e5,e6⟩:=r2.mv i kvs hx;rw [g1] at e1;cases e1;exact⟨p,ep',F2,kvs,us',vs',d2,v,rfl,r2.fh,ok,e5,e6,e2,hk,hdp,dd2,hl,fun w dw=>⟨F2,v,r2,s2,dw,q2⟩⟩
def FQ (x y:D) (Q:D→Prop):Prop:=∃kvs v,x=.obj (iw kvs)∧aX y=true∧dep y≤8∧bg kvs∧dH kvs y=some v∧Q v
theorem qM (hu:X.A.units + 64 < cLine) (ha:QE X a ta) (hb:QE X b tb) (hs:Er b):QE X (.Subscript a b pos) (aG FQ ta tb):=by
 refine⟨fun B σ F H env Q rp h=>b8 (zM hu bH bH hs) ?_⟩;refine aA (ha B σ F H env _ rp h) fun x H1 hq0=>?_;obtain⟨F1,d,r1,s1,d1,q1⟩:=hq0;refine aA (hb B σ F1 H1 env _ r1 q1) fun y H2 hq0=>?_;obtain⟨F2,d',r2,s2,d2,kvs,v,e1,hk,hd,ok,hv,q⟩:=hq0;subst e1;have d1':=Den.mono s2 _ _ d1;simp only [Den] at d1';obtain⟨p,rfl,hp⟩:=d1';obtain⟨ep,us,vs,hg,g1,g2⟩:=hp F2 (ao.refl _);exact⟨p,ep,F2,kvs,us,vs,d',v,rfl,r2.fh,ok,g1,g2,r2.fh _ _ hg,hk,hd,d2,hv,fun w dw=>⟨F2,v,r2,s1.trans s2,dw,q⟩⟩
def dJ (i:Nat) (t:bS):bS:=fun D env=>∃xs,env[i]?=some (some (.dic xs))∧t D (env.set i (some (.d (.obj (iw xs)))))
theorem ma {st:Stmt} {t:bS} (i:Nat) (h:QS X st t):QS X st (dJ i t):=by
 refine⟨fun B σ F H env D rp hq=>?_⟩;obtain⟨xs,hx,q⟩:=hq;obtain⟨F',s',r'⟩:=rp.A0 hx;exact h B σ F' H _ D r' q
end
section
variable {prog:Program} {w:World} {A:Around} {E:Value→Shared→Prop} {s:Shared}
theorem BV {d:Addr} {es:Array DictEntry} {ep:Nat} {Q:Value→Shared→Prop} (hd:(d == sysModules)=false) (x:bJ s.heap d es ep)
  (hQ:Q (.ref s.heap.objs.size) { s with heap:=s.heap.push { cls:=.type "dict_keyiterator",data:=.fields #[.ref d,.int 0 0,.int es.size 0,.int ep 0] } }) :
  wpAny (model prog w) A (pyIter (.ref d)) Q E s:=by
 have hT:s.TypeIs (.ref d) "dict":=x.typeIs
 obtain⟨o,ho,hc,hdat⟩:=x;refine wpAny_pyIter_slot hT PySem.F.slot_dict_iter (wpAny_call_entry PySem.F.slot_dict_iter hT PySem.F.entry_dict_iter ?_ (PySem.F.args_dict_iter_1 _));unfold Builtin.«dict.__iter__»;refine Mj ?_;unfold Builtin.Dict.dictSlotNone;refine Mj (wpAny_notOrdered_dict hT ?_);show wpAny _ _ (pure (Value.ref d)) _ _ s
 refine Mp ?_;show wpAny _ _ (Builtin.Dict.showsAll d >>= _) _ _ s
 unfold Builtin.Dict.showsAll;rw [Mo (by rw [hd];exact Bool.false_ne_true)];refine Mj (Mp ?_);refine Mj (wpAny_dictEntries ho hdat ?_);refine Mj (wpAny_dictEpoch ho hdat ?_);refine Mj (wpAny_newObj_type (Mp ⟨_,rfl,"dict_keyiterator",_,⟨_,MM _ rfl,rfl⟩,PySem.F.slot_dict_keyiterator_next.lookup,?_⟩))
 simpa [rawInt] using hQ
theorem DM {it d:Addr} {i ep:Nat} {es:Array DictEntry} {Q:Option Value→Shared→Prop} (hit:s.heap.IsKeyIter it d i es.size ep) (x:bJ s.heap d es ep) (hlt':i < es.size)
  (hQ:∀h',h'.IsKeyIter it d (i + 1) es.size ep→Heap.SameBut it s.heap h'→Q (some es[i].key) { s with heap:=h' }) :
  wpAny (model prog w) A (pyNext (.ref it)) Q E s:=by
 obtain⟨o,ho,hc,hd⟩:=id hit;obtain⟨od,hod,hcd,hdd⟩:=id x;unfold pyNext
 refine Mj (wpAny_attempt (Nb (name:=Str.ofString "__next__") hit.typeIs PySem.F.slot_dict_keyiterator_next
  (wpAny_call_entry PySem.F.slot_dict_keyiterator_next hit.typeIs PySem.F.entry_dict_keyiterator_next ?_ (PySem.F.args_dict_keyiterator_next_1 _))))
 refine Mj (Mp ?_);refine Mj ?_;refine Mj ?_
 first | refine Mj (wpAny_typeNameOfWhole_keyiter hit.typeIs (Mp ?_)) | refine Mj (wpAny_typeNameOf_keyiter hit.typeIs (Mp ?_))
 refine Mj (wpAny_fieldsOf ho hd ?_);have hown:Builtin.Dict_items.ownsTuple "dict_keyiterator" = false:=by decide
 simp only [hown,Mr,if_false];show wpAny _ _ (if (Value.ref d == Value.none)=true then _ else _) _ _ s
 rw [Mo (show ¬ ((Value.ref d == Value.none)=true) from Bool.false_ne_true)];refine Mj (Mp ?_);refine Mj (wpAny_dictEntries hod hdd ?_);rw [Mo (by simp)];refine Mj (Mp ?_);refine Mj (wpAny_dictEpoch hod hdd ?_);rw [Mo (by simp)];refine Mp ?_;simp only [show ¬ ((i:Int) < 0) from by omega,if_false,Int.toNat_natCast,Array.getElem?_eq_getElem hlt'];refine Mj ?_
 first | refine Mj (wpAny_typeNameOfWhole_keyiter hit.typeIs (Mp ?_)) | refine Mj (wpAny_typeNameOf_keyiter hit.typeIs (Mp ?_))
 refine Mj (wpAny_isOneOf_keyiter hit.typeIs ?_);show wpAny _ _ (setField (.ref it) 1 (rawInt ((i:Int) + 1)) >>= _) _ _ s
 refine Mj (wpAny_setField ho hd (by simp) ?_)
 have hit':(s.heap.update it (Obj.mapFields (·.setIfInBounds 1 (rawInt ((i:Int) + 1))))).IsKeyIter it d (i + 1) es.size ep :=
  ⟨_,Heap.get?_update_self _ ho (Obj.isFreed_of_fields (Obj.data_mapFields hd _)),(Obj.cls_mapFields ..).trans hc,by rw [Obj.data_mapFields hd];simp [rawInt]⟩
 refine Mj (wpAny_holding ?_);refine Mj (wpAny_isOneOf_keyiter (s:={ s with heap:=s.heap.update it (Obj.mapFields (·.setIfInBounds 1 (rawInt ((i:Int) + 1)))) }) hit'.typeIs ?_);show wpAny _ _ (pure es[i].key) _ _ _
 exact Mp (Mp ⟨_,rfl,Mp (hQ _ hit' (Heap.SameBut.update ..))⟩)
theorem EM {it d:Addr} {i ep:Nat} {es:Array DictEntry} {Q:Option Value→Shared→Prop} (hh:A.handled=none) (hit:s.heap.IsKeyIter it d i es.size ep) (x:bJ s.heap d es ep) (hge:es.size≤i)
  (hQ:∀h',Heap.ExtBut it s.heap h'→Q none { s with heap:=h' }):wpAny (model prog w) A (pyNext (.ref it)) Q E s:=by
 obtain⟨o,ho,hc,hd⟩:=id hit;obtain⟨od,hod,hcd,hdd⟩:=id x;unfold pyNext
 refine Mj (wpAny_attempt (Nb (name:=Str.ofString "__next__") hit.typeIs PySem.F.slot_dict_keyiterator_next
  (wpAny_call_entry PySem.F.slot_dict_keyiterator_next hit.typeIs PySem.F.entry_dict_keyiterator_next ?_ (PySem.F.args_dict_keyiterator_next_1 _))))
 refine Mj (Mp ?_);refine Mj ?_;refine Mj ?_
 first | refine Mj (wpAny_typeNameOfWhole_keyiter hit.typeIs (Mp ?_)) | refine Mj (wpAny_typeNameOf_keyiter hit.typeIs (Mp ?_))
 refine Mj (wpAny_fieldsOf ho hd ?_);have hown:Builtin.Dict_items.ownsTuple "dict_keyiterator" = false:=by decide
 simp only [hown,Mr,if_false];show wpAny _ _ (if (Value.ref d == Value.none)=true then _ else _) _ _ s
 rw [Mo (show ¬ ((Value.ref d == Value.none)=true) from Bool.false_ne_true)];refine Mj (Mp ?_);refine Mj (wpAny_dictEntries hod hdd ?_);rw [Mo (by simp)];refine Mj (Mp ?_);refine Mj (wpAny_dictEpoch hod hdd ?_);rw [Mo (by simp)];refine Mp ?_;simp only [show ¬ ((i:Int) < 0) from by omega,if_false,Int.toNat_natCast,Array.getElem?_eq_none hge];refine Mj ?_
 first | refine Mj (wpAny_typeNameOfWhole_keyiter hit.typeIs (Mp ?_)) | refine Mj (wpAny_typeNameOf_keyiter hit.typeIs (Mp ?_))
 show wpAny _ _ (setField (.ref it) 0 .none >>= _) _ _ s
 refine Mj (wpAny_setField ho hd (by simp) ?_);show wpAny _ _ (newExc (.type "StopIteration") [] >>= _) _ _ _
 refine Mj ?_;simp only [newExc,newTuple];refine Mj (wpAny_newObj_type ?_ (by size_fits));refine Mj (m:=firstArgMember _ _) (wpAny_of_eq (a:=Value.none) (by first | rfl | (simp only [firstArgMember];rfl)) ?_);refine wpAny_newObj_type ?_ (by size_fits);simp only [raiseNew];refine Mj (wpAny_handled ?_);rw [show A.in1.handled=none from hh];refine Mj (Mp (wpAny_throw ?_));refine Mj (wpAny_isInstance (T:="StopIteration") (b:=true) ⟨_,MM _ rfl,rfl⟩ isSubtype_stop ?_)
 exact Mp (hQ _ (((Heap.SameBut.update ..).extBut.push _).push _))
end
def Lc (p:Addr) (ep:Nat) (rows:List (Int×V×V)):It :=
 ⟨fun i H=>H p=some (bM p ep rows)∧i < rows.length,fun i H x H'=>H'=H∧∃row,rows[i]?=some row∧x=row.2.1,fun i H=>H p=some (bM p ep rows)∧rows.length≤i⟩
theorem Cv {P:Program} {w:World} {K:Mn} {tg:Expr} (p it:Addr) (ep:Nat) (rows:List (Int×V×V)):Turn P w K tg (Lc p ep rows) [it] it (fun i h=>h.IsKeyIter it p i rows.length ep) where
 mem:=by simp
 obj:=fun i h st b hb=>by
  have e:b=it:=by simpa using hb
  subst e;obtain⟨o,e,c,d⟩:=st;exact⟨o,e,fun v z=>by rw [d] at z;cases z⟩
 keep:=fun i h h' st k=>let ⟨o,e,c,d⟩:=st;⟨o,k it (by simp) o e,c,d⟩
 item:=by
  intro X hP hw hK hc i pins s σ H E I hf st hg;subst hP hw hK;obtain⟨e,hlt⟩:=hg;obtain⟨hz,hs,es,dh,pr⟩:=gS I e;have lp:rows.length=es.size:=by simpa using Paired.length pr
  have hlt':i < es.size:=by omega
  obtain⟨row,hr,e1,e2,e3⟩:=gU pr (y:=es[i]) (i:=i) (by simp [hlt']);obtain⟨f0,f1,f2,f3,f4,f5⟩:=hf it (by simp);rw [lp] at st;refine DM st dh hlt' fun h' st' sb=>?_;have I1:Inv X pins σ H { s with heap:=h' }:=I.turned (t':=s.toks) (fun b o hb e=>(sb.2 b hb).trans e) f0 f1 f3 f4 f5;obtain⟨o,eo,c,d⟩:=id st';rw [← lp] at st';exact⟨_,rfl,xG (s:={ s with heap:=h' }) eo c d (by decide) ⟨row.2.1,H,I1,e2,⟨rfl,row,hr,rfl⟩,st',fun b hb=>(hf b hb).1⟩⟩
 done:=by
  intro X hP hw hK hc i pins s σ H E I hf st hg;subst hP hw hK;obtain⟨e,hge⟩:=hg;obtain⟨hz,hs,es,dh,pr⟩:=gS I e;have lp:rows.length=es.size:=by simpa using Paired.length pr
  obtain⟨f0,f1,f2,f3,f4,f5⟩:=hf it (by simp);rw [lp] at st;exact EM (I.ok.hd hc) st dh (by omega) fun h' eb=>⟨rfl,I.turned (t':=s.toks) (fun b o hb e=>eb b o hb e) f0 f1 f3 f4 f5⟩
 self:=fun _ _ _ _ _ st h=>wpAny_pyIter_keyiter st h
def K7 (tl:TE):TI:=fun σ H R=>tl σ H fun x H1=>∃p ep rows,x=.ref p∧H1 p=some (bM p ep rows)∧R (Lc p ep rows) H1
section
variable {X:Cx} {tg:Expr}
theorem Dz {l:Expr} {tl:TE} (hl:PE X l tl):PI X tg l (K7 tl):=by
 intro pins s σ H R I h;refine bU (hl pins s σ H _ I h) fun v s1 hq0=>?_;obtain⟨x,H1,I1,r1,q1⟩:=hq0;obtain⟨p,ep,rows,e,hp,q⟩:=q1;subst e;cases r1;obtain⟨hz,hs,es,dh,pr⟩:=gS I1 hp;have lp:rows.length=es.size:=by simpa using Paired.length pr
 refine BV hs dh ?_;refine⟨s1.heap.objs.size,[s1.heap.objs.size],_,_,H1,rfl,I1.kept (t':=s1.toks) fun b o e=>Mz _ e,Cv p _ ep rows,⟨_,MM _ rfl,rfl,by rw [lp];rfl⟩,fun b hb=>?_,q⟩;have e:b=s1.heap.objs.size:=by simpa using hb
 subst e;exact I1.AR (Mv _) (I1.hok.fresh (Mv _))
end
section
variable {K:Mn} {B:Base} {F H:Hp} {σ:St} {e:En}
def og (x:Addr):Mn→Hp→Addr→Prop:=fun _ _ a=>a=x
theorem fZ {i:Nat} {a:Addr} (r:Rep K B F H σ e) (h:e[i]?=some (some (.d (.obj (og a))))):σ[i]?=some (some (.ref a)):=by
 obtain⟨v,h1,h2⟩:=r.dv i _ h;simp only [Den] at h2;obtain⟨b,rfl,h3⟩:=h2;have:b=a:=h3 F (ao.refl _);rw [this] at h1;exact h1
theorem Rep.Ci (r:Rep K B F H σ e) {i:Nat} {kvs:List (D×D)} (h:e[i]?=some (some (.dic kvs))) :
  ∃p ep us vs,σ[i]?=some (some (.ref p))∧H p=some (bM p ep (bc kvs us vs))∧B.H p=none∧aj K F (kvs.map (·.1)) us∧aj K F (kvs.map (·.2)) vs∧Rep K (B.guard p (bM p ep (bc kvs us vs))) F H σ (e.set i (some (.d (.obj (og p))))):=by
 obtain⟨p,ep,us,vs,h1,h2,h3,h4,h5,h6⟩:=r.mv i kvs h;have wl:i < e.length:=(Mi.mp h).1;refine⟨p,ep,us,vs,h1,h2,h4,h5,h6,r.f0,r.fh,fun b u q=>?_,fun a q=>?_,fun j y q=>?_,fun j y q=>?_,fun j k as bs q hjk q1 q2 q3 q4=>?_,fun j y q=>?_,fun j k as bs q hjk q1 q2 q3 q4=>?_⟩
 ·have q':upd B.H p (bM p ep (bc kvs us vs)) b=some u:=q
  by_cases z:b=p
  ·subst z;rw [au] at q';cases q';exact h2
  ·rw [aq z] at q';exact r.h0 _ _ q'
 ·rcases q with rfl | q
  ·exact h3
  ·exact r.nf a q
 ·by_cases z:i=j
  ·subst z;rw [Mx wl] at q;cases q;refine⟨_,h1,?_⟩;simp only [Den];exact⟨p,rfl,fun _ _=>rfl⟩
  ·rw [Ml z] at q;exact r.dv j y q
 ·have z:=bb (fun _ w=>by cases w) q;rw [Ml z] at q;obtain⟨p2,us2,g1,g2,g3,g4,g5⟩:=r.ov j y q;have:p2≠p:=fun w=>by subst w;rw [h2] at g2;cases g2
  exact⟨p2,us2,g1,g2,g3,by show upd B.H p _ p2=none;rw [aq this];exact g4,g5⟩
 ·have z1:=bb (fun _ w=>by cases w) q1;have z2:=bb (fun _ w=>by cases w) q2;rw [Ml z1] at q1;rw [Ml z2] at q2;exact r.ne j k as bs q hjk q1 q2 q3 q4
 ·have z:i≠j:=ba (fun _ w=>by cases w) q;rw [Ml z] at q;obtain⟨p2,ep2,as,bs,g1,g2,g3,g4,g5,g6⟩:=r.mv j y q;have:p2≠p:=fun w=>by subst w;exact r.nm j i y kvs p2 (Ne.symm z) q h g1 h1
  exact⟨p2,ep2,as,bs,g1,g2,g3,by show upd B.H p _ p2=none;rw [aq this];exact g4,g5,g6⟩
 ·have z1:=ba (fun _ w=>by cases w) q1;have z2:=ba (fun _ w=>by cases w) q2;rw [Ml z1] at q1;rw [Ml z2] at q2;exact r.nm j k as bs q hjk q1 q2 q3 q4
theorem Rep.yF {p:Addr} {ep:Nat} {us vs:List V} {i:Nat} {kvs:List (D×D)} (r:Rep K (B.guard p (bM p ep (bc kvs us vs))) F H σ e) (hb:B.H p=none) (h:e[i]?=some (some (.d (.obj (og p))))) (h5:aj K F (kvs.map (·.1)) us) (h6:aj K F (kvs.map (·.2)) vs) :
  Rep K B F H σ (e.set i (some (.dic kvs))):=by
 have wl:i < e.length:=(Mi.mp h).1;have hs:=fZ r h;obtain⟨r',hp,hf⟩:=r.qg hb
 have oth:∀(j:Nat) (ys:List (D×D)),e[j]?=some (some (.dic ys))→σ[j]?≠some (some (.ref p)):=fun j ys q z=>by
  obtain⟨q1,_,_,_,h1,_,_,h4,_⟩:=r.mv j ys q;rw [z] at h1;cases h1;have h4':upd B.H p (bM p ep (bc kvs us vs)) p=none:=h4;rw [au] at h4';cases h4'
 refine⟨r'.f0,r'.fh,r'.h0,r'.nf,fun j y q=>?_,fun j y q=>?_,fun j k as bs q hjk q1 q2 q3 q4=>?_,fun j y q=>?_,fun j k as bs q hjk q1 q2 q3 q4=>?_⟩
 ·have z:=nj (fun _ w=>by cases w) q;rw [Ml z] at q;exact r'.dv j y q
 ·have z:=bb (fun _ w=>by cases w) q;rw [Ml z] at q;exact r'.ov j y q
 ·have z1:=bb (fun _ w=>by cases w) q1;have z2:=bb (fun _ w=>by cases w) q2;rw [Ml z1] at q1;rw [Ml z2] at q2;exact r'.ne j k as bs q hjk q1 q2 q3 q4
 ·by_cases z:i=j
  ·subst z;rw [Mx wl] at q;cases q;exact⟨p,ep,us,vs,hs,hp,hf,hb,h5,h6⟩
  ·rw [Ml z] at q;exact r'.mv j y q
 ·by_cases z1:i=j
  ·subst z1;rw [Ml hjk] at q2;rw [hs] at q3;cases q3;exact oth k bs q2 q4
  ·rw [Ml z1] at q1
   by_cases z2:i=k
   ·subst z2;rw [hs] at q4;cases q4;exact oth j as q1 q3
   ·rw [Ml z2] at q2;exact r'.nm j k as bs q hjk q1 q2 q3 q4
end
section
variable {X:Cx} {a b:Expr} {ta tb:TD} {pos:Pos} {t:bS}
def qe (i:Nat) (g:nY) (t:bS):bS:=fun Z env=>∃kvs,env[i]?=some (some (.dic kvs))∧∀p,turns g t { Z with nx:=fun e=>e[i]?=some (some (.d (.obj (og p))))∧Z.nx (e.set i (some (.dic kvs))) } (kvs.map (·.1)) (env.set i (some (.d (.obj (og p)))))
theorem A9 {x:Str} {px:Pos} {tg:Expr} {body:List Stmt} {g:nY} (i:Nat) (hp:PassesOwn (model X.prog X.w) X.A X.env X.xe) (hc:X.calm=true) (hg:QG X tg g) (hb:sS X body t) (hN:X.N[i]?=some x:=by rfl) (hv:qJ X.env.scope x:=by first | exact Or.inl rfl | exact Or.inr (Or.inl rfl) | exact Or.inr (Or.inr rfl)) (hd:(x == ("__debug__" : Str))=false:=by decide)
  (hcd:(x == ("__classdict__" : Str))=false:=by decide) (hs:∀z,M3 (.Name x px) X.env z=pure z:=by intro _;rfl):QS X (.For tg (.Name x px) body [] pos) (qe i g t):=by
 refine⟨fun B σ F H env Z rp h=>dD (oe hp hc (Dz (cv hN hv hd hcd)) vf eN hs) ?_⟩;obtain⟨kvs,hx,h⟩:=h;obtain⟨p,ep,us,vs,h1,h2,h4,h5,h6,r0⟩:=rp.Ci hx;refine⟨.ref p,h1,p,ep,bc kvs us vs,rfl,h2,?_⟩;have q1:=h p;generalize hB:B.guard p (bM p ep (bc kvs us vs))=B' at r0;generalize hD:({ Z with nx:=fun e=>e[i]?=some (some (.d (.obj (og p))))∧Z.nx (e.set i (some (.dic kvs))) }:iI)=Z' at q1;have hBp:B'.H p=some (bM p ep (bc kvs us vs)):=by rw [← hB];exact au
 have fnx:∀σ2 H2,(RS X B' Z').nx σ2 H2→ao F F→(∃F' env',Rep X.K B' F' H2 σ2 env'∧ao F F'∧Z'.nx env')→(RS X B Z).nx σ2 H2:=by
  rintro σ2 H2 _ _ ⟨F',env',r',s',q'⟩;rw [← hD] at q';rw [← hB] at r';exact⟨F',_,r'.yF h4 q'.1 (aj.mono s' _ _ h5) (aj.mono s' _ _ h6),q'.2⟩
 have frt:∀v H2,(RS X ⟨F,B'.H,B'.N,B'.nb⟩ Z').rt v H2→(RS X B Z).rt v H2:=by
  rintro v H2 ⟨F',d,r',hd',q'⟩;have r2:=Rep.back (B:=B') r0.f0 r';rw [← hB] at r2;rw [← hD] at q';exact⟨F',d,(r2.qg h4).1,hd',q'⟩
 have fin:∀σ2 H2,(∃F' env',Rep X.K ⟨F,B'.H,B'.N,B'.nb⟩ F' H2 σ2 env'∧Z'.nx env')→(RS X B Z).nx σ2 H2:=by
  rintro σ2 H2 ⟨F',env',r',q'⟩;have r2:=Rep.back (B:=B') r0.f0 r';exact fnx σ2 H2 ⟨F',env',r2,q'⟩ (ao.refl _) ⟨F',env',r2,r'.f0,q'⟩
 have hl:(bc kvs us vs).length=(kvs.map (·.1)).length:=by rw [bX h5 h6,My]
 generalize hxs:kvs.map (·.1)=xs at q1 h5 hl;refine⟨fun i m σ H=>m=xs.length - i∧i≤xs.length∧∃F2 env,Rep X.K ⟨F,B'.H,B'.N,B'.nb⟩ F2 H σ env∧turns g t Z' (xs.drop i) env,⟨xs.length,by simp,Nc _,F,_,r0.now,by simpa using q1⟩,?_⟩
 rintro j m σ2 H2 ⟨rfl,hi2,F2,env2,r2,q2⟩;have hcell:H2 p=some (bM p ep (bc kvs us vs)):=r2.h0 _ _ hBp
 by_cases hlt:j < xs.length
 ·have hxi:xs[j]?=some xs[j]:=by simp [hlt]
  rw [drop_cons hxi] at q2;refine .inr ⟨⟨hcell,by omega⟩,fun σ' H'=>∃F3 env,Rep X.K ⟨F,B'.H,B'.N,B'.nb⟩ F3 H' σ' env∧turns g t Z' (xs.drop (j + 1)) env,fun σ' H' ⟨F',env',r',q'⟩=>⟨xs.length - (j + 1),by omega,rfl,by omega,F',env',r',q'⟩,fun z H' hz=>?_⟩;obtain⟨rfl,row,hr,rfl⟩:=hz;obtain⟨kv,k1,k2,k3,k4⟩:=dX hr;obtain⟨v,hv',dv'⟩:=h5.get hxi;rw [k3] at hv';cases hv';refine fV (hg _ σ2 F2 _ env2 _ _ _ r2 (Den.mono r2.f0 _ _ dv') q2) fun σ3 H3 hq0=>?_
  obtain⟨F3,env3,r3,s3,q3⟩:=hq0;exact d8 (hb _ σ3 F3 H3 env3 _ r3 q3) (fun _ _ q=>q) (fun v H q=>frt v H q) (fun v H q=>fin v H q) (fun _ _ q=>q)
 ·have e:j=xs.length:=by omega
  subst e;rw [Ng (Mv _)] at q2;exact .inl ⟨⟨hcell,by omega⟩,fin _ _ ⟨F2,env2,r2,q2⟩⟩
def DZ (neg:Bool) (y x:D) (Q:D→Prop):Prop:=∃kvs,x=.obj (iw kvs)∧aX y=true∧dep y≤8∧bg kvs∧Q (.bl (if neg then !(kvs.any fun kv=>aY kv.1 y) else kvs.any fun kv=>aY kv.1 y))
def HU (X:Cx) (neg:Bool):R2:=fun y x H Q=>∃p ep F kvs us vs d,x=.ref p∧ao F H∧bg kvs∧aj X.K F (kvs.map (·.1)) us∧aj X.K F (kvs.map (·.2)) vs∧H p=some (bM p ep (bc kvs us vs)) ∧
 aX d=true∧dep d≤8∧Den X.K F d y∧Q (.bl (if neg then !(kvs.any fun kv=>aY kv.1 d) else kvs.any fun kv=>aY kv.1 d)) H
theorem Ik (hu:X.A.units + 64 < cLine):kY X (compareOp .In) (HU X false):=by
 intro pins s σ H x y v u Q I rx ry h;obtain⟨p,ep,F,kvs,us,vs,d,rfl,fh,ok,d1,d2,e,hk,hd,dd,h⟩:=h;cases ry;show wpAny _ _ ((do return Value.bool (← contains (.ref p) v)):Sem Value) _ _ s
 exact Mj (FY (by omega) I fh ok d1 d2 e hk hd dd rx fun s' I'=>Mp ⟨.bl _,H,I',rfl,h⟩)
theorem uY (hu:X.A.units + 64 < cLine):kY X (compareOp .NotIn) (HU X true):=by
 intro pins s σ H x y v u Q I rx ry h;obtain⟨p,ep,F,kvs,us,vs,d,rfl,fh,ok,d1,d2,e,hk,hd,dd,h⟩:=h;cases ry;show wpAny _ _ ((do return Value.bool (!(← contains (.ref p) v))):Sem Value) _ _ s
 exact Mj (FY (by omega) I fh ok d1 d2 e hk hd dd rx fun s' I'=>Mp ⟨.bl _,H,I',rfl,h⟩)
theorem Dg (neg:Bool):zX X (HU X neg) (DZ neg):=by
 intro B σ F H env Q d d' x y Z rp h1 h2 hz hf;obtain⟨kvs,rfl,hk,hd,ok,q⟩:=hf;simp only [Den] at h2;obtain⟨p,rfl,hp⟩:=h2;obtain⟨ep,us,vs,hg,g1,g2⟩:=hp F (ao.refl _);exact⟨p,ep,F,kvs,us,vs,d,rfl,rp.fh,ok,g1,g2,rp.fh _ _ hg,hk,hd,h1,hz _ H F _ rp (ao.refl _) gQ q⟩
theorem Jg (hu:X.A.units + 64 < cLine) (ha:QE X a ta) (hb:QE X b tb) (hm:behindInMarks .In b=false:=by rfl):QT X (.Compare a [.In] [b] pos) (aL (aG (DZ false) ta tb)):=jO (Ik hu) (Dg false) ha hb hm
theorem Ih (hu:X.A.units + 64 < cLine) (ha:QE X a ta) (hb:QE X b tb) (hm:behindInMarks .NotIn b=false:=by rfl):QT X (.Compare a [.NotIn] [b] pos) (aL (aG (DZ true) ta tb)):=jO (uY hu) (Dg true) ha hb hm
end
theorem bg.nil:bg []:=⟨fun _ h=>absurd h MN,fun i j x y h=>by simp at h⟩
theorem zW {a b:D} (ha:aX a=true) (hb:aX b=true):aY a b=true↔a=b:=⟨fun h=>dP a b ha h hb,fun h=>h▸gH a ha⟩
theorem bg.put {kvs:List (D×D)} {k v:D} (h:bg kvs) (hk:aX k=true) (hd:dep k≤8):bg (putN kvs k v):=by
 unfold putN
 by_cases c:(kvs.any fun kv=>aY kv.1 k)=true
 ·rw [Mw c];refine⟨fun kv m=>?_,fun i j x y hx hy e=>?_⟩
  ·obtain⟨kw,m',rfl⟩:=MT.mp m
   split
   ·exact h.key kw m'
   ·exact h.key kw m'
  ·rw [Ms] at hx hy;obtain⟨x',hx',rfl⟩:=Nh.mp hx;obtain⟨y',hy',rfl⟩:=Nh.mp hy;refine h.dif i j x' y' hx' hy' ?_
   split at e <;> split at e <;> exact e
 ·rw [Mo c];have no:∀(i:Nat) (x:D×D),kvs[i]?=some x→x.1≠k:=fun i x hx e=>c (List.any_eq_true.mpr ⟨x,Mu hx,by rw [e];exact gH k hk⟩);refine⟨fun kv m=>?_,fun i j x y hx hy e=>?_⟩
  ·rcases MR.mp m with m | m
   ·exact h.key kv m
   ·rw [MG] at m;subst m;exact⟨hk,hd⟩
  ·have at_:∀(i:Nat) (x:D×D),(kvs ++ [(k,v)])[i]?=some x→kvs[i]?=some x∨(i=kvs.length∧x.1=k):=fun i x hx=>by
    by_cases l:i < kvs.length
    ·rw [MC l] at hx;exact .inl hx
    ·have:=(Mi.mp hx).1;have e:i=kvs.length:=by simp at this;omega
     subst e;rw [MF (Mv _),Nat.sub_self] at hx;cases hx;exact .inr ⟨rfl,rfl⟩
   rcases at_ i x hx with a | ⟨a,a'⟩ <;> rcases at_ j y hy with b | ⟨b,b'⟩
   ·exact h.dif i j x y a b e
   ·exact absurd (e.trans b') (no i x a)
   ·exact absurd (e.symm.trans a') (no j y b)
   ·omega
theorem nH {kvs:List (D×D)} {k k' v:D} (h:bg kvs) (hk:aX k=true) (hk':aX k'=true):dH (putN kvs k v) k'=if aY k k'=true then some v else dH kvs k':=by
 have find:∀(l:List (D×D)),(∀kv∈l,aX kv.1=true)→dH (l.map (fun kv=>if aY kv.1 k=true then (kv.1,v) else kv)) k'=if aY k k'=true∧(l.any fun kv=>aY kv.1 k)=true then some v else dH l k':=fun l=>by
  induction l with
  | nil=>intro _;simp [dH]
  | cons x r ih =>
   intro hl;have ih':=ih fun kv m=>hl kv (MB _ m);have hx:=hl x (MO ..);unfold dH at ih' ⊢;rw [MP,List.find?_cons,List.find?_cons]
   by_cases c1:aY x.1 k=true
   ·rw [Mw c1];have e:=dP _ _ hx c1 hk
    by_cases c2:aY x.1 k'=true
    ·simp only [c2,Option.map_some];rw [Mw ⟨e▸c2,by rw [List.any_cons,c1];rfl⟩]
    ·have c3:¬ aY k k'=true:=fun q=>c2 (e▸q);simp only [c2];rw [ih',Mo (fun q=>c3 q.1),Mo (fun q=>c3 q.1)]
   ·rw [Mo c1]
    by_cases c2:aY x.1 k'=true
    ·have c3:¬ aY k k'=true:=fun q=>c1 (by
      have e1:=dP _ _ hx c2 hk';have e2:=dP _ _ hk q hk'
      rw [e1,← e2];exact gH k hk)
     simp only [c2,Option.map_some];rw [Mo (fun q=>c3 q.1)]
    ·simp only [c2];rw [ih',List.any_cons];have:aY x.1 k=false:=by simpa using c1
     rw [this,Bool.false_or]
 unfold putN
 by_cases c:(kvs.any fun kv=>aY kv.1 k)=true
 ·rw [Mw c,find kvs fun kv m=>(h.key kv m).1];simp only [c,and_true]
 ·rw [Mo c];unfold dH;rw [List.find?_append]
  by_cases c2:aY k k'=true
  ·rw [Mw c2]
   have none:kvs.find? (fun kv=>aY kv.1 k')=none:=by
    rw [List.find?_eq_none];intro kv m q;refine c (List.any_eq_true.mpr ⟨kv,m,?_⟩);have e1:=dP _ _ (h.key kv m).1 q hk';have e2:=dP _ _ hk c2 hk';rw [e1,← e2];exact gH k hk
   rw [none];simp [c2]
  ·rw [Mo c2]
   cases kvs.find? (fun kv=>aY kv.1 k') with
   | some z=>rfl
   | none=>simp [c2]
theorem B3 {kvs:List (D×D)} {k:D}:(kvs.any fun kv=>aY kv.1 k)=(dH kvs k).isSome:=by
 unfold dH;rw [Option.isSome_map,Bool.eq_iff_iff,List.find?_isSome,List.any_eq_true]
theorem d9 {kvs:List (D×D)} {k v:D}:(putN kvs k v).length≤kvs.length + 1:=by
 unfold putN
 split
 ·simp
 ·simp
section
variable {X:Cx} {a e o:Expr} {ta te to:TD} {pos apos cpos:Pos}
def K4 (X:Cx) (neg:Bool):R2:=fun x y H Q=>∃(F:Hp) (d:D) (ds:List D) (vs:List V) (p:Addr),ao F H∧Den X.K F d x∧y=.ref p∧fU X.K H p vs∧aj X.K F ds vs∧X.A.units + 64 < cLine∧cB ds≤60∧dep d≤60∧Q (.bl (if neg then !ds.any (fun e=>aY e d) else ds.any fun e=>aY e d)) H
theorem FK:kY X (compareOp .NotIn) (K4 X true):=by
 intro pins s σ H x y v u Q I rx ry h;obtain⟨F,d,ds,vs,p,fh,dx,rfl,hq,dl,hu,h1,h2,q⟩:=h;cases ry;obtain⟨its,r,pl,hz⟩:=I.list hq;refine SeqAt.notIn_listAt (kX its ds d) pl.isList (fun w hw=>rS I fh hu h1 h2 dl r dx rx w (by simpa using hw)) ⟨.bl _,H,I,rfl,?_⟩;rw [show its.toArray.any (kX its ds d)=its.any (kX its ds d) by simp,any_map',rM I fh (by omega) dl r,← any_map'];exact q
def ye (neg:Bool) (i:Nat) (ta:TD):TB:=fun env Q=>ta env fun x=>∃xs,env[i]?=some (some (.own xs))∧cB xs≤60∧dep x≤60∧Q (if neg then !xs.any (fun e=>aY e x) else xs.any fun e=>aY e x)
theorem BK {x:Str} {px:Pos} (i:Nat) (hu:X.A.units + 64 < cLine) (ha:QE X a ta) (hN:X.N[i]?=some x:=by rfl) (hv:qJ X.env.scope x:=by first | exact Or.inl rfl | exact Or.inr (Or.inl rfl) | exact Or.inr (Or.inr rfl)) (hd:(x == ("__debug__" : Str))=false:=by decide)
  (hcd:(x == ("__classdict__" : Str))=false:=by decide) (hm:behindInMarks .NotIn (.Name x px)=false:=by rfl):QT X (.Compare a [.NotIn] [.Name x px] pos) (ye true i ta):=by
 refine⟨fun B σ F H env Q rp h=>rh (mC FK bH (cv hN hv hd hcd) hm) ?_⟩;refine aA (ha B σ F H env _ rp h) fun y H1 hq0=>?_;obtain⟨F1,d,r1,s1,d1,xs,hx,l1,l2,q1⟩:=hq0;obtain⟨p,vs,g1,g2,g3,g4,g5⟩:=r1.ov i xs hx;exact⟨.ref p,g1,F1,d,xs,vs,p,r1.fh,d1,rfl,fU.of g2,g5,hu,l1,l2,_,rfl,F1,r1,s1,q1⟩
def r9 (to te:TD):TD:=fun env Q=>to env fun x=>∃ds,x=.lst ds∧cB ds≤60∧te env fun y=>dep y≤60∧∃j:Nat,(ds[j]?.map fun d=>aY d y)=some true∧(∀m,m < j→(ds[m]?.map fun d=>aY d y)=some false)∧Q (.int j)
theorem zl (hu:X.A.units + 64 < cLine) (ho:QE X o to) (he:QE X e te) (m:M1 X o "index" apos e cpos:=by exact⟨rfl,rfl,rfl,rfl⟩):QE X (.Call (.Attribute o "index" apos) [e] [] cpos) (r9 to te):=by
 refine⟨fun B σ F H env Q rp h pins s I=>?_⟩;refine wpAny_Call_method m.base m.few m.line PySem.F.plainAttrs_list PySem.F.slot_list_index PySem.F.type_list_index (bU (ho B σ F H env _ rp h pins s I) fun u s1 hq0=>?_);obtain⟨x,H1,I1,rx,F1,d,r1,z1,d1,ds,e1,hds,q1⟩:=hq0;subst e1;simp only [Den] at d1;obtain⟨p,vs,rfl,hq,dl⟩:=d1;cases rx;obtain⟨its0,_,⟨o0,n0,g0,c0,nd0,_⟩,_⟩:=I1.list (r1.fh.seq hq);refine⟨⟨o0,g0,c0⟩,fun b eb=>by cases eb;exact⟨o0,g0,nd0⟩,?_⟩
 rw [m.trees];refine Calls.callWith_builtin rfl (Calls.evalArgs_plain (Calls.spliced_cons (bU (he B σ F1 H1 env _ r1 q1 pins s1 I1) fun iv s2 ⟨y,H2,I2,ry,F2,d',r2,z2,d2,hy,j,hj,hno,q2⟩=>Calls.spliced_nil ?_)));have hq2:=z2.seq hq;have dl2:=aj.mono z2 _ _ dl;obtain⟨its,rv,⟨⟨oc,od,odt,osl⟩,n,g,c,nd,dd⟩,hz⟩:=I2.list (r2.fh.seq hq2)
 replace c:oc=.type "list":=c
 replace dd:odt=.seq its.toArray n:=dd
 subst c dd;have l1:=dl2.length;have l2:=rv.length
 have at_:∀(k:Nat) (b:Bool),(ds[k]?.map fun d=>aY d d')=some b→∃hk:k < its.length,kX its ds d' its[k]=b:=fun k b hb=>by
  obtain⟨w,hw,rfl⟩:=Nh.mp hb;have hk:k < its.length:=by have:=(Mi.mp hw).1;omega
  exact⟨hk,qG I2 r2.fh (by omega) dl2 rv hw (Mm hk)⟩
 obtain⟨hjl,hit⟩:=at_ j true hj
 have hsz:(j:Int) < 2 ^ 63 - 1:=by
  have:j < sizeLine:=by omega
  rw [MK] at this;omega
 refine call_meets PySem.F.slot_list_index ⟨_,g,rfl⟩ PySem.F.entry_list_index (PySem.F.args_list_index_2 _ _) (SeqAt.list_indexAt p its.toArray n od osl iv (kX its ds d') j (by simpa using hjl) hsz (by simpa using hit) (fun k hk hkj=>by
  obtain⟨hkl,z⟩:=at_ k false (hno k hkj)
  simpa using z)) ⟨g,fun w hw=>AF I2 r2.fh _ (by simp only [units_in1];omega) hds hy dl2 rv d2 ry w (by simpa using hw),?_⟩
 exact⟨.int _,H2,I2.tok _,⟨_,rfl⟩,F2,_,r2,z1.trans z2,bE,q2⟩
end
section
variable {X:Cx} {a e:Expr} {es:List Expr} {ta te:TD} {ts:ft} {p pos apos cpos:Pos}
def yY (neg:Bool) (i:Nat) (ta:TD):TB:=fun env Q=>ta env fun x=>∃kvs,env[i]?=some (some (.dic kvs))∧aX x=true∧dep x≤8∧bg kvs∧Q (if neg then !(kvs.any fun kv=>aY kv.1 x) else kvs.any fun kv=>aY kv.1 x)
theorem Cn {x:Str} {px:Pos} (i:Nat) (hu:X.A.units + 64 < cLine) (ha:QE X a ta) (hN:X.N[i]?=some x:=by rfl) (hv:qJ X.env.scope x:=by first | exact Or.inl rfl | exact Or.inr (Or.inl rfl) | exact Or.inr (Or.inr rfl)) (hd:(x == ("__debug__" : Str))=false:=by decide)
  (hcd:(x == ("__classdict__" : Str))=false:=by decide) (hm:behindInMarks .NotIn (.Name x px)=false:=by rfl):QT X (.Compare a [.NotIn] [.Name x px] pos) (yY true i ta):=by
 refine⟨fun B σ F H env Q rp h=>rh (mC (uY hu) bH (cv hN hv hd hcd) hm) ?_⟩;refine aA (ha B σ F H env _ rp h) fun y H1 hq0=>?_;obtain⟨F1,d,r1,s1,d1,kvs,hx,l1,l2,ok,q1⟩:=hq0;obtain⟨p,ep,us,vs,g1,g2,g3,g4,g5,g6⟩:=r1.mv i kvs hx;exact⟨.ref p,g1,p,ep,F1,kvs,us,vs,d,rfl,r1.fh,ok,g5,g6,g2,l1,l2,d1,_,rfl,F1,r1,s1,q1⟩
end
section
variable {P:Program} {w:World} {K:Mn} {mg:Str→Option Value} {base:Heap}
end
def pM (a:Addr):HO:=.ext fun h=>∃(r:Int) (t:Tok) (n:Nat),h.get? a=some { cls:=.type "list",data:=.seq #[.int r t] n }
def gL:Mn→Hp→Addr→Prop:=fun _ G a=>G a=some (pM a)
theorem zr {P:Program} {w:World} {H:Hp} {h:Heap} {a:Addr} {r:Int} {t:Tok} {n:Nat} (e:h.get? a=some { cls:=.type "list",data:=.seq #[.int r t] n }):c6 P w H h a (pM a):=by
 refine⟨⟨r,t,n,e⟩,⟨_,e⟩,?_⟩
 rintro h1 h2 ⟨r,t,n,e⟩ k;exact⟨r,t,n,k _ e⟩
section
variable {X:Cx} {a b e:Expr} {ta te:TD} {pos:Pos}
theorem DH {H:Hp} {p:Addr} {o:HO} (h:H p=some o):upd H p o=H:=by
 funext b
 by_cases e:b=p
 ·subst e;rw [au,h]
 ·rw [aq e]
def su (i:Nat) (te:TD):bS:=fun Z env=>te env fun x=>∃r:Int,x=.int r∧Z.nx (env.set i (some (.d (.obj gL))))
theorem yA {x:Str} {pos' pl:Pos} (i:Nat) (hN:X.N.Nodup) (he:QE X e te) (hi:X.N[i]?=some x:=by rfl) (hx:Loc X.env.scope x:=by first | exact Or.inl rfl | exact Or.inr rfl) (hs:swapsWith (.List [e] pl) (some (.Name x pos')) pos.line X.env=pure false:=by rfl)
  (hf:X.fn x=true∨X.env.scope.names.lookup x=some .local:=by first | exact .inl rfl | exact .inr rfl) (hst:starEach [e] X.env=(false,eval e X.env) :: starEach [] X.env:=by exact bq rfl):QS X (.Assign [.Name x pos'] (.List [e] pl) pos) (su i te):=by
 refine⟨fun B σ F H env Z rp h pins s I=>?_⟩;refine wpAny_Assign_Name ?_ hs;refine wpAny_List_spliced (bU (fT bH ig hst pl pins s σ H (fun vs H1=>∃r,vs=[.int r]∧∃F1,Rep X.K B F1 H1 σ env∧Z.nx (env.set i (some (.d (.obj gL))))) I ?_) fun us s1 ⟨vs,H1,I1,rv,r,ev,F1,r1,q⟩=>?_)
 ·refine aA (he B σ F H env _ rp h) fun v H1 hq0=>?_;obtain⟨F1,d,r1,s1,d1,r,ed,q⟩:=hq0;subst ed;simp only [Den] at d1;subst d1;exact⟨r,rfl,F1,r1,q⟩
 ·subst ev;obtain⟨u,rfl,ru⟩:=rv.one;obtain⟨t,rfl⟩:=ru;refine⟨by show 1≤sizeLine;simp [MK],?_⟩;have hfr:H1 s1.heap.objs.size=none:=I1.hok.fresh (Mv _);have I2:=I1.laid (a:=s1.heap.objs.size) (o:=pM s1.heap.objs.size) (h':=s1.heap.push { cls:=.type "list",data:=.seq [Value.int r t].toArray }) (t':=s1.toks) (fun b u e=>Mz _ e) (Mv _) (zr (r:=r) (t:=t) (n:=0) (MM _ rfl))
  refine mR I2 hN hi hx (v:=.ref s1.heap.objs.size) rfl (fun s2 I3=>⟨_,_,I3,?_⟩) hf;obtain⟨r2,s2'⟩:=r1.laid (o:=pM s1.heap.objs.size) hfr;refine⟨_,_,r2.set (i:=i) (x:=.obj gL) ?_ ?_,q⟩
  ·simp only [Den];exact⟨_,rfl,fun G sG=>sG _ _ au⟩
  ·rw [I.len];exact (Mi.mp hi).1
def JQ:R2:=fun x y H Q=>∃p,x=.ref p∧y=.int 0∧H p=some (pM p)∧∀r:Int,Q (.int r) H
theorem zH {pins:List (Addr×Obj)} {σ:St} {H:Hp} {s:Shared} {p:Addr} (I:Inv X pins σ H s) (h:H p=some (pM p)):∃(r:Int) (t:Tok) (n:Nat),s.heap.get? p=some { cls:=.type "list",data:=.seq #[.int r t] n }:=(I.hok p _ h).1
theorem Fg:DG X JQ:=by
 intro value slice pins s σ H x y v u Q I rx ry h hs;obtain⟨p,rfl,rfl,hp,q⟩:=h;cases rx;obtain⟨t,rfl⟩:=ry;obtain⟨r,t',n,e⟩:=zH I hp;have fin:EP X pins σ Q (.int r t') s:=⟨.int r,H,I,⟨_,rfl⟩,q r⟩;exact item_listR ⟨_,e,rfl,n,rfl⟩ (by omega) (by simp) (by simp) fin hs
def zj (ta:TD):TD:=fun env Q=>ta env fun x=>x=.obj gL∧∀r:Int,Q (.int r)
theorem DL {p1:Pos} {j1:_} (ha:QE X a ta) (hs:mZ (.Constant (.int 0) j1 p1):=by intro _ _;rfl):QE X (.Subscript a (.Constant (.int 0) j1 p1) pos) (zj ta):=by
 refine⟨fun B σ F H env Q rp h=>b8 (zG Fg bH yP hs) ?_⟩;refine aA (ha B σ F H env _ rp h) fun x H1 hq0=>?_;obtain⟨F1,d,r1,s1,d1,ed,q⟩:=hq0;subst ed;simp only [Den] at d1;obtain⟨p,rfl,hp⟩:=d1;exact⟨p,rfl,rfl,r1.fh _ _ (hp F1 (ao.refl _)),fun r=>⟨F1,_,r1,s1,bE,q r⟩⟩
def Kb:V→V→V→Hp→(Hp→Prop)→Prop:=fun o i v H Q=>∃p r,o=.ref p∧i=.int 0∧v=.int r∧H p=some (pM p)∧Q H
theorem CK:G5 X Kb:=by
 intro pins s σ H o i v ov iv u Q I ro ri rv h;obtain⟨p,r,rfl,rfl,rfl,hp,q⟩:=h;cases ro;obtain⟨t,rfl⟩:=ri;obtain⟨t2,rfl⟩:=rv;obtain⟨r0,t0,n,e⟩:=zH I hp
 have e2:(s.heap.update p (Obj.mapSeq (·.setIfInBounds 0 (.int r t2)))).get? p=some { cls:=.type "list",data:=.seq #[.int r t2] n }:=by
  rw [Heap.get?_update_self _ e (by rfl)];rfl
 have I':Inv X pins σ (upd H p (pM p)) { s with heap:=s.heap.update p (Obj.mapSeq (·.setIfInBounds 0 (.int r t2))),toks:=s.toks } :=
  I.write (x:=p) (e:=p) (by rw [hp];trivial) (.inl rfl) (fun b u hb q=>(Heap.get?_update_other _ _ (Ne.symm hb)).trans q) ⟨_,e2⟩ (zr e2)
 rw [DH hp] at I';exact PySem.W.ki_setAt e (by omega) (by decide) (by simp) ⟨_,I',q⟩
def qY (ta te:TD):bS:=fun Z env=>te env fun y=>∃r:Int,y=.int r∧ta env fun x=>x=.obj gL∧Z.nx env
theorem yk {p1 p2:Pos} {j1:_} (ha:QE X a ta) (he:QE X e te) (hs:swapsWithSole [.Subscript a (.Constant (.int 0) j1 p1) p2] e pos.line X.env=pure false:=by rfl) (hw:swappedStores [.Subscript a (.Constant (.int 0) j1 p1) p2] e X.env=pure none:=by rfl)
  (h1:(assignEach [.Subscript a (.Constant (.int 0) j1 p1) p2] X.env).map (·.2)=[assign (.Subscript a (.Constant (.int 0) j1 p1) p2) X.env]:=by rfl)
  (hg:∀v,assign (.Subscript a (.Constant (.int 0) j1 p1) p2) X.env v=(do
   let ov ← holding [v] (eval a X.env)
   let iv ← holding [v,ov] (eval (.Constant (.int 0) j1 p1) X.env)
   standAt p2
   holding [v,ov,iv] (setItem ov iv v)
   release [v,ov,iv] []):=by intro _;rfl):QS X (.Assign [.Subscript a (.Constant (.int 0) j1 p1) p2] e pos) (qY ta te):=by
 refine⟨fun B σ F H env Z rp h=>?_⟩;refine dD (uN bH (BJ bH yP CK hg) hs hw h1) ?_;refine aA (he B σ F H env _ rp h) fun y H1 hq0=>?_;obtain⟨F1,d,r1,s1,d1,r,ed,q1⟩:=hq0;subst ed;simp only [Den] at d1;subst d1;refine aA (ha B σ F1 H1 env _ r1 q1) fun x H2 hq0=>?_;obtain⟨F2,d2,r2,s2,dd2,ed,q2⟩:=hq0;subst ed;simp only [Den] at dd2;obtain⟨p,rfl,hp⟩:=dd2;exact⟨p,r,rfl,rfl,rfl,r2.fh _ _ (hp F2 (ao.refl _)),F2,env,r2,q2⟩
end
theorem Eh {prog:Program} {w:World} {A:Around} {E:Value→Shared→Prop} {s:Shared} {value slice:Expr} {o i:Value} {T id:String} {Q:Value→Shared→Prop}
  (hT:s.TypeIs o T) (hl:typeLookup (.type T) "__getitem__" = pure (some (.builtin id))) (hs:subscripted slice false o i=operate [o,i] (getItem o i)) (h:wpAny (model prog w) A (getItem o i) Q E s) :
  wpAny (model prog w) A (subscriptTail value slice o i) Q E s:=by
 unfold subscriptTail;refine Mj ?_;rw [getitemInPython_of_ne hT.not_modules];refine Mj (wpAny_specialOf hT hl ?_)
 have fin:wpAny (model prog w) A (subscripted slice false o i) (fun r s₃=>wpAny (model prog w) A (letTemporaryGo value o r >>= fun _=>pure r) Q E s₃) E s:=by
  rw [hs];exact wpAny_operating (Nd h (fun r s₃ h₃=>Mj (wpAny_letTemporaryGo (Mp h₃))) fun _ _ x=>x)
 first
  | exact Mp (Mj fin)
  | exact Mj (Mp (Mj fin))
  | exact Mj fin
section
variable {X:Cx} {a b:Expr} {ta tb:TD} {pos:Pos}
def FP (X:Cx):R2:=fun x y H Q=>∃p ep F kvs us vs d z,x=.ref p∧ao F H∧bg kvs∧aj X.K F (kvs.map (·.1)) us∧aj X.K F (kvs.map (·.2)) vs∧H p=some (bM p ep (bc kvs us vs)) ∧
 aX d=true∧dep d≤8∧Den X.K F d y∧dH kvs d=some z∧∀w,Den X.K F z w→Q w H
theorem Ew (hu:X.A.units + 64 < cLine):DG X (FP X):=by
 intro value slice pins s σ H x y v u Q I rx ry h hs;obtain⟨p,ep,F,kvs,us,vs,d,z,rfl,fh,ok,d1,d2,e,hk,hd,dd,hz,q⟩:=h;cases rx;obtain⟨_,_,es,dh,_⟩:=gS I e;exact Eh dh.typeIs PySem.F.slot_dict_getitem.lookup hs (CF (by omega) I fh ok d1 d2 e hk hd dd ry hz fun w' u' s3 I3 dw rw'=>⟨w',H,I3,rw',q w' dw⟩)
def Gb (x y:D) (Q:D→Prop):Prop:=FQ x y Q∨cX x y Q
theorem IH:zX X (fun x y H Q=>FP X x y H Q∨Lg X.K x y H Q) Gb:=by
 intro B σ F H env Q d d' x y Z rp h1 h2 hz hf;rcases hf with hf | hf
 ·obtain⟨kvs,v,rfl,hk,hd,ok,hv,q⟩:=hf;simp only [Den] at h1;obtain⟨p,rfl,hp⟩:=h1;obtain⟨ep,us,vs,hg,g1,g2⟩:=hp F (ao.refl _);exact .inl ⟨p,ep,F,kvs,us,vs,d',v,rfl,rp.fh,ok,g1,g2,rp.fh _ _ hg,hk,hd,h2,hv,fun w dw=>hz w H F v rp (ao.refl _) dw q⟩
 ·exact .inr (Ge B σ F H env Q d d' x y Z rp h1 h2 hz hf)
theorem uZ (hu:X.A.units + 64 < cLine) (ha:QE X a ta) (hb:QE X b tb) (hs:mZ b):QE X (.Subscript a b pos) (aG Gb ta tb):=⟨fun B σ F H env Q rp h=>b8 (zG ((Ew hu).or BI) bH bH hs) (two IH ha hb rp KJ h)⟩
end
section
variable {X:Cx} {a b:Expr} {ta tb:TD} {p pos:Pos}
theorem Rep.tT {K:Mn} {B:Base} {F H:Hp} {σ:St} {e:En} (r:Rep K B F H σ e) {i:Nat} {p:Addr} (ep:Nat) {kvs:List (D×D)} {us vs:List V} (h:H p=none) (hl:i < σ.length) (hd1:aj K F (kvs.map (·.1)) us) (hd2:aj K F (kvs.map (·.2)) vs) :
  Rep K B F (upd H p (bM p ep (bc kvs us vs))) (σ.set i (some (.ref p))) (e.set i (some (.dic kvs))):=by
 have r1:=r.loose (o:=bM p ep (bc kvs us vs)) h;have hb:B.H p=none:=r.h0.free h
 have old:∀(j:Nat) (ys:List (D×D)),e[j]?=some (some (.dic ys))→σ[j]?≠some (some (.ref p)):=fun j ys q z=>by
  obtain⟨q1,_,_,_,h1,h2,_⟩:=r.mv j ys q;rw [z] at h1;cases h1;rw [h] at h2;cases h2
 refine⟨r1.f0,r1.fh,r1.h0,r1.nf,fun j y q=>?_,fun j y q=>?_,fun j k ys zs q hjk q1 q2 q3 q4=>?_,fun j y q=>?_,fun j k ys zs q hjk q1 q2 q3 q4=>?_⟩
 ·have z:=nj (fun _ w=>by cases w) q;rw [Ml z] at q ⊢;exact r1.dv j y q
 ·have z:=bb (fun _ w=>by cases w) q;rw [Ml z] at q ⊢;exact r1.ov j y q
 ·have z1:=bb (fun _ w=>by cases w) q1;have z2:=bb (fun _ w=>by cases w) q2;rw [Ml z1] at q1 q3;rw [Ml z2] at q2 q4;exact r.ne j k ys zs q hjk q1 q2 q3 q4
 ·by_cases z:i=j
  ·subst z
   by_cases w:i < e.length
   ·rw [Mx w] at q;cases q;exact⟨p,ep,us,vs,Mx hl,au,r.lM h,hb,hd1,hd2⟩
   ·rw [MI (by simpa using w)] at q;cases q
  ·rw [Ml z] at q ⊢;exact r1.mv j y q
 ·by_cases z1:i=j
  ·subst z1;rw [Ml hjk] at q2 q4;rw [Mx hl] at q3;cases q3;exact old k zs q2 q4
  ·rw [Ml z1] at q1 q3
   by_cases z2:i=k
   ·subst z2;rw [Mx hl] at q4;cases q4;exact old j ys q1 q3
   ·rw [Ml z2] at q2 q4;exact r.nm j k ys zs q hjk q1 q2 q3 q4
theorem y2 {d:Addr} (hd:(d == sysModules)=false):MeetsIn X.prog X.w (Builtin.«dict.__len__» ⟨[.ref d],[]⟩) (fun _ R s=>∃es ep,bJ s.heap d es ep∧R (.ok (.ret (.int es.size s.toks))) { s with toks:=s.toks + 1 }):=by
 refine .of_wp fun A R s z=>?_;obtain⟨es,ep,⟨o,g,c,dd⟩,last⟩:=z;show wpAny _ _ (dictSize d >>= _) _ _ s
 unfold dictSize;refine Mj (Mj (wpAny_dictEntries g dd (Mp ?gg)))
 case gg =>
  show wpAny _ _ (Builtin.Dict.pendingCount d >>= _) _ _ s
  refine Mj (wpAny_pendingCount_other hd (wpAny_ret_mkInt ?_));rw [Nat.add_zero];exact last
theorem AU {A:Around} {E:Value→Shared→Prop} {s:Shared} {d:Addr} {es:Array DictEntry} {ep:Nat} {Q:Value→Shared→Prop} (hd:(d == sysModules)=false) (hm:bJ s.heap d es ep) (fit:(es.size:Int) < 2 ^ 63) (last:Q (.int es.size (s.toks + 1)) { s with toks:=s.toks + 1 + 1 }) :
  wpAny (model X.prog X.w) A (call (.builtin "len") [.ref d]) Q E s:=by
 refine Calls.call_function_entry kind_len plain_len entry_len (args_len1 _) ?_;unfold Builtin.«len»;refine Mj (m:=oneArg "len" _) (Mp (Mj (m:=callSpecial? (.ref d) (Str.ofString "__len__")) ?_))
 refine Nb (name:=Str.ofString "__len__") hm.typeIs PySem.F.slot_dict_len ?_
 refine call_meetsIn PySem.F.slot_dict_len hm.typeIs PySem.F.entry_dict_len (PySem.F.args_dict_len_1 _) (y2 hd) ⟨es,ep,hm,?_⟩;show wpAny _ _ _ _ _ { s with toks:=s.toks + 1 }
 refine Mj (wpAny_holding (Mp (Mj (wpAny_letGo ?_))));show wpAny _ _ (if ((es.size:Nat):Int) < 0 then _ else _) _ _ _
 rw [Mo (by omega)];show wpAny _ _ (if ((es.size:Nat):Int)≥2 ^ 63 then _ else _) _ _ _
 rw [Mo (by omega)];exact Mj (wpAny_mkInt (Mp ⟨_,rfl,last⟩))
theorem AY:eQ X (.builtin "len") (fun xs H Q=>∃p ep rows,xs=[V.ref p]∧H p=some (bM p ep rows)∧Q (.int rows.length) H):=by
 intro pins s σ H xs us Q I r h;obtain⟨p,ep,rows,rfl,e,q⟩:=h;obtain⟨u,rfl,rx⟩:=vals1 r;cases rx;obtain⟨hz,hs,es,dh,pr⟩:=gS I e;have l:=Paired.length pr;have l':es.size=rows.length:=by simpa using l.symm
 refine AU hs dh (by rw [l',MK] at *;omega) ?_;rw [l'];exact⟨.int _,H,I.tok _,⟨_,rfl⟩,q⟩
end
def t7:Option Int→Value→Bool
 | some i,v=>Value.isInt i v
 | none,.none=>true
 | none,_=>false
theorem eI {k:Option Int} {v:Value} (h:t7 k v=true):(∃i t,k=some i∧v=.int i t)∨(k=none∧v=.none):=by
 cases k with
 | some i =>
  left
  have h':Value.isInt i v=true:=h
  cases v with
  | int a t =>
   have:a=i:=by simp only [Value.isInt,beq_iff_eq] at h';first | exact h' | exact h'.symm
   subst this;exact⟨a,t,rfl,rfl⟩
  | _=>simp [Value.isInt] at h'
 | none =>
  right
  cases v <;> first | exact⟨rfl,rfl⟩ | (simp [t7] at h)
def HN:Option Int→Int
 | some i=>hashInt i
 | none=>4238894112
theorem AQ {prog:Program} {w:World} {A:Around} {E:Value→Shared→Prop} {s:Shared} {Q:Int→Shared→Prop} (h:Q 4238894112 { s with toks:=s.toks + 1 }):wpAny (model prog w) A (pyHash .none) Q E s:=by
 have hT:s.TypeIs .none "NoneType":=rfl
 unfold PySem.pyHash
 first | unfold pyHashByItsType | skip
 refine Mj (wpAny_cRoomFor_or (.inl rfl) ?_);refine Mj (wpAny_specialOf hT PySem.F.slot_NoneType_hash.lookup ?_);show wpAny _ _ (if (some (Value.builtin "NoneType.__hash__") == some Value.none)=true then _ else _) Q E s
 rw [Mo (by rw [beq_builtin_none];exact Bool.false_ne_true)];refine Mj (wpAny_specialOf hT PySem.F.slot_NoneType_hash.lookup ?_);show wpAny _ _ (callSpecialIfBoundUnlessNone? .none "__hash__" _ >>= _) Q E s
 refine Mj (wpAny_callSpecialIfBoundUnlessNone?_slot hT PySem.F.slot_NoneType_hash (wpAny_call_entry PySem.F.slot_NoneType_hash hT PySem.F.entry_NoneType_hash ?_ (PySem.F.args_NoneType_hash_1 _)));show wpAny _ _ (retInt 4238894112) _ _ _
 refine wpAny_ret_mkInt ?_;exact Mp h
theorem Gp {prog:Program} {w:World} {A:Around} {E:Value→Shared→Prop} {s:Shared} {Q:Bool→Shared→Prop} {u v:Value} (hne:u≠v) (k:SeqAt.RcAt A s u v false) (nf:∀b t,u≠.float b t) (hq:Q false s):wpAny (model prog w) A (eqBool u v) Q E s:=by
 unfold eqBool;refine wpAny_holding ?_;refine wpAny_ite_split (fun hab=>absurd (eq_of_beq hab) hne) (fun _=>?_);cases u <;> cases v <;> first | exact absurd rfl (nf _ _) | exact Mj (k prog w E _ (wpAny_truthy_bool hq))
def optKind (prog:Program) (w:World):KeyKind prog w (Option Int) where
 is:=t7
 hash:=HN
 inj:=fun v a b h1 h2=>by
  rcases eI h1 with ⟨i,t,rfl,e⟩ | ⟨rfl,e⟩ <;> rcases eI h2 with ⟨j,t',rfl,e'⟩ | ⟨rfl,e'⟩
  ·rw [e] at e';cases e';rfl
  ·rw [e] at e';cases e'
  ·rw [e] at e';cases e'
  ·rfl
 byValue:=fun k v h=>by
  rcases eI h with ⟨i,t,rfl,rfl⟩ | ⟨rfl,rfl⟩ <;> rfl
 pyHash:=fun {A E s k v Q} h q=>by
  rcases eI h with ⟨i,t,rfl,rfl⟩ | ⟨rfl,rfl⟩
  ·exact (intKind prog w).pyHash (k:=i) (intKind_is prog w i t) q
  ·exact AQ q
 eqBool:=fun {A E s a b u v Q} h1 h2 q=>by
  rcases eI h1 with ⟨i,t,rfl,rfl⟩ | ⟨rfl,rfl⟩ <;> rcases eI h2 with ⟨j,t',rfl,rfl⟩ | ⟨rfl,rfl⟩
  ·refine (intKind prog w).eqBool (intKind_is prog w i t) (intKind_is prog w j t') ?_;have:decide ((some i:Option Int)=some j)=decide (i=j):=by rw [Bool.eq_iff_iff];simp
   rw [this] at q;exact q
  ·exact Gp (by intro z;cases z) (SeqAt.RcAt.int_none i t) (by intro _ _ z;cases z) (by simpa using q)
  ·exact Gp (by intro z;cases z) (SeqAt.RcAt.none_int j t') (by intro _ _ z;cases z) (by simpa using q)
  ·exact SeqAt.EqAt.same _ prog w E Q (by simpa using q)
 «strs»:=fun k x t v h=>by
  rcases eI h with ⟨i,t',rfl,e⟩ | ⟨rfl,e⟩ <;> cases e
def AB:Option Int→V
 | some i=>.int i
 | none=>.non
def vZ (kvs:List (Option Int×V)):List (Int×V×V):=kvs.map fun kv=>(HN kv.1,AB kv.1,kv.2)
theorem EC {k:Option Int} {u:Value} (r:RelV (AB k) u):t7 k u=true:=by
 cases k with
 | some i=>obtain⟨t,rfl⟩:=r;simp [t7,Value.isInt]
 | none=>cases r;rfl
theorem Fx {k:Option Int} {u:Value} (h:t7 k u=true):RelV (AB k) u:=by
 rcases eI h with ⟨i,t,rfl,rfl⟩ | ⟨rfl,rfl⟩
 ·exact⟨t,rfl⟩
 ·rfl
abbrev KO:List (Option Int×V)→List (Option Int×Value)→Prop:=Paired fun p q=>p.1=q.1∧RelV p.2 q.2
theorem v7 {P:Program} {w:World}:∀{kvs:List (Option Int×V)} {ws:List (Value×Value)},VV (kvs.map fun kv=>(AB kv.1,kv.2)) ws→∃rs,Carries (optKind P w) ws rs∧KO kvs rs
 | [],_,r=>by rw [List.map_nil] at r;cases r;exact⟨[],True.intro,.nil⟩
 | p :: kvs,_,r=>by
  rw [MP] at r
  cases r with
  | @cons a b as bs h t =>
   obtain⟨rs,c,q⟩:=v7 (P:=P) (w:=w) t;obtain⟨b1,b2⟩:=b;exact⟨(p.1,b2) :: rs,⟨EC h.1,rfl,c⟩,.cons ⟨rfl,h.2⟩ q⟩
theorem EF {kvs:List (Option Int×V)} {rs:List (Option Int×Value)} (h:KO kvs rs):rs.map (·.1)=kvs.map (·.1):=by
 unfold KO at h
 induction h with
 | nil=>rfl
 | cons h t ih=>rw [MP,MP,ih,h.1]
theorem tu {P:Program} {w:World} {es:List DictEntry} (hk:∀e∈es,∃k,(optKind P w).is k e.key=true∧e.hash=(optKind P w).hash k):∀{kvs:List (Option Int×V)} {rs:List (Option Int×Value)},KO kvs rs→Pairs (optKind P w) es rs→Paired yl (vZ kvs) es:=by
 intro kvs rs r;unfold KO at r
 induction r generalizing es with
 | nil=>intro p;cases p;exact .nil
 | @cons x y xs ys h t ih =>
  intro p
  cases p with
  | @cons e _ es' _ h1 h2 h3 =>
   obtain⟨k,k1,k2⟩:=hk e MO;have ek:k=y.1:=(optKind P w).inj _ _ _ k1 h1;subst ek;refine .cons ⟨?_,?_,?_⟩ (ih (fun e he=>hk e (MB _ he)) h3)
   ·show e.hash=HN x.1
    rw [h.1];exact k2
   ·show RelV (AB x.1) e.key
    rw [h.1];exact Fx h1
   ·rw [h2];exact h.2
def HS (trs:List (TE×TE)):TE:=fun σ H Q=>∀p,H p=none→ze trs σ (upd H p (bM p 0 [])) fun ps H2=>H2 p=some (bM p 0 [])∧∃kvs:List (Option Int×V),ps=kvs.map (fun kv=>(AB kv.1,kv.2))∧(kvs.map (·.1)).Nodup∧kvs.length≤15∧∀ep,Q (.ref p) (upd H2 p (bM p ep (vZ kvs)))
theorem Dn {X:Cx} {pos:Pos} {keys:List (Option Expr)} {values:List Expr} {trs:List (TE×TE)} (h:KA X pos keys values trs) (hall:keys.all (·.isSome)=true) (hl:keys.length=values.length) (h0:keys≠[])
  (h15:keys.length≤15):PE X (.Dict keys values pos) (HS trs):=by
 intro pins s σ H Q I q;have hn:=I.hok.fresh (Mv s.heap.objs.size);have I1:=I.laid (a:=s.heap.objs.size) (o:=bM s.heap.objs.size 0 []) (h':=s.heap.push { cls:=.type "dict",data:=.dict #[] }) (t':=s.toks) (fun _ _ q=>Mz _ q) (Mv _) (oG s.heap I.big)
 refine wpAny_Dict_walk (knd:=optKind X.prog X.w) hall hl h0 h15 (bU (h pins _ σ _ _ I1 (q _ hn)) fun ws s2 hq0=>?_);obtain⟨ps,H2,I2,rel,e,kvs,ep,nd,lk,q2⟩:=hq0;subst ep;obtain⟨rs,cr,ko⟩:=v7 (P:=X.prog) (w:=X.w) rel;obtain⟨hz,hs,es,⟨o,g,c,dd⟩,pr⟩:=gS I2 e
 have es0:es=#[]:=by
  have:=Paired.length pr;apply Array.eq_empty_of_size_eq_zero
  simpa using this.symm
 subst es0;refine⟨rs,cr,⟨o,#[],0,g,c,dd,fun e he=>by simp at he,.nil,by simp⟩,fun h' dh sb=>?_⟩;have nk:(rs.map (·.1)).Nodup:=by rw [EF ko];exact nd
 rw [merged_nil_of_nodup rs nk] at dh;obtain⟨o2,es2,ep2,g2,c2,dd2,kk2,pp2,_⟩:=dh;have pr2:=tu (fun e he=>kk2 e (by simpa using he)) ko pp2;refine⟨.ref s.heap.objs.size,_,m9 (ob:=bM s.heap.objs.size ep2 (vZ kvs)) I2 (by rw [e];exact True.intro) sb ⟨o2,g2⟩ ⟨⟨by unfold vZ;rw [My,MK];omega,hs,es2,⟨o2,g2,c2,dd2⟩,pr2⟩,⟨o2,g2⟩,?_⟩,rfl,q2 ep2⟩
 rintro h1 h2 ⟨z,hs,es,⟨o,ho,c,dd⟩,pr⟩ k;exact⟨z,hs,es,⟨o,k _ ho,c,dd⟩,pr⟩
section
variable {X:Cx} {a b b' e:Expr} {ta tb tb' te:TD} {p pos:Pos}
def vh (i:Nat) (tk tv tw:TD):bS:=fun Z env=>tk env fun k=>∃n:Int,k=.int n∧tv env fun v=>tw env fun w=>Z.nx (env.set i (some (.dic [(.int n,v),(.non,w)])))
theorem AV {x:Str} {pos' pd pn:Pos} {jn} (i:Nat) (hN:X.N.Nodup) (ha:QE X a ta) (hb:QE X b tb) (hb':QE X b' tb') (hi:X.N[i]?=some x:=by rfl) (hx:Loc X.env.scope x:=by first | exact Or.inl rfl | exact Or.inr rfl)
  (hs:swapsWith (.Dict [some a,some (.Constant .none jn pn)] [b,b'] pd) (some (.Name x pos')) pos.line X.env=pure false:=by rfl)
  (hf:X.fn x=true∨X.env.scope.names.lookup x=some .local:=by first | exact .inl rfl | exact .inr rfl):QS X (.Assign [.Name x pos'] (.Dict [some a,some (.Constant .none jn pn)] [b,b'] pd) pos) (vh i ta tb tb'):=by
 refine⟨fun B σ F H env Z rp h pins s I=>?_⟩;have hl:i < σ.length:=by rw [I.len];exact (Mi.mp hi).1
 refine nU (i:=i) hN hi hx (Dn (xI bH bH (xI Dc bH Ex)) rfl rfl (by simp) (by simp)) hs hf pins s σ H _ I fun p hp=>?_;have hb0:B.H p=none:=rp.h0.free hp;refine aA (ha (B.guard p (bM p 0 [])) σ F (upd H p (bM p 0 [])) env _ (rp.guarded hp) h) fun k H1 hq0=>?_;obtain⟨F1,d1,r1,s1,e1,n,ed,q1⟩:=hq0;subst ed;simp only [Den] at e1;subst e1;refine aA (hb _ σ F1 H1 env _ r1 q1) fun v H2 hq0=>?_;obtain⟨F2,d2,r2,s2,e2,q2⟩:=hq0
 refine aA (hb' _ σ F2 H2 env _ r2 q2) fun w H3 hq0=>?_;obtain⟨F3,d3,r3,s3,e3,q3⟩:=hq0;obtain⟨r4,hp2,hf2⟩:=r3.qg hb0;refine⟨hp2,[(some n,v),(none,w)],rfl,by simp,by simp,fun ep=>?_⟩;have h0:(fun b=>if b=p then none else H3 b) p=none:=Mw rfl
 have ee:upd H3 p (bM p ep (vZ [(some n,v),(none,w)]))=upd (fun b=>if b=p then none else H3 b) p (bM p ep (bc [(D.int n,d2),(D.non,d3)] [V.int n,V.non] [v,w])):=by
  funext b
  by_cases z:b=p
  ·subst z;rw [au,au];rfl
  ·rw [aq z,aq z,Mo z]
 have r5:Rep X.K B F3 (fun b=>if b=p then none else H3 b) σ env:=by
  refine⟨r4.f0,fun b o z=>?_,fun b o z=>?_,r4.nf,r4.dv,fun j xs hj=>?_,r4.ne,fun j xs hj=>?_,r4.nm⟩
  ·have:b≠p:=fun w=>by subst w;rw [hf2] at z;cases z
   rw [Mo this];exact r4.fh _ _ z
  ·have:b≠p:=fun w=>by subst w;rw [hb0] at z;cases z
   rw [Mo this];exact r4.h0 _ _ z
  ·obtain⟨p2,us,g1,g2,g3,g4,g5⟩:=r4.ov j xs hj;have:p2≠p:=fun w=>by subst w;rw [hp2] at g2;cases g2
   exact⟨p2,us,g1,by rw [Mo this];exact g2,g3,g4,g5⟩
  ·obtain⟨p2,ep,us,vs,g1,g2,g3,g4,g5,g6⟩:=r4.mv j xs hj;obtain⟨p3,_,_,_,k1,_,_,k4,_,_⟩:=r3.mv j xs hj;have e3:p3=p2:=by rw [k1] at g1;cases g1;rfl
   subst e3;have:p3≠p:=fun w=>by subst w;rw [show (B.guard p3 (bM p3 0 [])).H p3=some (bM p3 0 []) from au] at k4;cases k4
   exact⟨p3,ep,us,vs,g1,by rw [Mo this];exact g2,g3,g4,g5,g6⟩
 rw [ee];exact⟨F3,_,r5.tT (i:=i) ep h0 hl (aM bE (aM qo aO)) (aM (Den.mono s3 _ _ e2) (aM e3 aO)),q3⟩
theorem Em:L0 X .Add (fun x y H Q=>∃i j,x=.int i∧y=.int j∧Q (.int (i + j)) H):=by
 intro pins s σ H x y v u Q I rx ry h;obtain⟨i,j,rfl,rfl,q⟩:=h;obtain⟨t,rfl⟩:=rx;obtain⟨t',rfl⟩:=ry;exact iadd_int ⟨.int _,H,I.tok _,⟨_,rfl⟩,q⟩
def DC (i:Nat) (te:TD):bS:=fun Z env=>∃x:Int,env[i]?=some (some (.d (.int x)))∧te env fun y=>∃z:Int,y=.int z∧Z.nx (env.set i (some (.d (.int (x + z)))))
theorem EB {x:Str} {pos':Pos} (i:Nat) (nd:X.N.Nodup) (he:QE X e te) (hi:X.N[i]?=some x:=by rfl) (hx:Loc X.env.scope x:=by first | exact Or.inl rfl | exact Or.inr rfl) (hf:X.fn x=true∨X.env.scope.names.lookup x=some .local:=by first | exact .inl rfl | exact .inr rfl) :
  QS X (.AugAssign (.Name x pos') .Add e pos) (DC i te):=by
 refine⟨fun B σ F H env D rp h pins s I=>?_⟩;refine ID (i:=i) nd hi hx bH Em hf pins s σ H _ I ?_;obtain⟨d,hd,h⟩:=h;obtain⟨v,hv,dv⟩:=rp.dv i _ hd;refine⟨v,hv,aA (he B σ F H env _ rp h) fun y H1 ⟨F1,d',r1,s1,d1,z,ez,q1⟩=>?_⟩;subst ez;simp only [Den] at dv d1;subst dv d1;refine⟨_,_,rfl,rfl,F1,_,r1.set bE ?_,q1⟩;rw [I.len];exact (Mi.mp hi).1
end
section
variable {X:Cx} {pins:List (Addr×Obj)} {σ:St} {H F:Hp} {s:Shared} {kvs:List (D×D)} {us vs:List V} {p:Addr} {A:Around} {d x:D} {v w:V} {u r:Value}
theorem Hh (hu:A.units + 9 < cLine) (I:Inv X pins σ H s) (fh:ao F H) (ok:bg kvs) (d1:aj X.K F (kvs.map (·.1)) us) (d2:aj X.K F (kvs.map (·.2)) vs) {ep:Nat} (e:H p=some (bM p ep (bc kvs us vs)))
  (hk:aX d=true) (hd:dep d≤8) (dd:Den X.K F d v) (rv:RelV v u) (dx:Den X.K F x w) (rw':RelV w r) (hl:kvs.length < sizeLine) {E:Value→Shared→Prop} {Q:Unit→Shared→Prop}
  (h:∀ep' us' vs' s',aj X.K F ((putN kvs d x).map (·.1)) us'→aj X.K F ((putN kvs d x).map (·.2)) vs'→Inv X pins σ (upd H p (bM p ep' (bc (putN kvs d x) us' vs'))) s'→Q () s'):wpAny (model X.prog X.w) A (dictSet p u r) Q E s:=by
 obtain⟨hz,hs,es,dh,pr⟩:=gS I e;have lp:=Paired.length pr;have l0:=bX d1 d2;rw [l0] at lp hz;have lp':kvs.length=es.size:=by simpa using lp
 have l1:=d1.length;have l2:=d2.length;simp only [My] at l1 l2
 have ext:∀(ep':Nat) (rows:List (Int×V×V)) (h':Heap) (es':Array DictEntry),rows.length≤sizeLine→bJ h' p es' ep'→Paired yl rows es'.toList→c6 X.prog X.w (upd H p (bM p ep' rows)) h' p (bM p ep' rows):=fun ep' rows h' es' z dh' pr'=>by
  refine⟨⟨z,hs,es',dh',pr'⟩,?_,?_⟩
  ·obtain⟨o,ho,_⟩:=dh';exact⟨o,ho⟩
  ·rintro h1 h2 ⟨z,hs,es,⟨o,ho,c,dd⟩,pr⟩ k;exact⟨z,hs,es,⟨o,k _ ho,c,dd⟩,pr⟩
 have hash:=j4 fh d s A v u I hk (by omega) dd rv;have find:=qt (I.tok (s.toks + Ea d)) fh ok d1 d2 pr hk hd (A:=A) (by omega) dd rv;refine wb hash find dh (by omega) (fun hno h' dh' sb=>?_) fun j hj hm h' dh' sb=>?_
 ·have any:(kvs.any fun kv=>aY kv.1 d)=false:=by
   rw [List.any_eq_false];intro kv hm;obtain⟨j,hj⟩:=MJ hm;have:=hno j (by have:=(Mi.mp hj).1;omega);unfold sR at this;rw [hj] at this
   simpa using this
  have pe:putN kvs d x=kvs ++ [(d,x)]:=by unfold putN;rw [any];rfl
  have q1:aj X.K F ((putN kvs d x).map (·.1)) (us ++ [v]):=by rw [pe,List.map_append];exact d1.append (aM dd aO)
  have q2:aj X.K F ((putN kvs d x).map (·.2)) (vs ++ [w]):=by rw [pe,List.map_append];exact d2.append (aM dx aO)
  refine h _ _ _ _ q1 q2 (m9 I (by rw [e];exact True.intro) sb (let ⟨o,ho,_⟩:=dh';⟨o,ho⟩) (ext _ _ h' _ ?_ dh' ?_))
  ·rw [bX q1 q2,pe];simp;omega
  ·refine iB (by rw [bX q1 q2,pe];simp;omega) fun i row en h1 h2=>?_;obtain⟨kv,k1,k2,k3,k4⟩:=dX h1;rw [pe] at k1;simp only [Array.toList_push] at h2
   by_cases c:i < kvs.length
   ·rw [MC c] at k1;rw [MC (by omega)] at k3 k4;rw [MC (by simp;omega)] at h2;obtain⟨row',g1,g2⟩:=gU pr h2;obtain⟨kv',f1,f2,f3,f4⟩:=dX g1;rw [f1] at k1;cases k1;rw [f3] at k3;rw [f4] at k4;have:row'=row:=Nk (by rw [f2,k2]) (Nk (Mq k3) (Mq k4));rw [← this];exact g2
   ·have hi:i=kvs.length:=by
     have:=(Mi.mp k1).1;simp at this;omega
    rw [hi,MF (Mv _),Nat.sub_self] at k1;rw [show i=us.length by omega,MF (Mv _),Nat.sub_self] at k3;rw [show i=vs.length by omega,MF (Mv _),Nat.sub_self] at k4;rw [show i=es.toList.length by simp;omega,MF (Mv _),Nat.sub_self] at h2;cases k1;cases h2;have a3:v=row.2.1:=Mq k3;have a4:w=row.2.2:=Mq k4;exact⟨k2.symm,by rw [← a3];exact rv,by rw [← a4];exact rw'⟩
 ·obtain⟨kv,a,b,g0,g1,g2,da,db,e1,e2,e3⟩:=vi d1 d2 pr hj;unfold sR at hm;rw [g0] at hm;have any:(kvs.any fun kv=>aY kv.1 d)=true:=List.any_eq_true.mpr ⟨kv,Mu g0,hm⟩;have pe:putN kvs d x=kvs.set j (kv.1,x):=by unfold putN;rw [any,Mw rfl];exact zm ok hk g0 hm
  have q1:aj X.K F ((putN kvs d x).map (·.1)) us:=by rw [pe,pb g0];exact d1
  have q2:aj X.K F ((putN kvs d x).map (·.2)) (vs.set j w):=by rw [pe,pz];exact aj.set dx j d2
  refine h _ _ _ _ q1 q2 (m9 I (by rw [e];exact True.intro) sb (let ⟨o,ho,_⟩:=dh';⟨o,ho⟩) (ext _ _ h' _ ?_ dh' ?_))
  ·rw [bX q1 q2,pe];simp;omega
  ·refine iB (by rw [bX q1 q2,pe];simp;omega) fun i row en h1 h2=>?_;obtain⟨kw,k1,k2,k3,k4⟩:=dX h1;rw [pe] at k1;rw [Nl,Array.getElem?_modify] at h2
   by_cases c:j=i
   ·subst c;rw [Mw rfl,Array.getElem?_eq_getElem hj] at h2;rw [Mx (by omega)] at k1 k4;cases k1;cases h2;rw [g1] at k3;have a3:a=row.2.1:=Mq k3;have a4:w=row.2.2:=Mq k4;exact⟨by rw [k2];exact e1,by rw [← a3];exact e2,by rw [← a4];exact rw'⟩
   ·rw [Mo c,← Nl] at h2;rw [Ml c] at k1 k4;obtain⟨row',f0,f1⟩:=gU pr h2;obtain⟨kv',t1,t2,t3,t4⟩:=dX f0;rw [t1] at k1;cases k1;rw [t3] at k3;rw [t4] at k4;have:row'=row:=Nk (by rw [t2,k2]) (Nk (Mq k3) (Mq k4));rw [← this];exact f1
end
section
variable {prog:Program} {w:World} {A:Around} {R:Result→Shared→Prop} {s:Shared}
theorem sQ {kx vx target iter:Expr} {ifs:List Expr} {scope:Scope} {pos:Pos} {it:Value} {D:Addr} {env:Env} (I:Nat→Shared→Prop)
  (turn:∀n s,I n s→wpAny (model prog w) A (pyNext it) (fun r s₁=>match r with
   | none=>R (.ok .next) s₁
   | some v=>wpAny (model prog w) A (letOwnedTupleGo target it v) (fun _ s₁'=>wpAny (model prog w) A (assign target env v) (fun _ s₂ =>
     wpAny (model prog w) A (forIn ifs true fun c r=>if r=true then do let ok ← isTrue c env (eval c env);pure (ForInStep.yield ok) else pure (ForInStep.yield r)) (fun ok s₃ =>
      if ok=true then wpAny (model prog w) A (eval kx env) (fun kv s₄=>wpAny (model prog w) A (eval vx env) (fun vv s₅ =>
       wpAny (model prog w) A (dictSet D kv vv) (fun _ s₆=>∃m,m < n∧I m s₆) (fun _ _=>False) s₅) (fun _ _=>False) s₄) (fun _ _=>False) s₃
      else ∃m,m < n∧I m s₃) (fun _ _=>False) s₂) (fun _ _=>False) s₁') (fun _ _=>False) s₁) (fun _ _=>False) s)
  (n:Nat) (h:I n s) :
  codeAny (model prog w) A (.compLoop (.DictComp kx vx [⟨target,iter,ifs,0⟩] scope pos) 0 it (.ref D) env) R s:=by
 refine codeAny_loop rfl I (fun n s hI=>?_) n h;show wpAny _ A ((compTurn (.DictComp kx vx [⟨target,iter,ifs,0⟩] scope pos) 0 it (.ref D) env).onRaise (fun x=>do noteFrame x env;theTreesLotGoes x)) _ _ s
 refine wpAny_noted ?_;rw [compTurn_dict];refine Mj (wpAny_standAt (Mj (Nd (turn n s hI) (fun r s₁ h₁=>?_) fun _ _ h'=>h'.elim)))
 cases r with
 | none=>exact Mp h₁
 | some v =>
  refine Mj (Nd h₁ (fun _ s₁' h₁'=>?_) fun _ _ h'=>h'.elim);refine Mj (Nd h₁' (fun _ s₂ h₂=>Mj (Nd h₂ (fun ok s₃ h₃=>?_) fun _ _ h'=>h'.elim)) fun _ _ h'=>h'.elim)
  cases ok with
  | false=>exact Mp ⟨rfl,h₃⟩
  | true =>
   exact Mj (Mj (Nd h₃ (fun kv s₄ h₄=>Mj (wpAny_holding (Nd h₄ (fun vv s₅ h₅=>Mj (wpAny_standAt (wpAny_holding (Nd h₅ (fun _ s₆ h₆=>Mp ⟨rfl,h₆⟩) fun _ _ h'=>h'.elim)))) fun _ _ h'=>h'.elim))) fun _ _ h'=>h'.elim))
end
def HV (X:Cx) (a:Addr) (k v:V) (σ:St) (H:Hp) (Q:Hp→Prop):Prop:=∀(pins:List (Addr×Obj)) (s:Shared) (u r:Value),Inv X pins σ H s→RelV k u→RelV v r →
 wpAny (model X.prog X.w) X.A (dictSet a u r) (fun _ s'=>∃H',Inv X pins σ H' s'∧Q H') (fun _ _=>False) s
def De (X:Cx) (N':List Str) (nt:Nat) (ix:List Nat) (scope:Scope) (kx vx target:Expr) (ifs:List Expr) (wi:TI):TE:=fun σ H Q=>wi σ H fun J H1=>∀(a C:Addr) (s:Shared) (fp:List Addr) (pins:List (Addr×Obj)),H1 a=none →
 ∃W:Nat→Nat→St→Hp→Prop,(∃m,W 0 m (q0 nt ix σ) (upd H1 a (bM a 0 [])))∧∀i m σ' H',W i m σ' H'→(J.stop i H'∧Q (.ref a) H')∨(J.go i H'∧∀x H2,J.yld i H' x H2 →
  wG (aE X N' scope C s (upd H1 a (bM a 0 [])) fp pins) target x σ' H2 fun σ2 H3=>xV (aE X N' scope C s (upd H1 a (bM a 0 [])) fp pins) ifs σ2 H3 fun ok H4=>if ok=true then
   wE (aE X N' scope C s (upd H1 a (bM a 0 [])) fp pins) kx σ2 H4 fun k H5=>wE (aE X N' scope C s (upd H1 a (bM a 0 [])) fp pins) vx σ2 H5 fun v H6=>HV (aE X N' scope C s (upd H1 a (bM a 0 [])) fp pins) a k v σ2 H6 fun H7=>∃m',m' < m∧W (i + 1) m' σ2 H7
   else ∃m',m' < m∧W (i + 1) m' σ2 H4)
section
variable {X:Cx} {N':List Str} {nt:Nat} {ix:List Nat} {scope:Scope}
theorem AS {kx vx target iter:Expr} {ifs:List Expr} {pos:Pos} {pins:List (Addr×Obj)} {σ:St} {s2:Shared} {Q:VK} {R:It→Hp→Prop} {itv:Value} {RR:Value→Addr→Result→Shared→Prop} (hc:X.calm=true) (O:bI X N' nt ix scope)
  (h2:JA X pins σ target R itv s2)
  (hR:∀J H1,R J H1→∀(a C:Addr) (s:Shared) (fp:List Addr) (pins:List (Addr×Obj)),H1 a=none →
   ∃W:Nat→Nat→St→Hp→Prop,(∃m,W 0 m (q0 nt ix σ) (upd H1 a (bM a 0 [])))∧∀i m σ' H',W i m σ' H'→(J.stop i H'∧Q (.ref a) H')∨(J.go i H'∧∀x H2,J.yld i H' x H2 →
    wG (aE X N' scope C s (upd H1 a (bM a 0 [])) fp pins) target x σ' H2 fun σ2 H3=>xV (aE X N' scope C s (upd H1 a (bM a 0 [])) fp pins) ifs σ2 H3 fun ok H4=>if ok=true then
     wE (aE X N' scope C s (upd H1 a (bM a 0 [])) fp pins) kx σ2 H4 fun k H5=>wE (aE X N' scope C s (upd H1 a (bM a 0 [])) fp pins) vx σ2 H5 fun v H6=>HV (aE X N' scope C s (upd H1 a (bM a 0 [])) fp pins) a k v σ2 H6 fun H7=>∃m',m' < m∧W (i + 1) m' σ2 H7
     else ∃m',m' < m∧W (i + 1) m' σ2 H4))
  (hRR:∀(a C:Addr) (H':Hp) (s6:Shared) (m:Str→Option Value),Q (.ref a) H'→s6.heap.Ns C m→H' C=none→C≠X.env.locals→X.s₀.heap.objs.size≤C→(∀x c,X.env.cells.lookup x=some c→c≠C)→(∀p∈X.pn ++ pins,p.1≠C) →
   (∀h',Heap.SameBut C s6.heap h'→Inv X pins σ H' { s6 with heap:=h' })→RR (.ref a) C (.ok .next) s6) :
  wpAny (model X.prog X.w) X.A newDict (fun acc s3=>wpAny (model X.prog X.w) X.A (newFunctionEnv scope X.env.globals (gY scope.names X.env.cells []) [] X.env.qual none .none (some X.env)) (fun cenv s4 =>
   codeAny (model X.prog X.w) X.A (.compStart (.DictComp kx vx [⟨target,iter,ifs,0⟩] scope pos) 0 itv acc { cenv with scope:=relabel scope X.env }) (RR acc cenv.locals) s4) X.xe s3) X.xe s2:=by
 obtain⟨it,fp,tn,J,H2,e,I2,T,st2,f2,hq0⟩:=h2;have hq:=hR J H2 hq0;subst e;have hlt2:∀b∈fp,b < s2.heap.objs.size:=fun b hb=>let ⟨o,e,_⟩:=T.obj _ _ st2 b hb;ML e
 refine wpAny_newObj_type ?_;generalize hs3:({ s2 with heap:=s2.heap.push { cls:=.type "dict",dict:=none,data:=.dict #[] } }:Shared)=s3
 have k3:∀b o,s2.heap.get? b=some o→s3.heap.get? b=some o:=fun b o e=>by rw [← hs3];exact Mz _ e
 have ha:H2 s2.heap.objs.size=none:=I2.hok.fresh (Mv _)
 have I3:Inv X pins σ (upd H2 s2.heap.objs.size (bM s2.heap.objs.size 0 [])) s3:=by
  rw [← hs3];exact I2.laid (t':=s2.toks) (fun b u e=>Mz _ e) (Mv _) (oG s2.heap I2.big)
 have f3:∀b∈fp,mi X pins (upd H2 s2.heap.objs.size (bM s2.heap.objs.size 0 [])) b:=fun b hb=>⟨by rw [aq (MY (hlt2 b hb))];exact (f2 b hb).1,(f2 b hb).2⟩;have st3:tn 0 s3.heap:=T.keep _ _ _ st2 fun b hb o e=>k3 b o e;have hlt3:∀b∈fp,b < s3.heap.objs.size:=fun b hb=>let ⟨o,e,_⟩:=T.obj _ _ st3 b hb;ML e
 refine wpAny_newFunctionEnv O.nocell (by intro y hy;simp at hy) (fun h1 hns hsb=>?_) O.kind;have k4:∀b o,s3.heap.get? b=some o→h1.get? b=some o:=fun b o e=>(hsb.2 b (MY (ML e))).trans (Mz _ e);have I4:=qP (tk:=s3.toks + ([]:List (Str×Value)).length) I3 O f3 hlt3 hns k4;have st4:tn 0 h1:=T.keep _ _ _ st3 fun b hb o e=>k4 b o e;obtain⟨W,⟨m0,w0⟩,turn⟩:=hq s2.heap.objs.size s3.heap.objs.size s3 fp pins ha
 have fr3:∀b∈fp,(upd H2 s2.heap.objs.size (bM s2.heap.objs.size 0 [])) b=none:=fun b hb=>(f3 b hb).1
 have stat:∀{H':Hp},(∀b∈fp,H' b=none)→∀b∈fp,mi (aE X N' scope s3.heap.objs.size s3 (upd H2 s2.heap.objs.size (bM s2.heap.objs.size 0 [])) fp pins) [] H' b:=fun {H'} hn b hb=>by
  refine⟨hn b hb,MY (hlt3 b hb),fun z=>?_,.inl hb,fun x c e=>(f3 b hb).2.2.2.2.1 x c (iN scope.names [] (fun y d w=>by simp at w) x c e),fun p hp=>?_⟩
  ·rcases MA.mp (I3.oH b z) with q | q
   ·exact (f3 b hb).2.1 q
   ·exact (f3 b hb).2.2.1 q
  ·rw [Nf] at hp;exact (f3 b hb).2.2.2.2.2 p hp
 generalize hX:aE X N' scope s3.heap.objs.size s3 (upd H2 s2.heap.objs.size (bM s2.heap.objs.size 0 [])) fp pins=X' at I4 turn stat;have eP:X'.prog=X.prog:=by rw [← hX];rfl
 have eW:X'.w=X.w:=by rw [← hX];rfl
 have eK:X'.K=X.K:=by rw [← hX];rfl
 have eA:X'.A=X.A:=by rw [← hX];rfl
 have eC:X'.calm=true:=by rw [← hX];exact hc
 have eE:X'.env=compEnvC scope (gY scope.names X.env.cells []) s3.heap.objs.size X.env:=by rw [← hX];rfl
 have eX:X'.xe=fun _ _=>False:=by rw [← hX];rfl
 have loop:codeAny (model X.prog X.w) X.A (.compLoop (.DictComp kx vx [⟨target,iter,ifs,0⟩] scope pos) 0 (.ref it) (.ref s2.heap.objs.size) (compEnvC scope (gY scope.names X.env.cells []) s3.heap.objs.size X.env))
   (RR (.ref s2.heap.objs.size) s3.heap.objs.size) { s3 with heap:=h1,toks:=s3.toks + ([]:List (Str×Value)).length }:=by
  refine sQ (fun n s'=>∃i σ' H',Inv X' [] σ' H' s'∧tn i s'.heap∧(∀b∈fp,H' b=none)∧W i n σ' H') ?_ m0 ⟨0,_,_,I4,st4,fr3,w0⟩
  rintro n s5 ⟨i,σ5,H5,I5,st5,fr5,w5⟩;rcases turn i n σ5 H5 w5 with ⟨stop,q⟩ | ⟨go,step⟩
  ·have:=T.done X' eP eW eK eC i [] s5 σ5 H5 (fun _ _=>False) I5 (stat fr5) st5 stop;rw [eA] at this;refine bU this fun r s6 ⟨hr,I6⟩=>?_;subst hr;obtain⟨m,hm,_⟩:=id I6.loc;rw [eE] at hm;have fre:H5 s3.heap.objs.size=none:=by have z:=I6.free;rw [eE] at z;exact z
   refine hRR _ _ H5 s6 m q hm fre (Nat.ne_of_gt I3.lt) I3.sz (fun x c e z=>?_) (fun p hp z=>?_) fun h' hsb'=>?_
   ·obtain⟨v,w⟩:=I3.cell x c e;exact absurd w.lt (by rw [z];exact Nat.lt_irrefl _)
   ·exact absurd (ML (I3.pin p hp).1) (by rw [z];exact Nat.lt_irrefl _)
   ·rw [← hX] at I6;exact wK I3 f3 I6 hsb'
  ·have:=T.item X' eP eW eK eC i [] s5 σ5 H5 (fun _ _=>False) I5 (stat fr5) st5 go;rw [eA] at this;refine bU this fun r s6 ⟨u,hr,h6⟩=>?_;subst hr;refine bU h6 fun _ s7 hq0=>?_;obtain⟨x,H7,I7,r7,y7,st7,fr7⟩:=hq0;have I7':=I7.pinned (stat fr7) (T.obj _ _ st7);have g7:=step x H7 y7 _ s7 u I7' r7;rw [eP,eW,eA,eE,eX] at g7;refine bU g7 fun _ s8 ⟨σ8,H8,I8,q8⟩=>?_;have t8:=q8 _ s8 I8;rw [eP,eW,eA,eE] at t8;refine bU t8 fun ok s9 ⟨H9,I9,q9⟩=>?_
   have back:∀{σz:St} {Hz:Hp} {sz:Shared} {m':Nat},Inv X' ([] ++ oP fp s7.heap) σz Hz sz→m' < n→W (i + 1) m' σz Hz→∃m,m < n∧∃i σ' H',Inv X' [] σ' H' sz∧tn i sz.heap∧(∀b∈fp,H' b=none)∧W i m σ' H':=fun {σz Hz sz m'} Iz hm wz=>by
    refine⟨m',hm,i + 1,σz,Hz,Iz.kf,T.keep _ _ _ st7 fun b hb o e=>(Iz.pin (b,o) (MX _ (MX _ (fN hb e)))).1,fun b hb=>?_,wz⟩;obtain⟨o,e,d⟩:=T.obj _ _ st7 b hb;exact (Iz.pin (b,o) (MX _ (MX _ (fN hb e)))).2.1
   cases ok with
   | false =>
    obtain⟨m',hm,w9⟩:=q9
    exact back I9 hm w9
   | true =>
    have e9:=q9 _ s9 I9;rw [eP,eW,eA,eE,eX] at e9;refine bU e9 fun uk s10 hq0=>?_;obtain⟨k,H10,I10,r10,q10⟩:=hq0;have e10:=q10 _ s10 I10;rw [eP,eW,eA,eE,eX] at e10;refine bU e10 fun uv s11 hq0=>?_;obtain⟨v,H11,I11,r11,q11⟩:=hq0;have e11:=q11 _ s11 uk uv I11 r10 r11;rw [eP,eW,eA] at e11;refine bU e11 fun _ s12 hq0=>?_;obtain⟨H12,I12,m',hm,w12⟩:=hq0;exact back I12 hm w12
 exact codeAny_compStart_dict loop (T.self _ _ _ _ _ st4 loop)
theorem BL {kx vx target iter:Expr} {ifs:List Expr} {pos:Pos} {wi:TI} (hc:X.calm=true) (hi:PI X target iter wi) (O:bI X N' nt ix scope) (hs:∀x,M3 iter X.env x=pure x:=by intro _;rfl) :
  PE X (.DictComp kx vx [⟨target,iter,ifs,0⟩] scope pos) (De X N' nt ix scope kx vx target ifs wi):=by
 intro pins s σ H Q I h;rw [arm_eval_DictComp];refine wpAny_comprehension_free (use:=none) rfl hs (O.Hq I) O.kind O.names ?_;refine bU (hi pins s σ H _ I h) fun v s1 h1=>bU h1 fun itv s2 h2=>?_;refine AS (Q:=Q) (RR:=fun acc C=>compPost (model X.prog X.w) X.A X.xe none (EP X pins σ Q) acc C) hc O h2 (fun J H1 z=>z) ?_;intro a C H' s6 m q hm _ _ _ _ _ hI;exact⟨m,hm,fun h' hsb=>⟨.ref a,H',hI h' hsb,rfl,q⟩⟩
end
def jt (tt:TB) (tk tv:TD) (gv:En) (Q:List (D×D)→Prop):List D→List (D×D)→Prop
 | [],acc=>Q acc
 | x :: xs,acc=>∃a b,x=.tup [a,b]∧tt ((gv.set 0 (some (.d a))).set 1 (some (.d b))) fun ok=>if ok=true then tk ((gv.set 0 (some (.d a))).set 1 (some (.d b))) fun k=>tv ((gv.set 0 (some (.d a))).set 1 (some (.d b))) fun v=>aX k=true∧dep k≤8∧bg acc∧acc.length < sizeLine∧jt tt tk tv gv Q xs (putN acc k v) else jt tt tk tv gv Q xs acc
def RD (X:Cx) (B:Base) (σ:St) (env:En) (F:Hp) (Q:List (D×D)→Prop):VK:=fun v H'=>∃F' H1 p ep us vs kvs,v=.ref p∧H1 p=none∧H'=upd H1 p (bM p ep (bc kvs us vs))∧Rep X.K B F' H1 σ env∧ao F F'∧aj X.K F' (kvs.map (·.1)) us∧aj X.K F' (kvs.map (·.2)) vs∧Q kvs
section
variable {X:Cx} {N':List Str} {ix:List Nat} {scope:Scope} {kx vx iter a b:Expr} {ifs:List Expr} {x y:Str} {px py tp pos:Pos} {c:Nat} {tt:TB} {tk tv ti:TD} {ts:ft}
theorem wB (hc:X.calm=true) (hN:N'.Nodup) (h0:N'[0]?=some x) (h1:N'[1]?=some y) (hx:(relabel scope X.env).names.lookup x=some .local) (hy:(relabel scope X.env).names.lookup y=some .local)
  (ht:∀C s H fp pins,pV (aE X N' scope C s H fp pins) ifs tt) (hk:∀C s H fp pins,QE (aE X N' scope C s H fp pins) kx tk) (hv:∀C s H fp pins,QE (aE X N' scope C s H fp pins) vx tv) (hu:X.A.units + 64 < cLine)
  {B:Base} {σ:St} {F F1 H1:Hp} {env:En} {Q:List (D×D)→Prop} {J:It} {xs:List D} (sF:ao F F1) (r1:Rep X.K B F1 H1 σ env) (S:u5 X.K J F1 xs) (q1:jt tt tk tv (cp 2 ix env) Q xs []) :
  ∀(a C:Addr) (s:Shared) (fp:List Addr) (pins:List (Addr×Obj)),H1 a=none →
   ∃W:Nat→Nat→St→Hp→Prop,(∃m,W 0 m (q0 2 ix σ) (upd H1 a (bM a 0 [])))∧∀i m σ' H',W i m σ' H'→(J.stop i H'∧RD X B σ env F Q (.ref a) H')∨(J.go i H'∧∀z H2,J.yld i H' z H2 →
    wG (aE X N' scope C s (upd H1 a (bM a 0 [])) fp pins) (.Tuple [.Name x px,.Name y py] c tp) z σ' H2 fun σ2 H3=>xV (aE X N' scope C s (upd H1 a (bM a 0 [])) fp pins) ifs σ2 H3 fun ok H4=>if ok=true then
     wE (aE X N' scope C s (upd H1 a (bM a 0 [])) fp pins) kx σ2 H4 fun k H5=>wE (aE X N' scope C s (upd H1 a (bM a 0 [])) fp pins) vx σ2 H5 fun v H6=>HV (aE X N' scope C s (upd H1 a (bM a 0 [])) fp pins) a k v σ2 H6 fun H7=>∃m',m' < m∧W (i + 1) m' σ2 H7
     else ∃m',m' < m∧W (i + 1) m' σ2 H4):=by
 intro a C s fp pins ha;have hF1a:F1 a=none:=r1.lM ha
 refine⟨fun i m σ' H'=>m=xs.length - i∧i≤xs.length∧∃(F':Hp) (acc:List (D×D)) (ep:Nat) (us vs:List V),Rep X.K (Base.here F1 H1) F' H' σ' (cp 2 ix env)∧H' a=some (bM a ep (bc acc us vs))∧F' a=none∧aj X.K F' (acc.map (·.1)) us∧aj X.K F' (acc.map (·.2)) vs∧jt tt tk tv (cp 2 ix env) Q (xs.drop i) acc,
  ⟨xs.length,by simp,Nc _,F1,[],0,[],[],zY r1 ha,au,hF1a,aO,aO,by simpa using q1⟩,?_⟩
 rintro i m σ2 H2 ⟨rfl,hi2,F2,acc,ep,us,vs,r2,hys,hFa,hd,hd2,q2⟩;have sH:ao H1 H2:=r2.h0
 by_cases hlt:i < xs.length
 ·have hxi:xs[i]?=some xs[i]:=by simp [hlt]
  rw [drop_cons hxi] at q2;refine .inr ⟨S.go i F2 H2 r2.f0 r2.fh hlt,fun z H3 hz=>?_⟩;obtain⟨da,db,exy,q2⟩:=q2;obtain⟨G,rG,sG,dz⟩:=S.yld i F2 H2 z H3 xs[i] (Base.here F2 H2) σ2 (cp 2 ix env) r2.f0 (r2.here cQ cR) hxi hz;rw [exy] at dz;have g1:=aH (X:=aE X N' scope C s (upd H1 a (bM a 0 [])) fp pins) (pos:=px) 0 hN h0 (.inl hx) (.inr hx);have g2:=aH (X:=aE X N' scope C s (upd H1 a (bM a 0 [])) fp pins) (pos:=py) 1 hN h1 (.inl hy) (.inr hy)
  have g:=gM (X:=aE X N' scope C s (upd H1 a (bM a 0 [])) fp pins) (pos:=tp) (k:=c) (n:=2) hc (aQ g1 (aQ g2 fq));refine fV (g (Base.here F2 H2) σ2 G H3 (cp 2 ix env) (fun e=>e=((cp 2 ix env).set 0 (some (.d da))).set 1 (some (.d db))) (.tup [da,db]) z rG dz ⟨_,rfl,rfl,_,_,rfl,_,_,rfl,rfl,rfl⟩) fun σ3 H4 hq0=>?_;obtain⟨F4,env4,r4,s4,q4⟩:=hq0;subst q4;intro pins' s' I';refine Nd (ht C s (upd H1 a (bM a 0 [])) fp pins (Base.here F2 H2) σ3 F4 H4 _ _ r4 q2 pins' s' I') (fun ok s5 ⟨H5,I5,F5,r5,s5',q5⟩=>⟨H5,I5,?_⟩) fun _ _ e=>e
  have weak':∀(j:Nat) l,(cp 2 ix env)[j]?=some (some l)→(((cp 2 ix env).set 0 (some (.d da))).set 1 (some (.d db)))[j]?=some (some l):=fun j l hj=>by
   have hj0:j≠0:=fun w=>by
    subst w;simp [cp] at hj
   have hj1:j≠1:=fun w=>by
    subst w;simp [cp] at hj
   rw [Ml (Ne.symm hj1),Ml (Ne.symm hj0)];exact hj
  cases ok with
  | false =>
   have q5':jt tt tk tv (cp 2 ix env) Q (xs.drop (i + 1)) acc:=q5
   refine⟨xs.length - (i + 1),by omega,rfl,by omega,F5,acc,ep,us,vs,r5.there r2.f0 sH (fun p hp=>r2.nf p hp) weak' cQ cR,r5.h0 _ _ hys,r5.nf a ⟨by rw [hys];simp,hFa⟩,aj.mono r5.f0 _ _ hd,aj.mono r5.f0 _ _ hd2,q5'⟩
  | true =>
   have q5':tk (((cp 2 ix env).set 0 (some (.d da))).set 1 (some (.d db))) fun k=>tv (((cp 2 ix env).set 0 (some (.d da))).set 1 (some (.d db))) fun v=>aX k=true∧dep k≤8∧bg acc∧acc.length < sizeLine∧jt tt tk tv (cp 2 ix env) Q (xs.drop (i + 1)) (putN acc k v):=q5;refine aA (hk C s (upd H1 a (bM a 0 [])) fp pins (Base.here F2 H2) σ3 F5 H5 _ _ r5 q5') fun u H6' hq0=>?_;obtain⟨F6',d,r6',s6',d6,q6⟩:=hq0;refine aA (hv C s (upd H1 a (bM a 0 [])) fp pins (Base.here F2 H2) σ3 F6' H6' _ _ r6' q6) fun w H6 hq0=>?_
   obtain⟨F6,d',r6,s7,d7,k1,k2,ok,hl,q7⟩:=hq0;have ha6:H6 a=some (bM a ep (bc acc us vs)):=r6.h0 _ _ hys;have hF6:F6 a=none:=r6.nf a ⟨by rw [hys];simp,hFa⟩;intro pins' s' uu rr I' ru rr';refine Hh (X:=aE X N' scope C s (upd H1 a (bM a 0 [])) fp pins) (show X.A.units + 9 < cLine by omega) I' r6.fh ok (aj.mono r6.f0 _ _ hd) (aj.mono r6.f0 _ _ hd2) ha6 k1 k2 (Den.mono s7 _ _ d6) ru d7 rr' hl fun ep' us' vs' s'' e1 e2 I2=>⟨_,I2,xs.length - (i + 1),by omega,rfl,by omega,F6,putN acc d d',ep',us',vs',?_,au,hF6,e1,e2,q7⟩
   have r7:Rep X.K (Base.here F1 H1) F6 H6 σ3 (cp 2 ix env):=r6.there r2.f0 sH (fun p hp=>r2.nf p hp) weak' cQ cR;refine⟨r7.f0,fun b o hb=>?_,fun b o hb=>?_,r7.nf,r7.dv,fun j zs q=>(cQ j zs q).elim,r7.ne,fun j zs q=>(cR j zs q).elim,r7.nm⟩
   ·have:b≠a:=fun w=>by subst w;rw [hF6] at hb;cases hb
    rw [aq this];exact r7.fh _ _ hb
   ·have:b≠a:=fun w=>by subst w;have hb':H1 b=some o:=hb;rw [ha] at hb';cases hb'
    rw [aq this];exact r7.h0 _ _ hb
 ·have e:i=xs.length:=by omega
  subst e;rw [Ng (Mv _)] at q2;refine .inl ⟨S.stop F2 H2 r2.f0 r2.fh,F2,fun b=>if b=a then none else H2 b,a,ep,us,vs,acc,rfl,Mw rfl,?_,?_,sF.trans r2.f0,hd,hd2,q2⟩
  ·funext b;unfold upd
   by_cases z:b=a
   ·rw [Mw z,z];exact hys
   ·rw [Mo z];show H2 b=if b=a then none else H2 b
    rw [Mo z]
  ·refine r1.ext r2.f0 (fun b o hb=>?_) (fun b o hb=>?_) fun p h1 h2=>r2.nf p ⟨h1,h2⟩
   ·have:b≠a:=fun w=>by subst w;rw [hFa] at hb;cases hb
    show (if b=a then none else H2 b)=_
    rw [Mo this];exact r2.fh _ _ hb
   ·have:b≠a:=fun w=>by subst w;rw [ha] at hb;cases hb
    show (if b=a then none else H2 b)=_
    rw [Mo this];exact sH _ _ hb
def nT (i:Nat) (ix:List Nat) (ts:ft) (tt:TB) (tk tv:TD):bS:=fun Z env=>ts env fun ds=>∃d xs,ds=[d]∧CN d=some xs∧jt tt tk tv (cp 2 ix env) (fun kvs=>Z.nx (env.set i (some (.dic kvs)))) (jI xs) []
theorem wR {n:Str} {p pos2 pn spos:Pos} (i:Nat) (nd:X.N.Nodup) (hu:X.A.units + 64 < cLine) (hc:X.calm=true) (O:bI X N' 2 ix scope) (hN:N'.Nodup) (h0:N'[0]?=some x) (h1:N'[1]?=some y) (hx:(relabel scope X.env).names.lookup x=some .local) (hy:(relabel scope X.env).names.lookup y=some .local) (hgl:Gl X "enumerate") (hm:X.mg "enumerate" = none) (ha:QA X [a] ts)
  (ht:∀C s H fp pins,pV (aE X N' scope C s H fp pins) ifs tt) (hk:∀C s H fp pins,QE (aE X N' scope C s H fp pins) kx tk) (hv:∀C s H fp pins,QE (aE X N' scope C s H fp pins) vx tv)
  (hi:X.N[i]?=some n:=by rfl) (hn:Loc X.env.scope n:=by first | exact Or.inl rfl | exact Or.inr rfl)
  (hsw:swapsWith (.DictComp kx vx [⟨.Tuple [.Name x px,.Name y py] c tp,.Call (.Name "enumerate" p) [a] [] pos2,ifs,0⟩] scope pos) (some (.Name n pn)) spos.line X.env=pure false:=by rfl)
  (hf:X.fn n=true∨X.env.scope.names.lookup n=some .local:=by first | exact .inl rfl | exact .inr rfl) (hst:starEach [a] X.env=[(false,eval a X.env)]:=by rfl)
  (hs:∀x,M3 (.Call (.Name "enumerate" p) [a] [] pos2) X.env x=pure x:=by intro _;rfl) :
  QS X (.Assign [.Name n pn] (.DictComp kx vx [⟨.Tuple [.Name x px,.Name y py] c tp,.Call (.Name "enumerate" p) [a] [] pos2,ifs,0⟩] scope pos) spos) (nT i ix ts tt tk tv):=by
 refine⟨fun B σ F H env Z rp h pins s I=>?_⟩;have hl:i < σ.length:=by rw [I.len];exact (Mi.mp hi).1
 refine nU (i:=i) nd hi hn (BL hc (FT hgl hm iO hst) O hs) hsw hf pins s σ H _ I ?_;unfold IC De;refine CG (P:=fun xs=>jt tt tk tv (cp 2 ix env) (fun kvs=>Z.nx (env.set i (some (.dic kvs)))) xs []) ha rp h ?_;intro J F1 H1 xs r1 s1 S q a C s fp pins hA;obtain⟨W,w0,turn⟩:=wB (px:=px) (py:=py) (tp:=tp) (c:=c) hc hN h0 h1 hx hy ht hk hv hu s1 r1 S q a C s fp pins hA;refine⟨W,w0,fun i' m σ' H' w=>?_⟩;rcases turn i' m σ' H' w with ⟨st,F',H2,p,ep,us,vs,kvs,e1,e2,e3,r3,s3,d1,d2,q3⟩ | t
 ·refine .inl ⟨st,?_⟩;rw [e1,e3];exact⟨F',_,r3.tT (i:=i) ep e2 hl d1 d2,q3⟩
 ·exact .inr t
end
section
variable {P:Program} {w:World} {K:Mn} {mg:Str→Option Value} {base:Heap}
end
abbrev Cells:=List (Addr×HO)
def Base.gs (B:Base):Cells→Base
 | []=>B
 | c :: r=>(B.gs r).guard c.1 c.2
structure GZ (T:Type) where
 lay:T→Hp→Cells→Prop
 ad:List Addr
 nd:ad.Nodup
 at_:∀S F cs,lay S F cs→cs.map (·.1)=ad
 mono:∀S F F' cs,ao F F'→lay S F cs→lay S F' cs
variable {T:Type}
def dR (K:Mn) (B:Base) (h:GZ T) (S:T) (F H:Hp) (σ:St) (env:En):Prop:=∃cs,h.lay S F cs∧Rep K (B.gs cs) F H σ env
def CC (B:Base) (h:GZ T):Prop:=∀p∈h.ad,B.H p=none
structure gq (T:Type) where
 nx:T→En→Prop
 rt:T→D→Prop
 bk:T→En→Prop:=fun _ _=>False
 ct:T→En→Prop:=fun _ _=>False
abbrev oJ (T:Type):=gq T→T→En→Prop
def Jm (X:Cx) (B:Base) (h:GZ T) (D:gq T):Ends where
 nx:=fun σ' H'=>∃S' F' env',dR X.K B h S' F' H' σ' env'∧D.nx S' env'
 rt:=fun v H'=>∃S' F' d,dR X.K B h S' F' H' [] []∧Den X.K F' d v∧D.rt S' d
 bk:=fun σ' H'=>∃S' F' env',dR X.K B h S' F' H' σ' env'∧D.bk S' env'
 ct:=fun σ' H'=>∃S' F' env',dR X.K B h S' F' H' σ' env'∧D.ct S' env'
structure Ec (X:Cx) (h:GZ T) (st:Stmt) (t:oJ T):Prop where
 of ::
 run:∀(B:Base) (σ:St) (F H:Hp) (env:En) (D:gq T) (S:T),CC B h→dR X.K B h S F H σ env→t D S env→wS X st (Jm X B h D) σ H
structure nE (X:Cx) (h:GZ T) (st:List Stmt) (t:oJ T):Prop where
 of ::
 run:∀(B:Base) (σ:St) (F H:Hp) (env:En) (D:gq T) (S:T),CC B h→dR X.K B h S F H σ env→t D S env→wSs X st (Jm X B h D) σ H
section
variable {X:Cx} {h:GZ T} {st:Stmt} {sts xs ys body:List Stmt} {t:bS} {q q':oJ T} {c:Expr} {tc:TB} {pos:Pos}
def gq.at (D:gq T) (S:T):iI:={ nx:=D.nx S,rt:=D.rt S,bk:=D.bk S,ct:=D.ct S }
def vE (t:bS):oJ T:=fun D S env=>t (D.at S) env
theorem dR.lift {K:Mn} {B:Base} {S:T} {F F' H':Hp} {σ':St} {env':En} {cs:Cells} (l:h.lay S F cs) (f0:ao (B.gs cs).F F)
  (r:Rep K ⟨F,(B.gs cs).H,(B.gs cs).N,(B.gs cs).nb⟩ F' H' σ' env'):dR K B h S F' H' σ' env':=⟨cs,h.mono _ _ _ _ r.f0 l,Rep.back (B:=B.gs cs) (G:=F) f0 r⟩
theorem yN (hq:QS X st t):Ec X h st (vE t):=by
 refine⟨fun B σ F H env D S _ ⟨cs,l,r⟩ q=>?_⟩;refine vO (hq _ σ F H env (D.at S) r.now q) ?_ ?_ ?_ ?_
 ·rintro σ' H' ⟨F',env',r',q'⟩;exact⟨S,F',env',dR.lift l r.f0 r',q'⟩
 ·rintro v H' ⟨F',d,r',hd,q'⟩;exact⟨S,F',d,dR.lift l r.f0 r',hd,q'⟩
 ·rintro σ' H' ⟨F',env',r',q'⟩;exact⟨S,F',env',dR.lift l r.f0 r',q'⟩
 ·rintro σ' H' ⟨F',env',r',q'⟩;exact⟨S,F',env',dR.lift l r.f0 r',q'⟩
theorem Kg {t:bS} (hq:sS X sts t):nE X h sts (vE t):=by
 refine⟨fun B σ F H env D S _ ⟨cs,l,r⟩ q=>?_⟩;refine d8 (hq _ σ F H env (D.at S) r.now q) ?_ ?_ ?_ ?_
 ·rintro σ' H' ⟨F',env',r',q'⟩;exact⟨S,F',env',dR.lift l r.f0 r',q'⟩
 ·rintro v H' ⟨F',d,r',hd,q'⟩;exact⟨S,F',d,dR.lift l r.f0 r',hd,q'⟩
 ·rintro σ' H' ⟨F',env',r',q'⟩;exact⟨S,F',env',dR.lift l r.f0 r',q'⟩
 ·rintro σ' H' ⟨F',env',r',q'⟩;exact⟨S,F',env',dR.lift l r.f0 r',q'⟩
def jH (q q':oJ T):oJ T:=fun D S env=>q { D with nx:=fun S' e'=>q' D S' e' } S env
theorem jY (h1:Ec X h st q):nE X h [st] q:=⟨fun B σ F H env D S fit r hq=>oa (Aj Eo) (h1.run B σ F H env D S fit r hq)⟩
theorem gz (h1:Ec X h st q) (h2:nE X h sts q'):nE X h (st :: sts) (jH q q'):=by
 refine⟨fun B σ F H env D S fit r hq=>oa (ny Eo eN) ?_⟩;exact vO (h1.run B σ F H env { D with nx:=fun S' e'=>q' D S' e' } S fit r hq) (fun σ' H' ⟨S',F',env',r',q⟩=>h2.run B σ' F' H' env' D S' fit r' q) (fun _ _ q=>q) (fun _ _ q=>q) (fun _ _ q=>q)
def Lp (c:TB) (q q':oJ T):oJ T:=fun D S env=>c env fun k=>if k=true then q D S env else q' D S env
theorem K9 (hc:QT X c tc) (ha:nE X h xs q) (hb:nE X h ys q'):Ec X h (.If c xs ys pos) (Lp tc q q'):=by
 refine⟨fun B σ F H env D S fit ⟨cs,l,r⟩ hq=>dD (C9 qW eN eN) ?_⟩;refine gC (hc _ σ F H env _ r.now hq) fun k H1 ⟨F1,r1,s1,q1⟩=>?_
 cases k with
 | true=>exact ha.run B σ F1 H1 env D S fit (dR.lift l r.f0 r1) q1
 | false=>exact hb.run B σ F1 H1 env D S fit (dR.lift l r.f0 r1) q1
def yd (c:TB) (q:oJ T):oJ T:=fun D S env=>∃(I:T→En→Prop) (μ:T→En→Nat),I S env∧∀S env,I S env→c env fun k=>if k=true then q { D with nx:=fun S' e'=>I S' e'∧μ S' e' < μ S env,ct:=fun S' e'=>I S' e'∧μ S' e' < μ S env,bk:=D.nx } S env else D.nx S env
theorem EJ (hp:PassesOwn (model X.prog X.w) X.A X.env X.xe) (hc:QT X c tc) (hb:nE X h body q):Ec X h (.While c body [] pos) (yd tc q):=by
 refine⟨fun B σ F H env D S fit r hq=>?_⟩;obtain⟨I,μ,i0,turn⟩:=hq;refine dD (wH hp qW eN) ?_;refine⟨fun m σ H=>∃S F env,dR X.K B h S F H σ env∧I S env∧μ S env=m,⟨_,S,F,env,r,i0,rfl⟩,?_⟩
 rintro m σ1 H1 ⟨S1,F1,env1,⟨cs,l,r1⟩,i1,rfl⟩;refine gC (hc _ σ1 F1 H1 env1 _ r1.now (turn S1 env1 i1)) fun k H2 ⟨F2,r2,s2,q2⟩=>?_;have rl:dR X.K B h S1 F2 H2 σ1 env1:=dR.lift l r1.f0 r2
 cases k with
 | false=>exact⟨S1,F2,env1,rl,q2⟩
 | true =>
  refine⟨fun σ' H'=>∃S' F' env',dR X.K B h S' F' H' σ' env'∧I S' env'∧μ S' env' < μ S1 env1,fun σ' H' ⟨S',F',env',r',i',l⟩=>⟨_,l,S',F',env',r',i',rfl⟩,?_⟩;exact hb.run B σ1 F2 H2 env1 { D with nx:=fun S' e'=>I S' e'∧μ S' e' < μ S1 env1,ct:=fun S' e'=>I S' e'∧μ S' e' < μ S1 env1,bk:=D.nx } S1 fit rl q2
def h9 (g:nY) (tb:oJ T) (Z:gq T):List D→T→En→Prop
 | [],S,env=>Z.nx S env
 | x :: xs,S,env=>g x env fun env'=>tb { Z with nx:=fun S' e'=>h9 g tb Z xs S' e',ct:=fun S' e'=>h9 g tb Z xs S' e',bk:=Z.nx } S env'
variable {a:Expr} {ts:ft} {tg:Expr} {g:nY} {ti:TD}
theorem A3 (hg:QG X tg g) (hb:nE X h body q) {B:Base} {D:gq T} {lo:Int} {n:Nat} {σ:St} {F1 H1:Hp} {env:En} {S:T} (fit:CC B h) (r1:dR X.K B h S F1 H1 σ env) (q1:h9 g q D (aN lo n) S env) :
  ∃W:Nat→Nat→St→Hp→Prop,(∃m,W 0 m σ H1)∧∀i m σ H,W i m σ H→((Du lo n).stop i H∧(Jm X B h D).nx σ H)∨((Du lo n).go i H∧∃N:St→Hp→Prop,(∀σ' H',N σ' H'→∃m',m' < m∧W (i + 1) m' σ' H') ∧
    ∀x H',(Du lo n).yld i H x H'→wG X tg x σ H' fun σ2 H2=>wSs X body { Jm X B h D with nx:=N,ct:=N,bk:=(Jm X B h D).nx } σ2 H2):=by
 have hl:(aN lo n).length=n:=by simp [aN]
 refine⟨fun i m σ H=>m=n - i∧i≤n∧∃S F env,dR X.K B h S F H σ env∧h9 g q D ((aN lo n).drop i) S env,⟨n,by simp,Nc _,S,F1,env,r1,by simpa using q1⟩,?_⟩
 rintro i m σ2 H2 ⟨rfl,hi2,S2,F2,env2,r2,q2⟩
 by_cases hlt:i < n
 ·have hdx:(aN lo n)[i]?=some (L3.D.int (lo + (i:Int))):=by simp [aN,hlt]
  rw [drop_cons hdx] at q2;refine .inr ⟨hlt,fun σ' H'=>∃S F env,dR X.K B h S F H' σ' env∧h9 g q D ((aN lo n).drop (i + 1)) S env,fun σ' H' ⟨S',F',env',r',q'⟩=>⟨n - (i + 1),by omega,rfl,by omega,S',F',env',r',q'⟩,fun y H' hy=>?_⟩;obtain⟨rfl,rfl⟩:=hy;obtain⟨cs,l,r⟩:=r2;refine fV (hg _ σ2 F2 _ env2 _ _ _ r.now bE q2) fun σ3 H3 hq0=>?_;obtain⟨F3,env3,r3,s3,q3⟩:=hq0;have rl:dR X.K B h S2 F3 H3 σ3 env3:=dR.lift l r.f0 r3
  exact d8 (hb.run B σ3 F3 H3 env3 { D with nx:=fun S' e'=>h9 g q D ((aN lo n).drop (i + 1)) S' e',ct:=fun S' e'=>h9 g q D ((aN lo n).drop (i + 1)) S' e',bk:=D.nx } S2 fit rl q3) (fun _ _ q=>q) (fun _ _ q=>q) (fun _ _ q=>q) (fun _ _ q=>q)
 ·have e:i=n:=by omega
  subst e;rw [Ng (by omega)] at q2;exact .inl ⟨Mv _,S2,F2,env2,r2,q2⟩
def CL (f:List L3.D→(Int→Nat→Prop)→Prop) (ts:ft) (g:nY) (tb:oJ T):oJ T:=fun D S env=>ts env fun xs=>f xs fun lo n=>h9 g tb D (aN lo n) S env
theorem EK {p1 pos2:Pos} (hp:PassesOwn (model X.prog X.w) X.A X.env X.xe) (hc:X.calm=true) (hgl:Gl X "range") (hm:X.mg "range" = none) (ha:QA X [a] ts) (hg:QG X tg g) (hb:nE X h body q)
  (hst:starEach [a] X.env=[(false,eval a X.env)]:=by rfl) (hs:∀x,M3 (.Call (.Name "range" p1) [a] [] pos2) X.env x=pure x:=by intro _;rfl):Ec X h (.For tg (.Call (.Name "range" p1) [a] [] pos2) body [] pos) (CL iH ts g q):=by
 refine⟨fun B σ F H env D S fit ⟨cs,l,r⟩ hq=>?_⟩;refine dD (oe hp hc (iQ hgl hm iO hst) vf eN hs) ?_;refine cw (ha _ σ F H env _ r.now hq) fun vs' H1 hq0=>?_;obtain⟨F1,ds,r1,s1,dd,q1⟩:=hq0;have rl:dR X.K B h S F1 H1 σ env:=dR.lift l r.f0 r1
 (try dsimp only at q1);unfold iH at q1
 split at q1
 ·simp only [aj,Den] at dd;obtain⟨v,r',rfl,rfl,rfl⟩:=dd;exact⟨_,rfl,q1.1.1,q1.1.2,A3 hg hb fit rl q1.2⟩
 ·exact q1.elim
theorem Bk {tb:oJ T} {Z:gq T} {xs:List L3.D} (I:Nat→T→En→Prop)
  (step:∀(i:Nat) (x:L3.D) (S:T) (env:En) (N:T→En→Prop),xs[i]?=some x→I i S env→(∀S' e,I (i + 1) S' e→N S' e)→g x env fun e=>tb { Z with nx:=N,ct:=N,bk:=Z.nx } S e)
  (done:∀S env,I xs.length S env→Z.nx S env) {S:T} {env:En} (h0:I 0 S env):h9 g tb Z xs S env:=by
 have go:∀(n k:Nat) (S:T) (env:En),k + n=xs.length→I k S env→h9 g tb Z (xs.drop k) S env:=by
  intro n
  induction n with
  | zero =>
   intro k S env hk h;rw [Ng (by omega)]
   exact done S env (by rw [← hk];exact h)
  | succ n ih =>
   intro k S env hk h;have hx:xs[k]?=some (xs[k]'(by omega)):=by simp
   rw [drop_cons hx];exact step k _ S env _ hx h fun S' e he=>ih (k + 1) S' e (by omega) he
 have:=go xs.length 0 S env (by omega) h0
 simpa using this
theorem pE {B:Base}:∀{cs:Cells} {p:Addr} {o:HO},(cs.map (·.1)).Nodup→(p,o)∈cs→(B.gs cs).H p=some o
 | c :: r,p,o,nd,hm=>by
  obtain⟨n1,n2⟩:=M5.mp nd;show upd (B.gs r).H c.1 c.2 p=some o
  rcases MA.mp hm with e | e
  ·subst e;exact au
  ·rw [aq (fun z=>n1 (by show c.1∈_;rw [← z];exact MT.mpr ⟨_,e,rfl⟩))];exact pE n2 e
theorem Rep.cell {K:Mn} {B:Base} {cs:Cells} {F H:Hp} {σ:St} {env:En} (r:Rep K (B.gs cs) F H σ env) (nd:(cs.map (·.1)).Nodup) {p:Addr} {o:HO} (hm:(p,o)∈cs):H p=some o:=r.h0 p o (pE nd hm)
end
end L2.L3
namespace L2.L3
open PySem PySem.Spec PyProof.Rows
theorem Rep.Ld {K:Mn} {B:Base} {F H:Hp} {σ:St} {env:En} {p:Addr} {o:HO} (r:Rep K (B.guard p o) F H σ env) (hb:B.H p=none):Rep K B (upd F p o) H σ env∧ao F (upd F p o):=by
 obtain⟨r',hp,hf⟩:=r.qg hb;have s1:ao F (upd F p o):=cu hf
 have far:∀q,(B.guard p o).H q=none→q≠p∧B.H q=none:=fun q h=>by
  have h':upd B.H p o q=none:=h;have ne:q≠p:=fun e=>by subst e;rw [au] at h';cases h'
  rw [aq ne] at h';exact⟨ne,h'⟩
 refine⟨⟨r'.f0.trans s1,fun b u z=>?_,r'.h0,fun a h=>?_,fun i x h=>?_,fun i xs h=>?_,r.ne,fun i xs h=>?_,r.nm⟩,s1⟩
 ·by_cases e:b=p
  ·subst e;rw [au] at z;cases z;exact hp
  ·rw [aq e] at z;exact r.fh _ _ z
 ·have:a≠p:=fun e=>by subst e;exact B.nb a h hb
  rw [aq this];exact r'.nf a h
 ·obtain⟨v,h1,h2⟩:=r.dv i x h;exact⟨v,h1,Den.mono s1 _ _ h2⟩
 ·obtain⟨q,vs,h1,h2,h3,h4,h5⟩:=r.ov i xs h;obtain⟨ne,h4'⟩:=far q h4;exact⟨q,vs,h1,h2,by rw [aq ne];exact h3,h4',aj.mono s1 _ _ h5⟩
 ·obtain⟨q,ep,us,vs,h1,h2,h3,h4,h5,h6⟩:=r.mv i xs h;obtain⟨ne,h4'⟩:=far q h4;exact⟨q,ep,us,vs,h1,h2,by rw [aq ne];exact h3,h4',aj.mono s1 _ _ h5,aj.mono s1 _ _ h6⟩
theorem Rep.K0 {K:Mn} {B1 B2:Base} {F H:Hp} {σ:St} {env:En} {a:Addr} {o o':HO} (r:Rep K B1 F H σ env) (ha:B1.H a=some o) (hn:B1.N a) (hF:ao B2.F F) (hH:∀z,B2.H z=upd B1.H a o' z) (hN:∀z,B2.N z→B1.N z):Rep K B2 F (upd H a o') σ env where
 f0:=hF
 fh:=fun z u q=>by
  have:z≠a:=fun e=>by subst e;rw [r.nf z hn] at q;cases q
  rw [aq this];exact r.fh _ _ q
 h0:=fun z u q=>by
  rw [hH] at q
  by_cases e:z=a
  ·subst e;rw [au] at q ⊢;exact q
  ·rw [aq e] at q ⊢;exact r.h0 _ _ q
 nf:=fun z h=>r.nf z (hN z h)
 dv:=r.dv
 ov:=fun i xs h=>by
  obtain⟨q,vs,h1,h2,h3,h4,h5⟩:=r.ov i xs h;have ne:q≠a:=fun e=>by subst e;rw [ha] at h4;cases h4
  exact⟨q,vs,h1,by rw [aq ne];exact h2,h3,by rw [hH,aq ne];exact h4,h5⟩
 ne:=r.ne
 mv:=fun i xs h=>by
  obtain⟨q,ep,us,vs,h1,h2,h3,h4,h5⟩:=r.mv i xs h;have ne:q≠a:=fun e=>by subst e;rw [ha] at h4;cases h4
  exact⟨q,ep,us,vs,h1,by rw [aq ne];exact h2,h3,by rw [hH,aq ne];exact h4,h5⟩
 nm:=r.nm
section
variable {K:Mn} {p:P3}
end
structure cH (K:Mn) (x:Str) (st:Stmt):Prop where
 ex:∃(f:Addr) (oc:Value) (od an:Option Addr) (sl:Array (Option Value)) (kV dc pm cd ct:Value),PySem.W.nsIn K mainGlobals x=some (some (.ref f)) ∧
  K.lookup f=some ⟨oc,od,.func (PySem.W.fnOf x x (gD st) (cA st) (ak st) .none kV dc pm an cd ct),sl⟩∧PySem.W.codeIn K cd x=true∧PySem.W.keepIn K (.ref f)=true
section
variable {K:Mn} {h:Heap} {mg:Str→Option Value} {x:Str} {st:Stmt} {i:Int}
theorem cH.get {ps:List Str} (D:cH K x st) (X:K.In h) (G:h.Ns mainGlobals mg)
  (hb:∀(kV doc pm:Value) (an:Option Addr) (cdv ct:Value) (us:List Value),us.length=ps.length→bindArgs (PySem.W.fnOf x x (gD st) (cA st) (ak st) .none kV doc pm an cdv ct) ⟨us,[]⟩=pure (ps.zip us)) :
  ∃fa fd,pU K x x st fa fd∧mg x=some (.ref fa)∧Binds K fd ps []:=by
 obtain⟨f,oc,od,an,sl,kV,dc,pm,cd,ct,a,l,c,k⟩:=D.ex;have F:=yp l c k;exact⟨f,_,F,Nz X G a,F.binds hb⟩
theorem cH.L7 {fa:Addr} {p:Str} (D:cH K x st) (X:K.In h) (G:h.Ns mainGlobals mg) (hfa:mg x=some (.ref fa))
  (hb:∀(kV doc pm:Value) (an:Option Addr) (cdv ct:Value) (v:Value),bindArgs (PySem.W.fnOf x x (gD st) (cA st) (ak st) .none kV doc pm an cdv ct) ⟨[v],[]⟩=pure [(p,v)]) :
  ∃fd,pU K x x st fa fd∧∀(s:Shared) (v:Value),BindsTo s fd ⟨[v],[]⟩ [(p,v)]:=by
 obtain⟨f,oc,od,an,sl,kV,dc,pm,cd,ct,a,l,c,k⟩:=D.ex;have e:=hfa.symm.trans (Nz X G a);cases e;exact⟨_,yp l c k,fun s v=>.of_eq (hb kV dc pm an cd ct v)⟩
end
theorem Mb {P:List Value→Prop} (h:P []) (us:List Value) (hu:us.length=0):P us:=by
 cases us with
 | nil=>exact h
 | cons a l=>simp at hu
theorem Fe {P:List Value→Prop} (h:∀a,P [a]) (us:List Value) (hu:us.length=1):P us:=by
 cases us with
 | nil=>simp at hu
 | cons a l=>exact Mb (P:=fun l=>P (a :: l)) (h a) l (by simpa using hu)
theorem zP {P:List Value→Prop} (h:∀a b,P [a,b]) (us:List Value) (hu:us.length=2):P us:=by
 cases us with
 | nil=>simp at hu
 | cons a l=>exact Fe (P:=fun l=>P (a :: l)) (h a) l (by simpa using hu)
theorem Ib {P:List Value→Prop} (h:∀a b c,P [a,b,c]) (us:List Value) (hu:us.length=3):P us:=by
 cases us with
 | nil=>simp at hu
 | cons a l=>exact zP (P:=fun l=>P (a :: l)) (h a) l (by simpa using hu)
theorem LW {P:List Value→Prop} (h:∀a b c d,P [a,b,c,d]) (us:List Value) (hu:us.length=4):P us:=by
 cases us with
 | nil=>simp at hu
 | cons a l=>exact Ib (P:=fun l=>P (a :: l)) (h a) l (by simpa using hu)
structure Df (K:Mn) (mg:Str→Option Value) (x:Str) (st:Stmt) (ps:List Str):Prop where
 ex:∃fa fd,pU K x x st fa fd∧mg x=some (.ref fa)∧Binds K fd ps []
section
variable {P:Program} {w:World} {K:Mn} {mg:Str→Option Value} {base:Heap} {x:Str} {st:Stmt} {N ps:List Str} {k:Nat} {f:Fw} {fx:FwX} {i:Int}
theorem Df.known (F:Df K mg x st ps) (S:aI N ps (ak st)) (hl:∀ds Q,f ds Q→ds.length=ps.length)
  (hbody:∀(fa:Addr) (cdv:Value) (A:Around) (outer:List Env) (s:Shared) (H:Hp) (E:XK),dG k (A.deeper (envOfC x (ak st) s.heap.objs.size fa cdv)) →
   ∃t,sS (nA vJ P w K mg base N x (ak st) fa cdv A outer s H E).BF (cA st) t∧∀ds (Q:D→Prop),f ds Q→t { nx:=fun _=>Q .non,rt:=Q } (aD N ds)):Known P w K mg base (k + 1) x f :=
 let ⟨fa,_,F,m,b⟩:=F.ex;pU.known F S m b hl (hbody fa)
end
section
variable {K:Mn} {B:Base} {F H F' H':Hp} {σ:St} {env:En} {cs cs':Cells}
theorem u4:∀cs:Cells,(B.gs cs).F=B.F
 | []=>rfl
 | _ :: r=>u4 r
theorem oz:∀(cs:Cells) (z:Addr),(B.gs cs).N z↔z∈cs.map (·.1)∨B.N z
 | [],z=>by simp [Base.gs]
 | c :: r,z=>by
  show (z=c.1∨(B.gs r).N z)↔_
  rw [oz r z,MP,MA,or_assoc]
theorem gc:∀(cs:Cells) (z:Addr),z∉cs.map (·.1)→(B.gs cs).H z=B.H z
 | [],_,_=>rfl
 | c :: r,z,h=>by
  rw [MP,MA,not_or] at h;show upd (B.gs r).H c.1 c.2 z=_
  rw [aq h.1];exact gc r z h.2
theorem gu {z:Addr} (h:z∈cs.map (·.1)):∃o,(z,o)∈cs:=by
 obtain⟨c,hc,e⟩:=MT.mp h;exact⟨c.2,by rw [← e];exact hc⟩
def iS (a:Addr) (o:HO) (cs:Cells):Cells:=cs.map fun c=>if c.1=a then (a,o) else c
theorem Fs {a:Addr} {o:HO} (cs:Cells):(iS a o cs).map (·.1)=cs.map (·.1):=by
 unfold iS;rw [List.map_map];refine List.map_congr_left fun c _=>?_;show (if c.1=a then (a,o) else c).1=c.1
 split
 ·rename_i e;exact e.symm
 ·rfl
theorem xm {a:Addr} {o:HO}:∀cs:Cells,a∉cs.map (·.1)→iS a o cs=cs
 | [],_=>rfl
 | c :: r,h=>by
  rw [MP,MA,not_or] at h;show (if c.1=a then (a,o) else c) :: iS a o r=_
  rw [Mo (fun e=>h.1 e.symm),xm r h.2]
theorem Aw {a:Addr} {o:HO}:∀(cs:Cells),(cs.map (·.1)).Nodup→a∈cs.map (·.1)→∀z,(B.gs (iS a o cs)).H z=upd (B.gs cs).H a o z
 | c :: r,nd,h,z=>by
  obtain⟨n1,n2⟩:=M5.mp nd;show (B.gs ((if c.1=a then (a,o) else c) :: iS a o r)).H z=upd (upd (B.gs r).H c.1 c.2) a o z
  by_cases e:c.1=a
  ·subst e;rw [Mw rfl,xm r n1];show upd (B.gs r).H c.1 o z=_
   by_cases w:z=c.1
   ·subst w;rw [au,au]
   ·rw [aq w,aq w,aq w]
  ·rw [Mo e]
   have hr:a∈r.map (·.1):=by
    rcases MA.mp h with w | w
    ·exact absurd w.symm e
    ·exact w
   show upd (B.gs (iS a o r)).H c.1 c.2 z=_
   by_cases w:z=c.1
   ·subst w;rw [au,aq e,au]
   ·rw [aq w,Aw r n2 hr z]
    by_cases v:z=a
    ·subst v;rw [au,au]
    ·rw [aq v,aq v,aq w]
theorem Rep.iS (r:Rep K (B.gs cs) F H σ env) (nd:(cs.map (·.1)).Nodup) {a:Addr} (o:HO) (ha:a∈cs.map (·.1)):Rep K (B.gs (iS a o cs)) F (upd H a o) σ env:=by
 obtain⟨o',hm⟩:=gu ha;refine r.K0 (pE nd hm) ((oz cs a).mpr (.inl ha)) ?_ (Aw cs nd ha) fun z h=>?_
 ·rw [u4];have:=r.f0;rw [u4] at this;exact this
 ·rw [oz,Fs] at h;rw [oz];exact h
theorem Rep.KS (r:Rep K (B.gs cs) F H σ env) (nd:(cs.map (·.1)).Nodup) (had:cs'.map (·.1)=cs.map (·.1)) (fit:∀p∈cs.map (·.1),B.H p=none) (a:ao F F') (b:ao F' H') (off:∀q o,q∉cs.map (·.1)→H q=some o→H' q=some o)
  (hc:∀c∈cs',H' c.1=some c.2) (n:∀p,H p≠none→F p=none→F' p=none):Rep K (B.gs cs') F' H' σ env:=by
 have out:∀q,(B.gs cs).H q=none→q∉cs.map (·.1):=fun q h m=>by
  obtain⟨o,hm⟩:=gu m;rw [pE nd hm] at h;cases h
 have none':∀q,(B.gs cs).H q=none→(B.gs cs').H q=none:=fun q h=>by
  have m:=out q h;rw [gc cs q m] at h;rw [gc cs' q (by rw [had];exact m)];exact h
 refine⟨?_,b,fun z u q=>?_,fun z h=>?_,fun i x h=>?_,fun i xs h=>?_,r.ne,fun i xs h=>?_,r.nm⟩
 ·rw [u4];have:=r.f0;rw [u4] at this;exact this.trans a
 ·by_cases m:z∈cs'.map (·.1)
  ·obtain⟨o,hm⟩:=gu m;rw [pE (by rw [had];exact nd) hm] at q;cases q;exact hc _ hm
  ·rw [gc cs' z m] at q;rw [had] at m;exact off z u m (r.h0 z u (by rw [gc cs z m];exact q))
 ·rw [oz,had] at h;have hN:(B.gs cs).N z:=(oz cs z).mpr h;refine n z ?_ (r.nf z hN)
  cases hh:(B.gs cs).H z with
  | none=>exact absurd hh ((B.gs cs).nb z hN)
  | some o=>rw [r.h0 z o hh];simp
 ·obtain⟨v,h1,h2⟩:=r.dv i x h;exact⟨v,h1,Den.mono a _ _ h2⟩
 ·obtain⟨q,vs,h1,h2,h3,h4,h5⟩:=r.ov i xs h;exact⟨q,vs,h1,off q _ (out q h4) h2,n q (by rw [h2];simp) h3,none' q h4,aj.mono a _ _ h5⟩
 ·obtain⟨q,ep,us,vs,h1,h2,h3,h4,h5,h6⟩:=r.mv i xs h;exact⟨q,ep,us,vs,h1,off q _ (out q h4) h2,n q (by rw [h2];simp) h3,none' q h4,aj.mono a _ _ h5,aj.mono a _ _ h6⟩
def nO (F H:Hp) (ad:List Addr):Base:=⟨F,fun q=>if q∈ad then none else H q,fun q=>H q≠none∧F q=none∧q∉ad,fun q h=>by rw [Mo h.2.2];exact h.1⟩
theorem BR {N:List Str} {ds:List D} {vs:List V} (fh:ao F H) (hd:aj K F ds vs) (nd:(cs.map (·.1)).Nodup) (hc:∀c∈cs,H c.1=some c.2) (hf:∀p∈cs.map (·.1),F p=none) :
  Rep K ((nO F H (cs.map (·.1))).gs cs) F H (start N vs) (aD N ds):=by
 have r:=rq (N:=N) fh hd;refine⟨by rw [u4];exact ao.refl _,fh,fun z u q=>?_,fun z h=>?_,r.dv,fun i xs h=>?_,r.ne,fun i xs h=>?_,r.nm⟩
 ·by_cases m:z∈cs.map (·.1)
  ·obtain⟨o,hm⟩:=gu m;rw [pE nd hm] at q;cases q;exact hc _ hm
  ·rw [gc cs z m] at q;have q':(if z∈cs.map (·.1) then none else H z)=some u:=q;rw [Mo m] at q';exact q'
 ·rw [oz] at h;rcases h with m | h
  ·exact hf z m
  ·exact h.2.1
 ·obtain⟨q,vs,h1,h2,h3,h4,h5⟩:=r.ov i xs h;have h4':H q=none:=h4;rw [h4'] at h2;cases h2
 ·obtain⟨q,ep,us,vs,h1,h2,h3,h4,h5⟩:=r.mv i xs h;have h4':H q=none:=h4;rw [h4'] at h2;cases h2
end
structure P4 where
 x:Addr
 dx:Addr
 a:Addr
 b:Addr
 nd:[x,dx,a,b].Nodup
structure S2 where
 st:List (D×D)
 cr:List (D×D)
def S2.get (S:S2):Bool→List (D×D)
 | false=>S.st
 | true=>S.cr
def S2.put (S:S2) (k:Bool) (kvs:List (D×D)):S2:=match k with
 | false=>⟨kvs,S.cr⟩
 | true=>⟨S.st,kvs⟩
def P4.at (p:P4):Bool→Addr
 | false=>p.a
 | true=>p.b
def t9 (f g:Str):Bool→Str
 | false=>f
 | true=>g
def wk (K:Mn) (C:Addr) (f g:Str) (p:P4):GZ S2 where
 lay:=fun S F cs=>∃e1 us1 vs1 e2 us2 vs2,cs=[(p.x,.ins C p.dx [(f,.ref p.a),(g,.ref p.b)]),(p.dx,.own p.x),(p.a,bM p.a e1 (bc S.st us1 vs1)),(p.b,bM p.b e2 (bc S.cr us2 vs2))] ∧
  aj K F (S.st.map (·.1)) us1∧aj K F (S.st.map (·.2)) vs1∧aj K F (S.cr.map (·.1)) us2∧aj K F (S.cr.map (·.2)) vs2
 ad:=[p.x,p.dx,p.a,p.b]
 nd:=p.nd
 at_:=fun S F cs ⟨_,_,_,_,_,_,e,_⟩=>by subst e;rfl
 mono:=fun S F F' cs s ⟨e1,u1,v1,e2,u2,v2,e,h1,h2,h3,h4⟩=>⟨e1,u1,v1,e2,u2,v2,e,aj.mono s _ _ h1,aj.mono s _ _ h2,aj.mono s _ _ h3,aj.mono s _ _ h4⟩
section
variable {K:Mn} {C:Addr} {f g:Str} {p:P4} {S:S2} {F H:Hp} {cs:Cells}
theorem rA (l:(wk K C f g p).lay S F cs) (k:Bool):∃ep us vs,(p.at k,bM (p.at k) ep (bc (S.get k) us vs))∈cs∧aj K F ((S.get k).map (·.1)) us∧aj K F ((S.get k).map (·.2)) vs:=by
 obtain⟨e1,u1,v1,e2,u2,v2,e,h1,h2,h3,h4⟩:=l;subst e;cases k
 ·exact⟨e1,u1,v1,by simp [P4.at,S2.get],h1,h2⟩
 ·exact⟨e2,u2,v2,by simp [P4.at,S2.get],h3,h4⟩
theorem B9 (l:(wk K C f g p).lay S F cs) (k:Bool) {kvs:List (D×D)} {ep:Nat} {us vs:List V} (h1:aj K F (kvs.map (·.1)) us) (h2:aj K F (kvs.map (·.2)) vs):(wk K C f g p).lay (S.put k kvs) F (iS (p.at k) (bM (p.at k) ep (bc kvs us vs)) cs):=by
 obtain⟨e1,u1,v1,e2,u2,v2,e,g1,g2,g3,g4⟩:=l;subst e;have nd:=p.nd;simp only [M5,MA,MN,or_false,not_or,List.nodup_nil,and_true,not_false_eq_true] at nd;obtain⟨⟨n1,n2,n3⟩,⟨n4,n5⟩,n6⟩:=nd;cases k
 ·refine⟨ep,us,vs,e2,u2,v2,?_,h1,h2,g3,g4⟩;simp only [iS,P4.at,MP,List.map_nil,n2,n4,if_false,if_true,Ne.symm n6,S2.put]
 ·refine⟨e1,u1,v1,ep,us,vs,?_,g1,g2,h1,h2⟩;simp only [iS,P4.at,MP,List.map_nil,n3,n5,n6,if_false,if_true,S2.put]
theorem pG (l:(wk K C f g p).lay S F cs):(cs.map (·.1)).Nodup:=by rw [(wk K C f g p).at_ S F cs l];exact p.nd
theorem C8 (k:Bool):p.at k∈[p.x,p.dx,p.a,p.b]:=by cases k <;> simp [P4.at]
theorem rC (l:(wk K C f g p).lay S F cs):(p.x,HO.ins C p.dx [(f,.ref p.a),(g,.ref p.b)])∈cs:=by
 obtain⟨e1,u1,v1,e2,u2,v2,e,_⟩:=l;subst e;simp
theorem qb (fg:f≠g) (k:Bool):[(f,V.ref p.a),(g,V.ref p.b)].lookup (t9 f g k)=some (.ref (p.at k)):=by
 cases k
 ·simp [t9,P4.at,List.lookup]
 ·have:(g == f)=false:=M7.mpr (Ne.symm fg);simp [t9,P4.at,List.lookup,this]
end
section
variable {X:Cx} {C:Addr} {f g x:Str} {p:P4} {a b e:Expr} {es:List Expr} {ta tb te:TD} {ts:ft} {pos px pa p2 pl:Pos} {xs ys:List Stmt} {q q':oJ S2}
theorem Dt {K:Mn} {B:Base} {F F1 H1:Hp} {σ1:St} {env1:En} {cs:Cells} (f0:ao (B.gs cs).F F)
  (r:Rep K ⟨F,(B.gs cs).H,(B.gs cs).N,(B.gs cs).nb⟩ F1 H1 σ1 env1):Rep K (B.gs cs) F1 H1 σ1 env1:=Rep.back (B:=B.gs cs) (G:=F) f0 r
def Be (i:Nat) (x:Addr) (k:Bool) (tk tv:TD):oJ S2:=fun Z S env=>tv env fun v=>env[i]?=some (some (.d (.obj (og x))))∧tk env fun ky=>aX ky=true∧dep ky≤8∧bg (S.get k)∧(S.get k).length < sizeLine∧Z.nx (S.put k (putN (S.get k) ky v)) env
theorem Gr (i:Nat) (k:Bool) (hu:X.A.units + 64 < cLine) (hc:wN X.K C) (hn:dS X.K C (t9 f g k)) (fg:f≠g) (hb:QE X b tb) (he:QE X e te) (hN:X.N[i]?=some x:=by rfl) (hv:qJ X.env.scope x:=by first | exact Or.inl rfl | exact Or.inr (Or.inl rfl) | exact Or.inr (Or.inr rfl)) (hd:(x == ("__debug__" : Str))=false:=by decide)
  (hcd:(x == ("__classdict__" : Str))=false:=by decide) (hbs:attributeBase (.Name x px) (t9 f g k) X.env (eval (.Name x px) X.env)=eval (.Name x px) X.env:=by rfl)
  (hs:swapsWith e (some (.Subscript (.Attribute (.Name x px) (t9 f g k) pa) b p2)) pos.line X.env=pure false:=by rfl) :
  Ec X (wk X.K C f g p) (.Assign [.Subscript (.Attribute (.Name x px) (t9 f g k) pa) b p2] e pos) (Be i p.x k tb te):=by
 refine⟨fun B σ F H env Z S fit ⟨cs,l,r⟩ hq=>?_⟩;refine dD (vo hu (rD (cv hN hv hd hcd) hbs) bH bH hs) ?_;refine aA (he _ σ F H env _ r.now hq) fun v H1 ⟨F1,d1,r1,s1,dd1,hi,q1⟩=>?_;have r1':=Dt r.f0 r1;have l1:=(wk X.K C f g p).mono _ _ _ _ s1 l;have nd:=pG l1;refine⟨.ref p.x,fZ r1' hi,p.x,C,p.dx,_,.ref (p.at k),rfl,r1'.cell nd (rC l1),hc,hn,qb fg k,?_⟩;refine aA (hb _ σ F1 H1 env _ r1'.now q1) fun ky H2 ⟨F2,d2,r2,s2,dd2,k1,k2,ok,hl,q2⟩=>?_
 have r2':=Dt r1'.f0 r2;have l2:=(wk X.K C f g p).mono _ _ _ _ s2 l1;obtain⟨ep,us,vs,hm,g1,g2⟩:=rA l2 k;refine⟨p.at k,ep,F2,S.get k,us,vs,d2,d1,rfl,r2'.fh,ok,g1,g2,r2'.cell nd hm,k1,k2,dd2,Den.mono s2 _ _ dd1,hl,fun ep' us' vs' e1 e2=>?_⟩;have ha:p.at k∈cs.map (·.1):=by rw [(wk X.K C f g p).at_ _ _ _ l2];exact C8 k
 exact⟨_,F2,env,⟨_,B9 l2 k e1 e2,r2'.iS nd _ ha⟩,q2⟩
def kF (i:Nat) (x:Addr) (k:Bool) (tk:TD):oJ S2:=fun Z S env=>env[i]?=some (some (.d (.obj (og x))))∧tk env fun ky=>aX ky=true∧dep ky≤8∧bg (S.get k)∧(S.get k).length < sizeLine∧Z.nx (S.put k (putN (S.get k) ky (.int (S.get k).length))) env
theorem xF {pn px' pa':Pos} (i:Nat) (k:Bool) (hu:X.A.units + 64 < cLine) (hc:wN X.K C) (hn:dS X.K C (t9 f g k)) (fg:f≠g) (hb:QE X b tb) (hm:X.mg "len" = none) (hg:Gl X "len":=by rfl) (hN:X.N[i]?=some x:=by rfl) (hv:qJ X.env.scope x:=by first | exact Or.inl rfl | exact Or.inr (Or.inl rfl) | exact Or.inr (Or.inr rfl)) (hd:(x == ("__debug__" : Str))=false:=by decide)
  (hcd:(x == ("__classdict__" : Str))=false:=by decide) (hbs:attributeBase (.Name x px) (t9 f g k) X.env (eval (.Name x px) X.env)=eval (.Name x px) X.env:=by rfl)
  (hbs':attributeBase (.Name x px') (t9 f g k) X.env (eval (.Name x px') X.env)=eval (.Name x px') X.env:=by rfl)
  (he:starEach [.Attribute (.Name x px') (t9 f g k) pa'] X.env=(false,eval (.Attribute (.Name x px') (t9 f g k) pa') X.env) :: starEach [] X.env:=by exact bq rfl) (hpl:(backTo pl (starEach ([]:List Expr) X.env)).any (·.1)=false:=by rfl)
  (hs:swapsWith (.Call (.Name "len" pn) [.Attribute (.Name x px') (t9 f g k) pa'] [] pl) (some (.Subscript (.Attribute (.Name x px) (t9 f g k) pa) b p2)) pos.line X.env=pure false:=by rfl) :
  Ec X (wk X.K C f g p) (.Assign [.Subscript (.Attribute (.Name x px) (t9 f g k) pa) b p2] (.Call (.Name "len" pn) [.Attribute (.Name x px') (t9 f g k) pa'] [] pl) pos) (kF i p.x k tb):=by
 refine⟨fun B σ F H env Z S fit ⟨cs,l,r⟩ ⟨hi,hq⟩=>?_⟩;refine dD (vo hu (rD (cv hN hv hd hcd) hbs) bH (rn AY hg hm oY (fT (rD (cv hN hv hd hcd) hbs') ig he) (by decide) (by decide) he hpl) hs) ?_;have nd:=pG l;obtain⟨ep0,us0,vs0,hm0,g01,g02⟩:=rA l k;have hx:=r.cell nd (rC l);refine⟨.ref p.x,fZ r hi,p.x,C,p.dx,_,.ref (p.at k),rfl,hx,hc,hn,qb fg k,p.at k,ep0,_,rfl,r.cell nd hm0,?_⟩;refine⟨.ref p.x,fZ r hi,p.x,C,p.dx,_,.ref (p.at k),rfl,hx,hc,hn,qb fg k,?_⟩
 refine aA (hb _ σ F H env _ r.now hq) fun ky H2 ⟨F2,d2,r2,s2,dd2,k1,k2,ok,hl,q2⟩=>?_;have r2':=Dt r.f0 r2;have l2:=(wk X.K C f g p).mono _ _ _ _ s2 l;obtain⟨ep,us,vs,hm,g1,g2⟩:=rA l2 k;refine⟨p.at k,ep,F2,S.get k,us,vs,d2,.int (S.get k).length,rfl,r2'.fh,ok,g1,g2,r2'.cell nd hm,k1,k2,dd2,by rw [bX g01 g02];exact bE,hl,fun ep' us' vs' e1 e2=>?_⟩;have ha:p.at k∈cs.map (·.1):=by rw [(wk X.K C f g p).at_ _ _ _ l2];exact C8 k
 exact⟨_,F2,env,⟨_,B9 l2 k e1 e2,r2'.iS nd _ ha⟩,q2⟩
def uB (i:Nat) (x:Addr) (k:Bool) (ta:TD) (q q':oJ S2):oJ S2:=fun Z S env=>ta env fun d=>env[i]?=some (some (.d (.obj (og x))))∧aX d=true∧dep d≤8∧bg (S.get k)∧if ((S.get k).any fun kv=>aY kv.1 d)=true then q' Z S env else q Z S env
theorem Ft {pc:Pos} (i:Nat) (k:Bool) (hu:X.A.units + 64 < cLine) (hc:wN X.K C) (hn:dS X.K C (t9 f g k)) (fg:f≠g) (ha:QE X a ta) (h1:nE X (wk X.K C f g p) xs q) (h2:nE X (wk X.K C f g p) ys q') (hN:X.N[i]?=some x:=by rfl) (hv:qJ X.env.scope x:=by first | exact Or.inl rfl | exact Or.inr (Or.inl rfl) | exact Or.inr (Or.inr rfl)) (hd:(x == ("__debug__" : Str))=false:=by decide)
  (hcd:(x == ("__classdict__" : Str))=false:=by decide) (hbs:attributeBase (.Name x px) (t9 f g k) X.env (eval (.Name x px) X.env)=eval (.Name x px) X.env:=by rfl) (hm:behindInMarks .NotIn (.Attribute (.Name x px) (t9 f g k) pa)=false:=by rfl) :
  Ec X (wk X.K C f g p) (.If (.Compare a [.NotIn] [.Attribute (.Name x px) (t9 f g k) pa] pc) xs ys pos) (uB i p.x k ta q q'):=by
 refine⟨fun B σ F H env Z S fit ⟨cs,l,r⟩ hq=>?_⟩;refine dD (C9 (mC (uY hu) bH (rD (cv hN hv hd hcd) hbs) hm) eN eN) ?_;refine aA (ha _ σ F H env _ r.now hq) fun y H1 ⟨F1,d,r1,s1,d1,hi,l1,l2,ok,q1⟩=>?_;have r1':=Dt r.f0 r1;have l1':=(wk X.K C f g p).mono _ _ _ _ s1 l;have nd:=pG l1';obtain⟨ep,us,vs,hm,g1,g2⟩:=rA l1' k;refine⟨.ref p.x,fZ r1' hi,p.x,C,p.dx,_,.ref (p.at k),rfl,r1'.cell nd (rC l1'),hc,hn,qb fg k,?_⟩
 refine⟨p.at k,ep,F1,S.get k,us,vs,d,rfl,r1'.fh,ok,g1,g2,r1'.cell nd hm,l1,l2,d1,_,rfl,?_⟩
 cases hany:(S.get k).any fun kv=>aY kv.1 d with
 | true =>
  rw [Mw hany] at q1
  exact h2.run B σ F1 H1 env Z S fit ⟨cs,l1',r1'⟩ q1
 | false =>
  rw [Mo (by rw [hany];decide)] at q1;exact h1.run B σ F1 H1 env Z S fit ⟨cs,l1',r1'⟩ q1
end
abbrev Ee:=List D→S2→(S2→D→Prop)→Prop
def Mg (K:Mn) (C:Addr) (f g:Str) (fw:Ee):Sp:=fun vs H Q _=>∃(p:P4) (F:Hp) (ds:List D) (us:List V) (S:S2) (cs:Cells) (R:S2→D→Prop),vs=.ref p.x :: us∧ao F H∧aj K F ds us∧(wk K C f g p).lay S F cs∧(∀c∈cs,H c.1=some c.2) ∧
 (∀q∈[p.x,p.dx,p.a,p.b],F q=none)∧fw ds S R∧∀(S':S2) (cs':Cells) (d:D) (v:V) (F' H':Hp),ao F F'→(∀q o,q∉[p.x,p.dx,p.a,p.b]→H q=some o→H' q=some o)→(wk K C f g p).lay S' F' cs'→(∀c∈cs',H' c.1=some c.2)→ao F' H' →
  (∀q,H q≠none→F q=none→F' q=none)→Den K F' d v→R S' d→Q v H'
structure lO (P:Program) (w:World) (K:Mn) (mg:Str→Option Value) (base:Heap) (k:Nat) (C:Addr) (f g m:Str) (fw:Ee):Prop where
 ex:∃(fa:Addr) (fd:FuncData) (ps:List Str),kW P w K mg base vJ k fa fd ps (Mg K C f g fw)∧Meth K C m fa∧Binds K fd ps []
section
variable {X:Cx} {C:Addr} {f g x m:Str} {p:P4} {a:Expr} {es:List Expr} {ts:ft} {px pos apos:Pos} {fw:Ee} {k:Nat}
def uH (i:Nat) (x:Addr) (fw:Ee) (ts:ft):oJ S2:=fun Z S env=>env[i]?=some (some (.d (.obj (og x))))∧ts env fun ds=>fw ds S fun S' _=>Z.nx S' env
theorem Ae {pl:Sem Bool} {spos:Pos} (i:Nat) (hc:wN X.K C) (h:lO X.prog X.w X.K X.mg X.base k C f g m fw) (hr:dG k X.A) (hnm:[(f,V.ref p.a),(g,V.ref p.b)].lookup m=none) (ha:QA X (a :: es) ts)
  (hN:X.N[i]?=some x:=by rfl) (hv:qJ X.env.scope x:=by first | exact Or.inl rfl | exact Or.inr (Or.inl rfl) | exact Or.inr (Or.inr rfl)) (hd:(x == ("__debug__" : Str))=false:=by decide) (hcd:(x == ("__classdict__" : Str))=false:=by decide)
  (hst:starEach (a :: es) X.env=(false,eval a X.env) :: starEach es X.env:=by exact bq rfl) (hpl:(backTo pos (starEach es X.env)).any (·.1)=false:=by rfl)
  (ht:eval (.Call (.Attribute (.Name x px) m apos) (a :: es) [] pos) X.env=(do
   let ov ← eval (.Name x px) X.env
   standAt apos.atName
   let (f,first) ← holding [ov] (getMethod ov m pl)
   callWith pos f first (backTo pos (starEach (a :: es) X.env)) (backToKw pos (keywordEach [] X.env))):=by rfl)
  (hs:swapsWith (.Call (.Attribute (.Name x px) m apos) (a :: es) [] pos) none spos.line X.env=pure false:=by rfl):Ec X (wk X.K C f g p) (.Expr (.Call (.Attribute (.Name x px) m apos) (a :: es) [] pos) spos) (uH i p.x fw ts):=by
 refine⟨fun B σ F H env Z S fit ⟨cs,l,r⟩ ⟨hi,hq⟩=>?_⟩;obtain⟨fa,fd,ps,G,hm,hb⟩:=h.ex;refine dD (qf (zq (cv hN hv hd hcd) hc hm G hr hb .nil zR iO hst hpl ht) hs) ?_;have nd:=pG l;refine⟨.ref p.x,fZ r hi,p.x,p.dx,_,rfl,r.cell nd (rC l),hnm,?_⟩;refine cw (ha _ σ F H env _ r.now hq) fun vs H2 ⟨F2,ds,r2,s2,d2,hf⟩=>?_;rw [Nf];have r2':=Dt r.f0 r2;have l2:=(wk X.K C f g p).mono _ _ _ _ s2 l;have had:=(wk X.K C f g p).at_ _ _ _ l2
 refine⟨p,F2,ds,vs,S,cs,_,rfl,r2'.fh,d2,l2,fun c hc=>r2'.cell nd hc,fun q hq=>r2'.nf q ((oz cs q).mpr (.inl (by rw [had];exact hq))),hf,fun S' cs' d v F' H' a1 a2 a3 a4 a5 a6 a7 a8=>?_⟩;have had':=(wk X.K C f g p).at_ _ _ _ a3;refine⟨S',F',env,⟨cs',a3,r2'.KS nd (had'.trans had.symm) (fun q hq=>fit q (by rw [had] at hq;exact hq)) a1 a5 (fun q o hn he=>a2 q o (by rw [had] at hn;exact hn) he) a4 a6⟩,a8⟩
end
section
variable {P:Program} {w:World} {K:Mn} {mg:Str→Option Value} {base:Heap}
theorem pU.uj {x qual m:Str} {st:Stmt} {fa C:Addr} {f g:Str} {fd:FuncData} {N ps:List Str} {k:Nat} {fw:Ee} (F:pU K x qual st fa fd) (S:aI N ps (ak st)) (hm:Meth K C m fa) (hb:Binds K fd ps [])
  (hl:∀ds S R,fw ds S R→ds.length + 1=ps.length)
  (hbody:∀(cdv:Value) (A:Around) (outer:List Env) (s:Shared) (H:Hp) (E:XK),dG k (A.deeper (envOfC qual (ak st) s.heap.objs.size fa cdv)) →
   ∀p:P4,∃t,nE (nA vJ P w K mg base N qual (ak st) fa cdv A outer s H E).BF (wk K C f g p) (cA st) t∧∀ds S (R:S2→D→Prop),fw ds S R→t { nx:=fun S' _=>R S' .non,rt:=R } S (aD N (.obj (og p.x) :: ds))) :
  lO P w K mg base (k + 1) C f g m fw:=by
 refine⟨fa,fd,ps,F.ok S (fun vs H Q E h=>?_) (fun cdv A outer s H vs Q E hr h=>?_),hm,hb⟩
 ·obtain⟨p,F0,ds,us,S0,cs,R,rfl,_,hd,_,_,_,hf,_⟩:=h;rw [MQ,← hd.length];exact hl ds _ _ hf
 ·obtain⟨p,F0,ds,us,S0,cs,R,rfl,fh,hd,l,hcs,hF,hf,kk⟩:=h;obtain⟨t,ht,hq⟩:=hbody cdv A outer s H E hr p;refine⟨_,eN,?_⟩;have had:=(wk K C f g p).at_ _ _ _ l;have nd:=pG l;have self:Den K F0 (.obj (og p.x)) (.ref p.x):=by simp only [Den];exact⟨p.x,rfl,fun _ _=>rfl⟩
  have r0:=BR (N:=N) (cs:=cs) fh (aM self hd) nd hcs (fun q hq=>hF q (by rw [had] at hq;exact hq))
  have fit:CC (nO F0 H (cs.map (·.1))) (wk K C f g p):=fun q hq=>by
   show (if q∈cs.map (·.1) then none else H q)=none
   rw [Mw (by rw [had];exact hq)]
  have fin:∀(S':S2) (F':Hp) (σ':St) (env':En) (H':Hp) (d:D) (v:V),dR K (nO F0 H (cs.map (·.1))) (wk K C f g p) S' F' H' σ' env'→Den K F' d v→R S' d→Q v H':=fun S' F' σ' env' H' d v ⟨cs',l',r'⟩ dd q=>by
   have had':=(wk K C f g p).at_ _ _ _ l';have nd':=pG l';refine kk S' cs' d v F' H' ?_ (fun q o hn he=>?_) l' (fun c hc=>r'.cell nd' hc) r'.fh (fun q h1 h2=>?_) dd q
   ·have:=r'.f0;rw [u4] at this;exact this
   ·refine r'.h0 q o ?_;rw [gc cs' q (by rw [had'];exact hn)];show (if q∈cs.map (·.1) then none else H q)=some o
    rw [Mo (by rw [had];exact hn)];exact he
   ·refine r'.nf q ((oz cs' q).mpr ?_)
    by_cases m:q∈cs'.map (·.1)
    ·exact .inl m
    ·exact .inr ⟨h1,h2,by rw [had];rw [had'] at m;exact m⟩
  have core:=ht.run _ (start N (.ref p.x :: us)) F0 H (aD N (.obj (og p.x) :: ds)) _ S0 fit ⟨cs,l,r0⟩ (hq ds S0 R hf);refine d8 core (fun σ' H' ⟨S',F',env',r,q⟩=>?_) (fun v H' ⟨S',F',d',r,dd,q⟩=>?_) (fun _ _ ⟨_,_,_,_,q⟩=>q) (fun _ _ ⟨_,_,_,_,q⟩=>q)
  ·exact fin S' F' σ' env' H' .non .non r qo q
  ·exact fin S' F' [] [] H' d' v r dd q
end
def Lz (C:Addr) (fields:List (Str×D)):Mn→Hp→Addr→Prop:=fun K G p=>∃dx fs,G p=some (.ins C dx fs)∧(∀f d,fields.lookup f=some d→∃v,fs.lookup f=some v∧Den K G d v)∧∀f,fields.lookup f=none→fs.lookup f=none
section
variable {X:Cx} {e:Expr} {te:TD} {pos:Pos}
structure my (P:Program) (w:World) (K:Mn) (mg:Str→Option Value) (base:Heap) (k:Nat) (C:Addr) (m:Str) (f:Fw):Prop where
 ex:∃(fa:Addr) (fd:FuncData) (ps:List Str),kW P w K mg base vJ k fa fd ps (Ij K f)∧Meth K C m fa∧Binds K fd ps []
end
section
variable {K:Mn} {B B2:Base} {F H:Hp} {σ:St} {env:En} {cs cs':Cells}
theorem Rep.rebase (r:Rep K B F H σ env) (h1:ao B2.F F) (h2:∀z,B2.H z=B.H z) (h3:∀z,B2.N z→B.N z):Rep K B2 F H σ env:=by
 refine⟨h1,r.fh,fun z u q=>r.h0 z u (by rw [← h2];exact q),fun z h=>r.nf z (h3 z h),r.dv,fun i xs h=>?_,r.ne,fun i xs h=>?_,r.nm⟩
 ·obtain⟨q,vs,h1,h2',h3,h4,h5⟩:=r.ov i xs h;exact⟨q,vs,h1,h2',h3,by rw [h2];exact h4,h5⟩
 ·obtain⟨q,ep,us,vs,h1,h2',h3,h4,h5⟩:=r.mv i xs h;exact⟨q,ep,us,vs,h1,h2',h3,by rw [h2];exact h4,h5⟩
theorem Rep.perm (r:Rep K (B.gs cs) F H σ env) (nd:(cs.map (·.1)).Nodup) (nd':(cs'.map (·.1)).Nodup) (h:∀c,c∈cs'↔c∈cs):Rep K (B.gs cs') F H σ env:=by
 have ad:∀z,z∈cs'.map (·.1)↔z∈cs.map (·.1):=fun z=>by
  constructor
  ·intro m;obtain⟨o,hm⟩:=gu m;exact MT.mpr ⟨_,(h _).mp hm,rfl⟩
  ·intro m;obtain⟨o,hm⟩:=gu m;exact MT.mpr ⟨_,(h _).mpr hm,rfl⟩
 refine r.rebase ?_ (fun z=>?_) (fun z hz=>?_)
 ·have:=r.f0;rw [u4] at this ⊢;exact this
 ·by_cases m:z∈cs'.map (·.1)
  ·obtain⟨o,hm⟩:=gu m;rw [pE nd' hm,pE nd ((h _).mp hm)]
  ·rw [gc cs' z m,gc cs z (fun w=>m ((ad z).mpr w))]
 ·rw [oz,ad] at hz;rw [oz];exact hz
def Bh (H:Hp):Cells→Hp
 | []=>H
 | c :: r=>upd (Bh H r) c.1 c.2
theorem mF:∀(cs:Cells) (z:Addr),z∉cs.map (·.1)→Bh H cs z=H z
 | [],_,_=>rfl
 | c :: r,z,h=>by
  rw [MP,MA,not_or] at h;show upd (Bh H r) c.1 c.2 z=_
  rw [aq h.1];exact mF r z h.2
theorem zL:∀{cs:Cells},(cs.map (·.1)).Nodup→∀c∈cs,Bh H cs c.1=some c.2
 | c :: r,nd,d,hd=>by
  obtain⟨n1,n2⟩:=M5.mp nd;show upd (Bh H r) c.1 c.2 d.1=some d.2
  rcases MA.mp hd with e | e
  ·subst e;exact au
  ·rw [aq (fun z=>n1 (by show c.1∈_;rw [← z];exact MT.mpr ⟨_,e,rfl⟩))];exact zL n2 d e
theorem Rep.guards (r:Rep K B F H σ env):∀cs:Cells,(cs.map (·.1)).Nodup→(∀c∈cs,H c.1=none)→Rep K (B.gs cs) F (Bh H cs) σ env
 | [],_,_=>r
 | c :: t,nd,h=>by
  obtain⟨n1,n2⟩:=M5.mp nd;have:=Rep.guards r t n2 fun d hd=>h d (MB _ hd);exact this.guarded (p:=c.1) (o:=c.2) (by rw [mF t c.1 n1];exact h c MO)
theorem Rep.Gv:∀{cs:Cells} {F:Hp},(cs.map (·.1)).Nodup→(∀c∈cs,B.H c.1=none)→Rep K (B.gs cs) F H σ env→∃F',ao F F'∧Rep K B F' H σ env∧∀c∈cs,F' c.1=some c.2
 | [],F,_,_,r=>⟨F,ao.refl _,r,fun c h=>nomatch h⟩
 | c :: t,F,nd,h,r=>by
  obtain⟨n1,n2⟩:=M5.mp nd;have hb:(B.gs t).H c.1=none:=by rw [gc t c.1 n1];exact h c MO
  obtain⟨r1,s1⟩:=Rep.Ld (B:=B.gs t) (p:=c.1) (o:=c.2) r hb;obtain⟨F',s2,r2,h2⟩:=Rep.Gv n2 (fun d hd=>h d (MB _ hd)) r1;refine⟨F',s1.trans s2,r2,fun d hd=>?_⟩;rcases MA.mp hd with e | e
  ·subst e;exact s2 _ _ au
  ·exact h2 d e
end
def e8 (C x dx:Addr):Cells:=[(x,.ins C dx []),(dx,.own x)]
def JB (X:Cx) (C:Addr) (f g:Str) (B:Base) (x dx:Addr) (H:Hp) (Z:P4→gq S2):Ends where
 nx:=fun σ' H'=>∃p:P4,p.x=x∧p.dx=dx∧H p.a=none∧H p.b=none∧∃S' F' env',dR X.K B (wk X.K C f g p) S' F' H' σ' env'∧(Z p).nx S' env'
 rt:=fun v H'=>∃p:P4,p.x=x∧p.dx=dx∧H p.a=none∧H p.b=none∧∃S' F' d,dR X.K B (wk X.K C f g p) S' F' H' [] []∧Den X.K F' d v∧(Z p).rt S' d
 bk:=fun σ' H'=>∃p:P4,∃S' env',(Z p).bk S' env'
 ct:=fun σ' H'=>∃p:P4,∃S' env',(Z p).ct S' env'
structure KL (X:Cx) (C:Addr) (f g:Str) (sts:List Stmt) (t:P4→oJ S2):Prop where
 of ::
 run:∀(B:Base) (σ:St) (F H:Hp) (env:En) (x dx:Addr) (Z:P4→gq S2),x≠dx→B.H x=none→B.H dx=none→Rep X.K (B.gs (e8 C x dx)) F H σ env→env[0]?=some (some (.d (.obj (og x)))) →
  (∀p:P4,p.x=x→p.dx=dx→t p (Z p) ⟨[],[]⟩ env) →
  wSs X sts (JB X C f g B x dx H Z) σ H
section
variable {X:Cx} {C:Addr} {f g x:Str} {sts:List Stmt} {t:P4→oJ S2} {p1 p2 p3 p4 p5 p6 p7 p8:Pos}
theorem Hm (hc:wN X.K C) (hf:dS X.K C f) (hg:dS X.K C g) (fg:f≠g) (hr:∀p,nE X (wk X.K C f g p) sts (t p)) (hN:X.N[0]?=some x:=by rfl) (hv:qJ X.env.scope x:=by first | exact Or.inl rfl | exact Or.inr (Or.inl rfl) | exact Or.inr (Or.inr rfl)) (hd:(x == ("__debug__" : Str))=false:=by decide)
  (hcd:(x == ("__classdict__" : Str))=false:=by decide) (hs1:swapsWith (.Dict [] [] p3) (some (.Attribute (.Name x p1) f p2)) p4.line X.env=pure false:=by rfl) (hs2:swapsWith (.Dict [] [] p7) (some (.Attribute (.Name x p5) g p6)) p8.line X.env=pure false:=by rfl) :
  KL X C f g (.Assign [.Attribute (.Name x p1) f p2] (.Dict [] [] p3) p4 :: .Assign [.Attribute (.Name x p5) g p6] (.Dict [] [] p7) p8 :: sts) t:=by
 refine⟨fun B σ F H env ax dx Z hne hbx hbd r h0 hq=>?_⟩;refine oa (ny (DF (cv hN hv hd hcd) rY hs1) (ny (DF (cv hN hv hd hcd) rY hs2) eN)) ?_;have nd0:((e8 C ax dx).map (·.1)).Nodup:=by simp [e8,hne]
 intro a ha;refine⟨.ref ax,fZ r h0,?_⟩;have cx:=r.cell nd0 (p:=ax) (o:=.ins C dx []) (by simp [e8]);have cd:=r.cell nd0 (p:=dx) (o:=.own ax) (by simp [e8]);have nax:ax≠a:=fun e=>by rw [e,ha] at cx;cases cx
 have nad:dx≠a:=fun e=>by rw [e,ha] at cd;cases cd
 refine⟨ax,C,dx,[],rfl,by rw [aq nax];exact cx,hc,hf,by decide,?_⟩;have r1:Rep X.K (B.gs ((a,bM a 0 []) :: e8 C ax dx)) F (upd H a (bM a 0 [])) σ env:=r.guarded (p:=a) (o:=bM a 0 []) ha;have nd1:(((a,bM a 0 []) :: e8 C ax dx).map (·.1)).Nodup:=by simp [e8,hne,Ne.symm nax,Ne.symm nad]
 have r2:=r1.iS nd1 (.ins C dx (gk f (.ref a) [])) (a:=ax) (by simp [e8])
 have e2:iS ax (.ins C dx (gk f (.ref a) [])) ((a,bM a 0 []) :: e8 C ax dx)=[(a,bM a 0 []),(ax,.ins C dx [(f,.ref a)]),(dx,.own ax)]:=by
  simp [iS,e8,Ne.symm nax,Ne.symm hne,gk]
 rw [e2] at r2;generalize hH2:upd (upd H a (bM a 0 [])) ax (.ins C dx (gk f (.ref a) []))=H2 at r2 ⊢;intro b hb;refine⟨.ref ax,fZ r2 h0,?_⟩;have nd2:([(a,bM a 0 []),(ax,.ins C dx [(f,.ref a)]),(dx,HO.own ax)].map (·.1)).Nodup:=by simp [hne,Ne.symm nax,Ne.symm nad]
 have cx2:=r2.cell nd2 (p:=ax) (o:=.ins C dx [(f,.ref a)]) (by simp);have ca2:=r2.cell nd2 (p:=a) (o:=bM a 0 []) (by simp);have cd2:=r2.cell nd2 (p:=dx) (o:=.own ax) (by simp);have nbx:ax≠b:=fun e=>by rw [e,hb] at cx2;cases cx2
 have nba:a≠b:=fun e=>by rw [e,hb] at ca2;cases ca2
 have nbd:dx≠b:=fun e=>by rw [e,hb] at cd2;cases cd2
 have hb0:H b=none:=by rw [← hH2,aq (Ne.symm nbx),aq (Ne.symm nba)] at hb;exact hb
 refine⟨ax,C,dx,[(f,.ref a)],rfl,by rw [aq nbx];exact cx2,hc,hg,by simp,?_⟩;have r3:Rep X.K (B.gs ((b,bM b 0 []) :: [(a,bM a 0 []),(ax,.ins C dx [(f,.ref a)]),(dx,HO.own ax)])) F (upd H2 b (bM b 0 [])) σ env:=r2.guarded (p:=b) (o:=bM b 0 []) hb;have nd3:(((b,bM b 0 []) :: [(a,bM a 0 []),(ax,.ins C dx [(f,.ref a)]),(dx,HO.own ax)]).map (·.1)).Nodup:=by simp [hne,Ne.symm nax,Ne.symm nad,Ne.symm nba,Ne.symm nbx,Ne.symm nbd]
 have r4:=r3.iS nd3 (.ins C dx (gk g (.ref b) [(f,.ref a)])) (a:=ax) (by simp)
 have ep:gk g (V.ref b) [(f,.ref a)]=[(f,.ref a),(g,.ref b)]:=by
  have:(f == g)=false:=M7.mpr fg;simp [gk,this,fg,Ne.symm fg]
 have e4:iS ax (.ins C dx (gk g (.ref b) [(f,.ref a)])) ((b,bM b 0 []) :: [(a,bM a 0 []),(ax,.ins C dx [(f,.ref a)]),(dx,HO.own ax)])=[(b,bM b 0 []),(a,bM a 0 []),(ax,.ins C dx [(f,.ref a),(g,.ref b)]),(dx,.own ax)]:=by
  simp [iS,Ne.symm nax,Ne.symm hne,Ne.symm nbx,ep]
 rw [e4] at r4
 let p:P4:=⟨ax,dx,a,b,by simp [hne,nax,nad,nbx,nba,nbd]⟩
 have r5:Rep X.K (B.gs [(p.x,.ins C p.dx [(f,.ref p.a),(g,.ref p.b)]),(p.dx,.own p.x),(p.a,bM p.a 0 (bc [] [] [])),(p.b,bM p.b 0 (bc [] [] []))]) F (upd (upd H2 b (bM b 0 [])) ax (.ins C dx (gk g (.ref b) [(f,.ref a)]))) σ env:=by
  refine r4.perm ?_ ?_ fun c=>?_
  ·simp [hne,Ne.symm nax,Ne.symm nad,Ne.symm nba,Ne.symm nbx,Ne.symm nbd]
  ·exact p.nd
  ·simp only [MA,MN,or_false,p,show bc [] [] []=[] from rfl]
   constructor
   ·rintro (h | h | h | h) <;> simp [h]
   ·rintro (h | h | h | h) <;> simp [h]
 have fit:CC B (wk X.K C f g p):=fun q hq=>by
  have hh:q=ax∨q=dx∨q=a∨q=b:=by simpa [wk,p] using hq
  have free:∀z,z∉(e8 C ax dx).map (·.1)→H z=none→B.H z=none:=fun z hz h=>by
   rw [← gc (B:=B) (e8 C ax dx) z hz]
   cases hh:(B.gs (e8 C ax dx)).H z with
   | none=>rfl
   | some o=>rw [r.h0 z o hh] at h;cases h
  rcases hh with e | e | e | e
  ·rw [e];exact hbx
  ·rw [e];exact hbd
  ·rw [e];exact free a (by simp [e8,Ne.symm nax,Ne.symm nad]) ha
  ·rw [e];exact free b (by simp [e8,Ne.symm nbx,Ne.symm nbd]) hb0
 have lay0:(wk X.K C f g p).lay ⟨[],[]⟩ F _:=⟨0,[],[],0,[],[],rfl,aO,aO,aO,aO⟩;refine d8 ((hr p).run B σ F _ env (Z p) ⟨[],[]⟩ fit ⟨_,lay0,r5⟩ (hq p rfl rfl)) (fun σ' H' z=>?_) (fun v H' z=>?_) (fun σ' H' z=>?_) (fun σ' H' z=>?_)
 ·exact⟨p,rfl,rfl,ha,hb0,z⟩
 ·exact⟨p,rfl,rfl,ha,hb0,z⟩
 ·obtain⟨S',F',env',_,q⟩:=z;exact⟨p,S',env',q⟩
 ·obtain⟨S',F',env',_,q⟩:=z;exact⟨p,S',env',q⟩
end
abbrev FR:=List D→(S2→Prop)→Prop
def Hc (K:Mn) (C:Addr) (f g:Str) (fw:FR):Sp:=fun vs H Q _=>∃(x dx:Addr) (F:Hp) (ds:List D) (us:List V) (R:S2→Prop),vs=.ref x :: us∧x≠dx∧H x=some (.ins C dx [])∧H dx=some (.own x)∧F x=none∧F dx=none∧ao F H∧aj K F ds us∧fw ds R ∧
 ∀(p:P4) (S:S2) (cs:Cells) (F' H':Hp),p.x=x→p.dx=dx→H p.a=none→H p.b=none→ao F F'→(∀q o,q≠x→q≠dx→H q=some o→H' q=some o)→(wk K C f g p).lay S F' cs→(∀c∈cs,H' c.1=some c.2)→(∀c∈cs,F' c.1=none)→ao F' H' →
  (∀q,H q≠none→F q=none→F' q=none)→R S→Q .non H'
structure qQ (P:Program) (w:World) (K:Mn) (mg:Str→Option Value) (base:Heap) (k:Nat) (x:Str) (C:Addr) (f g:Str) (fw:FR):Prop where
 ex:∃(fa:Addr) (fd:FuncData) (ps:List Str),kW P w K mg base vJ k fa fd ps (Hc K C f g fw)∧Mk K C fa∧mg x=some (.ref C)∧Binds K fd ps []
section
variable {P:Program} {w:World} {K:Mn} {mg:Str→Option Value} {base:Heap}
theorem pU.x9 {x qual cn:Str} {st:Stmt} {fa C:Addr} {f g:Str} {fd:FuncData} {N ps:List Str} {k:Nat} {fw:FR} (F:pU K x qual st fa fd) (S:aI N ps (ak st)) (hm:Mk K C fa) (hmg:mg cn=some (.ref C)) (hb:Binds K fd ps [])
  (hl:∀ds R,fw ds R→ds.length + 1=ps.length)
  (hbody:∀(cdv:Value) (A:Around) (outer:List Env) (s:Shared) (H:Hp) (E:XK),dG k (A.deeper (envOfC qual (ak st) s.heap.objs.size fa cdv)) →
   ∃t:P4→oJ S2,KL (nA vJ P w K mg base N qual (ak st) fa cdv A outer s H E).BF C f g (cA st) t∧∀ds (R:S2→Prop),fw ds R→∀p,t p { nx:=fun S' _=>R S',rt:=fun S' d=>d=.non∧R S' } ⟨[],[]⟩ (aD N (.obj (og p.x) :: ds))) :
  qQ P w K mg base (k + 1) cn C f g fw:=by
 refine⟨fa,fd,ps,F.ok S (fun vs H Q E h=>?_) (fun cdv A outer s H vs Q E hr h=>?_),hm,hmg,hb⟩
 ·obtain⟨x,dx,F0,ds,us,R,rfl,_,_,_,_,_,_,hd,hf,_⟩:=h;rw [MQ,← hd.length];exact hl ds _ hf
 ·obtain⟨x,dx,F0,ds,us,R,rfl,hne,hx,hdx,fx,fdx,fh,hd,hf,kk⟩:=h;obtain⟨t,ht,hq⟩:=hbody cdv A outer s H E hr;refine⟨_,eN,?_⟩;have nd:((e8 C x dx).map (·.1)).Nodup:=by simp [e8,hne]
  have self:Den K F0 (.obj (og x)) (.ref x):=by simp only [Den];exact⟨x,rfl,fun _ _=>rfl⟩
  have r0:=BR (N:=N) (cs:=e8 C x dx) fh (aM self hd) nd (fun c hc=>by
   simp only [e8,MA,MN,or_false] at hc;rcases hc with rfl | rfl
   ·exact hx
   ·exact hdx) (fun q hq=>by
   simp only [e8,MP,List.map_nil,MA,MN,or_false] at hq;rcases hq with rfl | rfl
   ·exact fx
   ·exact fdx)
  have bx:∀q,q=x∨q=dx→(nO F0 H ((e8 C x dx).map (·.1))).H q=none:=fun q hq=>by
   show (if q∈(e8 C x dx).map (·.1) then none else H q)=none
   rw [Mw (by simpa [e8] using hq)]
  have fin:∀(p:P4) (S':S2) (F':Hp) (σ':St) (env':En) (H':Hp),p.x=x→p.dx=dx→H p.a=none→H p.b=none→dR K (nO F0 H ((e8 C x dx).map (·.1))) (wk K C f g p) S' F' H' σ' env'→R S'→Q .non H':=fun p S' F' σ' env' H' e1 e2 e3 e4 ⟨cs',l',r'⟩ q=>by
   have had':=(wk K C f g p).at_ _ _ _ l';have had'':cs'.map (·.1)=[p.x,p.dx,p.a,p.b]:=had';have nd':=pG l';have DZ:∀z,z∈cs'.map (·.1)→F' z=none:=fun z hz=>r'.nf z ((oz cs' z).mpr (.inl hz))
   have sub:∀z,z∈(e8 C x dx).map (·.1)→z∈cs'.map (·.1):=fun z hz=>by
    rw [had'',e1,e2];simp only [e8,MP,List.map_nil,MA,MN,or_false] at hz;rcases hz with e | e <;> simp [e]
   have offs:∀z o,z≠x→z≠dx→H z=some o→z∉cs'.map (·.1):=fun z o n1 n2 hz m=>by
    rw [had'',e1,e2] at m;simp only [MA,MN,or_false] at m;rcases m with e | e | e | e
    ·exact n1 e
    ·exact n2 e
    ·rw [e,e3] at hz;cases hz
    ·rw [e,e4] at hz;cases hz
   refine kk p S' cs' F' H' e1 e2 e3 e4 ?_ (fun z o n1 n2 he=>?_) l' (fun c hc=>r'.cell nd' hc) (fun c hc=>DZ _ (MT.mpr ⟨c,hc,rfl⟩)) r'.fh (fun z h1 h2=>?_) q
   ·have:=r'.f0;rw [u4] at this;exact this
   ·refine r'.h0 z o ?_;rw [gc cs' z (offs z o n1 n2 he)];show (if z∈(e8 C x dx).map (·.1) then none else H z)=some o
    rw [Mo (by simp [e8,n1,n2])];exact he
   ·by_cases m:z∈cs'.map (·.1)
    ·exact DZ z m
    ·exact r'.nf z ((oz cs' z).mpr (.inr ⟨h1,h2,fun w=>m (sub z w)⟩))
  have core:=ht.run _ (start N (.ref x :: us)) F0 H (aD N (.obj (og x) :: ds)) x dx (fun p=>{ nx:=fun S' _=>R S',rt:=fun S' d=>d=.non∧R S' }) hne (bx x (.inl rfl)) (bx dx (.inr rfl)) r0 rfl (fun p e1 e2=>by
   have:=hq ds R hf p
   rw [e1] at this;exact this)
  refine d8 core (fun σ' H' ⟨p,e1,e2,e3,e4,S',F',env',r,q⟩=>?_) (fun v H' ⟨p,e1,e2,e3,e4,S',F',d',r,dd,q⟩=>?_) (fun _ _ ⟨_,_,_,q⟩=>q) (fun _ _ ⟨_,_,_,q⟩=>q)
  ·exact fin p S' F' σ' env' H' e1 e2 e3 e4 r q
  ·obtain⟨q1,q2⟩:=q;subst q1;simp only [Den] at dd;subst dd;exact fin p S' F' [] [] H' e1 e2 e3 e4 r q2
end
section
variable {X:Cx} {e:Expr} {es:List Expr} {ts:ft} {p pos:Pos} {x f g:Str} {C:Addr} {k:Nat} {fw:FR}
def EY (c:Str) (fields:List (Str×D)):Mn→Hp→Addr→Prop:=fun K G p=>∃C,PySem.W.nsIn K mainGlobals c=some (some (.ref C))∧Lz C fields K G p
def KD (c f g:Str) (S:S2):D:=.obj (EY c [(f,.obj (iw S.st)),(g,.obj (iw S.cr))])
def Cd (c f g:Str) (fw:FR) (ts:ft):TD:=fun env Q=>ts env fun ds=>fw ds fun S=>Q (KD c f g S)
theorem Hk (hns:PySem.W.nsIn X.K mainGlobals x=some (some (.ref C))) (h:qQ X.prog X.w X.K X.mg X.base k x C f g fw) (fg:f≠g) (hr:dG (k + 1) X.A) (ha:QA X (e :: es) ts) (hg:Gl X x:=by rfl) (hdb:(x == ("__debug__" : Str))=false:=by decide)
  (he:starEach (e :: es) X.env=(false,eval e X.env) :: starEach es X.env:=by exact bq rfl) (hpl:(backTo pos (starEach es X.env)).any (·.1)=false:=by rfl):QE X (.Call (.Name x p) (e :: es) [] pos) (Cd x f g fw ts):=by
 refine⟨fun B σ F H env Q rp hq=>?_⟩;obtain⟨fa,fd,ps,G,M,hm,hb⟩:=h.ex;refine b8 (ER M G hr hg hm hb .nil zR iO hdb he hpl) ?_;refine cw (ha B σ F H env _ rp hq) fun vs H1 ⟨F1,ds,r1,s1,d1,hf⟩=>?_;intro ax dx hx hdx hne;rw [Nf];have fx:F1 ax=none:=r1.lM hx;have fdx:F1 dx=none:=r1.lM hdx;have up:ao H1 (upd (upd H1 dx (.own ax)) ax (.ins C dx [])):=(cu hdx).trans (cu (by rw [aq (Ne.symm hne)];exact hx))
 refine⟨ax,dx,F1,ds,vs,_,rfl,Ne.symm hne,au,by rw [aq hne,au],fx,fdx,r1.fh.trans up,d1,hf,fun p S cs F' H' e1 e2 e3 e4 a1 a2 l hc hF a5 a6 q=>⟨rfl,?_⟩⟩;have had:cs.map (·.1)=[p.x,p.dx,p.a,p.b]:=(wk X.K C f g p).at_ _ _ _ l;have nd:=pG l;have pnd:=p.nd;have old:∀z,z≠ax→z≠dx→(upd (upd H1 dx (.own ax)) ax (.ins C dx [])) z=H1 z:=fun z n1 n2=>by rw [aq n1,aq n2]
 have npx:∀z,z∈[p.x,p.dx,p.a,p.b]→H1 z=none:=fun z hz=>by
  simp only [M5,MA,MN,or_false,not_or,List.nodup_nil,and_true,not_false_eq_true] at pnd;obtain⟨⟨n1,n2,n3⟩,⟨n4,n5⟩,n6⟩:=pnd;simp only [MA,MN,or_false] at hz;rcases hz with e | e | e | e
  ·rw [e,e1];exact hx
  ·rw [e,e2];exact hdx
  ·rw [e];rw [old _ (by rw [← e1];exact Ne.symm n2) (by rw [← e2];exact Ne.symm n4)] at e3;exact e3
  ·rw [e];rw [old _ (by rw [← e1];exact Ne.symm n3) (by rw [← e2];exact Ne.symm n5)] at e4;exact e4
 have nc:∀c∈cs,H1 c.1=none:=fun c hc=>npx _ (by rw [← had];exact MT.mpr ⟨c,hc,rfl⟩);have r2:=r1.guards cs nd nc
 have r3:Rep X.K (B.gs cs) F' H' σ env:=by
  refine r2.ext a1 a5 (fun z o hz=>?_) (fun z h1 h2=>?_)
  ·by_cases m:z∈cs.map (·.1)
   ·obtain⟨o',hm'⟩:=gu m;have:=zL (H:=H1) nd _ hm';rw [hz] at this;cases this;exact hc _ hm'
   ·rw [mF cs z m] at hz;have n1:z≠ax:=fun w=>by rw [w,hx] at hz;cases hz
    have n2:z≠dx:=fun w=>by rw [w,hdx] at hz;cases hz
    exact a2 z o n1 n2 (by rw [old z n1 n2];exact hz)
  ·by_cases m:z∈cs.map (·.1)
   ·obtain⟨o',hm'⟩:=gu m;exact hF _ hm'
   ·rw [mF cs z m] at h1;have n1:z≠ax:=fun w=>by rw [w] at h1;exact h1 hx
    have n2:z≠dx:=fun w=>by rw [w] at h1;exact h1 hdx
    exact a6 z (by rw [old z n1 n2];exact h1) h2
 obtain⟨F2,s2,r4,h4⟩:=r3.Gv nd (fun c hc=>r1.h0.free (nc c hc));refine⟨F2,_,r4,s1.trans (a1.trans s2),?_,q⟩;have l2:=(wk X.K C f g p).mono _ _ _ _ s2 l;have hob:=h4 _ (rC l2);unfold KD;simp only [Den];refine⟨ax,rfl,fun G2 sG=>?_⟩
 have dic:∀k,∀G3,ao G2 G3→iw (S.get k) X.K G3 (p.at k):=fun k G3 s3=>by
  obtain⟨ep,us,vs',hm',g1,g2⟩:=rA l2 k;exact⟨ep,us,vs',s3 _ _ (sG _ _ (h4 _ hm')),aj.mono (sG.trans s3) _ _ g1,aj.mono (sG.trans s3) _ _ g2⟩
 refine⟨C,hns,p.dx,_,by rw [← e1];exact sG _ _ hob,fun f' d hl=>?_,fun f' hl=>?_⟩
 ·have gf:(g == f)=false:=M7.mpr (Ne.symm fg)
  by_cases c1:f'=f
  ·subst c1;have:d=.obj (iw S.st):=by simpa [List.lookup] using hl.symm
   subst this;exact⟨.ref p.a,by simp [List.lookup],by simp only [Den];exact⟨_,rfl,dic false⟩⟩
  ·have hb1:(f' == f)=false:=M7.mpr c1
   by_cases c2:f'=g
   ·subst c2;have:d=.obj (iw S.cr):=by simpa [List.lookup,hb1] using hl.symm
    subst this;exact⟨.ref p.b,by simp [List.lookup,hb1],by simp only [Den];exact⟨_,rfl,dic true⟩⟩
   ·have hb2:(f' == g)=false:=M7.mpr c2;simp [List.lookup,hb1,hb2] at hl
 ·by_cases c1:f'=f
  ·subst c1;simp [List.lookup] at hl
  ·have hb1:(f' == f)=false:=M7.mpr c1
   by_cases c2:f'=g
   ·subst c2;simp [List.lookup,hb1] at hl
   ·have hb2:(f' == g)=false:=M7.mpr c2;simp [List.lookup,hb1,hb2]
end
section
variable {X:Cx} {c a b:Expr} {tA:TB} {ta tb:ft} {pos:Pos}
def Iy (t:TB) (ta tb:ft):ft:=fun env Q=>t env fun k=>if k=true then ta env Q else tb env Q
theorem RF.weaken {B:Base} {σ:St} {env:En} {F F1:Hp} {Q:List D→Prop} {v:V} {H:Hp} (s:ao F F1) (h:RF X B σ env F1 Q v H):RF X B σ env F Q v H:=by
 obtain⟨F',H1,p,vs,ds,e,hp,e2,r,s',hd,q⟩:=h;exact⟨F',H1,p,vs,ds,e,hp,e2,r,s.trans s',hd,q⟩
theorem JD (hc:QT X c tA) (ha:QF X a ta) (hb:QF X b tb):QF X (.IfExp c a b pos) (Iy tA ta tb):=by
 refine⟨fun B σ F H env Q rp h=>b8 (wJ qW bH bH) ?_⟩;refine gC (hc B σ F H env _ rp h) fun k H1 ⟨F1,r1,s1,q1⟩=>?_
 cases k with
 | true=>exact aA (ha B σ F1 H1 env Q r1 q1) fun v H2 z=>z.weaken s1
 | false=>exact aA (hb B σ F1 H1 env Q r1 q1) fun v H2 z=>z.weaken s1
end
section
variable {X:Cx} {N':List Str} {ix:List Nat} {scope:Scope} {elt iter:Expr} {ifs:List Expr} {x:Str} {px py pos spos:Pos} {tt:TB} {te ti:TD}
def rE (ix:List Nat) (ti:TD) (tt:TB) (te:TD):ft:=fun env Q=>ti env fun d=>∃kvs,d=.obj (iw kvs)∧comps tt te (cp 1 ix env) Q (kvs.map (·.1)) []
theorem AE {F:Hp} {p:Addr} {ep:Nat} {kvs:List (D×D)} {us vs:List V} (hF:F p=some (bM p ep (bc kvs us vs))) (h5:aj X.K F (kvs.map (·.1)) us) (h6:aj X.K F (kvs.map (·.2)) vs):rg X.K (Lc p ep (bc kvs us vs)) F (kvs.map (·.1)):=by
 have hl:(bc kvs us vs).length=(kvs.map (·.1)).length:=by rw [bX h5 h6,My]
 refine⟨fun i G H' s1 s2 hi=>⟨s2 _ _ (s1 _ _ hF),by omega⟩,fun i G H' y H'' x s1 s2 hx ⟨e1,row,hr,e2⟩=>⟨e1,?_⟩,fun G H' s1 s2=>⟨s2 _ _ (s1 _ _ hF),by omega⟩⟩;obtain⟨kv,k1,k2,k3,k4⟩:=dX hr;obtain⟨v,hv',dv'⟩:=h5.get hx;rw [k3] at hv';cases hv';rw [e2];exact Den.mono s1 _ _ dv'
theorem pK {y:Str} (i:Nat) (hNd:X.N.Nodup) (hc:X.calm=true) (O:bI X N' 1 ix scope) (hN:N'.Nodup) (h0:N'[0]?=some x) (hx:(relabel scope X.env).names.lookup x=some .local) (hi:QE X iter ti)
  (ht:∀C s H fp pins,pV (aE X N' scope C s H fp pins) ifs tt) (he:∀C s H fp pins,QE (aE X N' scope C s H fp pins) elt te) (hy:X.N[i]?=some y:=by rfl) (hl:Loc X.env.scope y:=by first | exact Or.inl rfl | exact Or.inr rfl)
  (hsw:swapsWith (.ListComp elt [⟨.Name x px,iter,ifs,0⟩] scope pos) (some (.Name y py)) spos.line X.env=pure true:=by rfl) (hf:X.fn y=true∨X.env.scope.names.lookup y=some .local:=by first | exact .inl rfl | exact .inr rfl)
  (hs:∀x,M3 iter X.env x=pure x:=by intro _;rfl) :
  QS X (.Assign [.Name y py] (.ListComp elt [⟨.Name x px,iter,ifs,0⟩] scope pos) spos) (bY i (cS (rE ix ti tt te))):=by
 refine⟨fun B σ F H env D rp h pins s I=>?_⟩;refine iX hc (Dz bH) O hNd hy hl hsw hf hs pins s σ H _ I ?_;refine aA (hi B σ F H env _ rp h) fun v H1 ⟨F1,d,r1,s1,d1,kvs,ed,q1⟩=>?_;subst ed;simp only [Den] at d1;obtain⟨p,rfl,hpp⟩:=d1;obtain⟨ep,us,vs,hF,h5,h6⟩:=hpp F1 (ao.refl _);refine⟨p,ep,_,rfl,r1.fh _ _ hF,?_⟩;intro a C s fp pins ha;obtain⟨W,w0,step⟩:=gJ (X:=X) (px:=px) hN h0 hx ht he s1 r1 (AE hF h5 h6) q1 a C s fp pins ha
 refine⟨W,w0,fun i' m σ' H' w=>?_⟩;rcases step i' m σ' H' w with ⟨st,z⟩ | z
 ·refine .inl ⟨st,?_⟩;obtain⟨F',d,r',s',hd,q'⟩:=RF.rv (Q:=fun x=>D.nx (env.set i (some (.d x)))) z;refine⟨F',_,r'.set hd ?_,q'⟩;rw [I.len];exact (Mi.mp hy).1
 ·exact .inr z
end
section
variable {X:Cx} {e:Expr} {te:TD} {pos:Pos} {C:Addr} {c:Str}
def jF (c f:Str) (te:TD):TD:=fun env Q=>te env fun x=>∃fields d,x=.obj (EY c fields)∧fields.lookup f=some d∧Q d
theorem oA {f:Str} (hns:PySem.W.nsIn X.K mainGlobals c=some (some (.ref C))) (hc:wN X.K C) (hn:dS X.K C f) (he:QE X e te) (hb:attributeBase e f X.env (eval e X.env)=eval e X.env:=by rfl):QE X (.Attribute e f pos) (jF c f te):=by
 refine⟨fun B σ F H env Q rp h=>b8 (rD bH hb) ?_⟩;refine aA (he B σ F H env _ rp h) fun x H1 ⟨F1,d,r1,s1,d1,fields,d',e1,e2,q⟩=>?_;subst e1;simp only [Den] at d1;obtain⟨a,rfl,hp⟩:=d1;obtain⟨C',hC,dx,fs,hg,hf,_⟩:=hp F1 (ao.refl _);rw [hns] at hC;cases hC;obtain⟨v,hv,dv⟩:=hf f d' e2;exact⟨a,C,dx,fs,v,rfl,r1.fh _ _ hg,hc,hn,hv,F1,d',r1,s1,dv,q⟩
def jj (c m:Str) (f:Fw) (to:TD) (ts:ft):TD:=fun env Q=>to env fun x=>∃fields,x=.obj (EY c fields)∧fields.lookup m=none∧ts env fun ds=>f (.obj (EY c fields) :: ds) Q
theorem qz {m:Str} {f:Fw} {k:Nat} {o a:Expr} {es:List Expr} {to:TD} {ts:ft} {apos:Pos} {pl:Sem Bool} (hns:PySem.W.nsIn X.K mainGlobals c=some (some (.ref C))) (hc:wN X.K C) (h:my X.prog X.w X.K X.mg X.base k C m f) (hr:dG k X.A) (ho:QE X o to) (ha:QA X (a :: es) ts)
  (hst:starEach (a :: es) X.env=(false,eval a X.env) :: starEach es X.env:=by exact bq rfl) (hpl:(backTo pos (starEach es X.env)).any (·.1)=false:=by rfl)
  (ht:eval (.Call (.Attribute o m apos) (a :: es) [] pos) X.env=(do
   let ov ← eval o X.env
   standAt apos.atName
   let (f,first) ← holding [ov] (getMethod ov m pl)
   callWith pos f first (backTo pos (starEach (a :: es) X.env)) (backToKw pos (keywordEach [] X.env))):=by rfl):QE X (.Call (.Attribute o m apos) (a :: es) [] pos) (jj c m f to ts):=by
 refine⟨fun B σ F H env Q rp hq=>?_⟩;obtain⟨fa,fd,ps,G,hm,hb⟩:=h.ex;refine b8 (zq bH hc hm G hr hb .nil zR iO hst hpl ht) ?_;refine aA (ho B σ F H env _ rp hq) fun x H1 ⟨F1,d,r1,s1,d1,fields,e1,e2,q⟩=>?_;subst e1;have d1s:=d1;simp only [Den] at d1;obtain⟨p,rfl,hp⟩:=d1;obtain⟨C',hC,dx,fs,hg,_,hn⟩:=hp F1 (ao.refl _);rw [hns] at hC;cases hC;refine⟨p,dx,fs,rfl,r1.fh _ _ hg,hn m e2,?_⟩;refine cw (ha B σ F1 H1 env _ r1 q) fun vs H2 ⟨F2,ds,r2,s2,d2,hf⟩=>?_
 rw [Nf];exact⟨F2,_ :: ds,Q,r2.fh,aM (Den.mono s2 _ _ d1s) d2,hf,fun d v F' H' a b c n hd q=>⟨F',d,r2.ext a c b n,(s1.trans s2).trans a,hd,q⟩⟩
end
structure l5 (K:Mn) (C:Addr) (m q:Str) (st:Stmt):Prop where
 ex:∃(f:Addr) (oc:Value) (od an:Option Addr) (sl:Array (Option Value)) (kV dc pm cd ct:Value),PySem.W.findIn K (.ref C) m=some (some (.ref f)) ∧
  K.lookup f=some ⟨oc,od,.func (PySem.W.fnOf m q (gD st) (cA st) (ak st) .none kV dc pm an cd ct),sl⟩∧PySem.W.codeIn K cd q=true∧PySem.W.keepIn K (.ref f)=true∧PySem.W.isFn K (.ref f)=true
structure Mt (K:Mn) (C:Addr) (m q:Str) (st:Stmt) (ps:List Str):Prop where
 ex:∃fa fd,pU K m q st fa fd∧Meth K C m fa∧Binds K fd ps []
theorem l5.get {K:Mn} {C:Addr} {m q:Str} {st:Stmt} {ps:List Str} (D:l5 K C m q st)
  (hb:∀(kV doc pm:Value) (an:Option Addr) (cdv ct:Value) (us:List Value),us.length=ps.length→bindArgs (PySem.W.fnOf m q (gD st) (cA st) (ak st) .none kV doc pm an cdv ct) ⟨us,[]⟩=pure (ps.zip us)) :
  ∃fa fd,pU K m q st fa fd∧Meth K C m fa∧Binds K fd ps []:=by
 obtain⟨f,oc,od,an,sl,kV,dc,pm,cd,ct,a,l,c,k,i⟩:=D.ex;have F:=yp l c k;exact⟨f,_,F,⟨a,i,k⟩,F.binds hb⟩
section
variable {P:Program} {w:World} {K:Mn} {mg:Str→Option Value} {base:Heap} {m q f g cn:Str} {C:Addr} {st:Stmt} {N ps:List Str} {k:Nat}
theorem Mt.C3 {fw:Fw} (F:Mt K C m q st ps) (S:aI N ps (ak st)) (hl:∀ds Q,fw ds Q→ds.length=ps.length)
  (hbody:∀(fa:Addr) (cdv:Value) (A:Around) (outer:List Env) (s:Shared) (H:Hp) (E:XK),dG k (A.deeper (envOfC q (ak st) s.heap.objs.size fa cdv)) →
   ∃t,sS (nA vJ P w K mg base N q (ak st) fa cdv A outer s H E).BF (cA st) t∧∀ds (Q:D→Prop),fw ds Q→t { nx:=fun _=>Q .non,rt:=Q } (aD N ds)):my P w K mg base (k + 1) C m fw :=
 let ⟨fa,fd,F,m,b⟩:=F.ex;⟨fa,fd,ps,pU.Hj F S hl (hbody fa),m,b⟩
theorem Mt.uj {fw:Ee} (F:Mt K C m q st ps) (S:aI N ps (ak st)) (hl:∀ds S R,fw ds S R→ds.length + 1=ps.length)
  (hbody:∀(fa:Addr) (cdv:Value) (A:Around) (outer:List Env) (s:Shared) (H:Hp) (E:XK),dG k (A.deeper (envOfC q (ak st) s.heap.objs.size fa cdv)) →
   ∀p:P4,∃t,nE (nA vJ P w K mg base N q (ak st) fa cdv A outer s H E).BF (wk K C f g p) (cA st) t∧∀ds S (R:S2→D→Prop),fw ds S R→t { nx:=fun S' _=>R S' .non,rt:=R } S (aD N (.obj (og p.x) :: ds))) :
  lO P w K mg base (k + 1) C f g m fw :=
 let ⟨fa,_,F,m,b⟩:=F.ex;pU.uj F S m b hl (hbody fa)
theorem Mt.x9 {fw:FR} (F:Mt K C "__init__" q st ps) (S:aI N ps (ak st)) (hmk:PySem.W.makesIn K C=true) (hkp:PySem.W.keepIn K (.ref C)=true) (hmg:mg cn=some (.ref C)) (hl:∀ds R,fw ds R→ds.length + 1=ps.length)
  (hbody:∀(fa:Addr) (cdv:Value) (A:Around) (outer:List Env) (s:Shared) (H:Hp) (E:XK),dG k (A.deeper (envOfC q (ak st) s.heap.objs.size fa cdv)) →
   ∃t:P4→oJ S2,KL (nA vJ P w K mg base N q (ak st) fa cdv A outer s H E).BF C f g (cA st) t∧∀ds (R:S2→Prop),fw ds R→∀p,t p { nx:=fun S' _=>R S',rt:=fun S' d=>d=.non∧R S' } ⟨[],[]⟩ (aD N (.obj (og p.x) :: ds))) :
  qQ P w K mg base (k + 1) cn C f g fw :=
 let ⟨fa,_,F,m,b⟩:=F.ex;pU.x9 F S ⟨hmk,m.at_,m.fn,hkp⟩ hmg b hl (hbody fa)
end
open PySem
structure M4 where
 a:Int
 b:Int
 c:Int
 d:Int
 deriving DecidableEq
namespace M4
def toD (m:M4):D:=.tup [.int m.a,.int m.b,.int m.c,.int m.d]
def mul (m k:M4):M4:=⟨m.a * k.a + m.b * k.c,m.a * k.b + m.b * k.d,m.c * k.a + m.d * k.c,m.c * k.b + m.d * k.d⟩
def neg (m:M4):M4:=⟨-m.a,-m.b,-m.c,-m.d⟩
def det (m:M4):Int:=m.a * m.d - m.b * m.c
def xY (m:M4):Prop:=m.c < 0∨(m.c=0∧m.d < 0)
instance (m:M4):Decidable m.xY:=inferInstanceAs (Decidable (_∨_))
def up (m:M4):M4:=if m.xY then m.neg else m
def B (n:Nat) (m:M4):Prop:=bR n m.a∧bR n m.b∧bR n m.c∧bR n m.d
def T (m:M4):Prop:=m.det=1∧(0 < m.c∨(m.c=0∧m.d=1))
def con (m:M4):M4:=⟨m.d,-m.b,-m.c,m.a⟩
def one:M4:=⟨1,0,0,1⟩
theorem B.mul {n k:Nat} {m l:M4} (h:m.B n) (g:l.B k):(m.mul l).B (n + k + 1):=by
 obtain⟨h1,h2,h3,h4⟩:=h;obtain⟨g1,g2,g3,g4⟩:=g
 have two:∀{x y u v:Int},bR n x→bR k y→bR n u→bR k v→bR (n + k + 1) (x * y + u * v):=fun hx hy hu hv=>by
  have:=bits_add (bits_mul hx hy) (bits_mul hu hv)
  rwa [Nat.max_self] at this
 exact⟨two h1 g1 h2 g3,two h1 g2 h2 g4,two h3 g1 h4 g3,two h3 g2 h4 g4⟩
theorem B.neg {n:Nat} {m:M4} (h:m.B n):m.neg.B n:=⟨bits_neg h.1,bits_neg h.2.1,bits_neg h.2.2.1,bits_neg h.2.2.2⟩
theorem uq {m:M4} (h:m.xY):m.up=m.neg:=Mw h
theorem um {m:M4} (h:¬ m.xY):m.up=m:=Mo h
theorem B.up {n:Nat} {m:M4} (h:m.B n):m.up.B n:=by
 unfold M4.up;split
 ·exact h.neg
 ·exact h
theorem B.le {n k:Nat} {m:M4} (h:m.B n) (hk:n≤k):m.B k:=⟨bits_le h.1 hk,bits_le h.2.1 hk,bits_le h.2.2.1 hk,bits_le h.2.2.2 hk⟩
theorem EA (m:M4):m.neg.det=m.det:=by simp only [det,neg];rw [Int.neg_mul_neg,Int.neg_mul_neg]
theorem nR (m:M4):m.up.det=m.det:=by
 unfold up;split
 ·exact EA m
 ·rfl
theorem cL (m k:M4):(m.mul k).det=m.det * k.det:=by
 simp only [det,mul]
 grind
theorem nF {m:M4} (h:m.det=1):m.up.T:=by
 refine⟨by rw [nR];exact h,?_⟩;unfold det at h;unfold up;have key:∀x y:Int,x * y=1→0≤y→y=1:=fun x y hxy hy=>Int.eq_one_of_dvd_one hy ⟨x,by rw [Int.mul_comm];exact hxy.symm⟩
 by_cases hl:m.xY
 ·rw [Mw hl];rcases hl with hl | ⟨h0,h1⟩
  ·left;show 0 < -m.c;omega
  ·right
   refine⟨by show -m.c=0;omega,?_⟩;show -m.d=1
   rw [h0,Int.mul_zero,Int.sub_zero] at h;exact key (-m.a) (-m.d) (by rw [Int.neg_mul_neg];exact h) (by omega)
 ·rw [Mo hl];unfold xY at hl
  by_cases hc:0 < m.c
  ·exact .inl hc
  ·right
   have h0:m.c=0:=by omega
   refine⟨h0,?_⟩;rw [h0,Int.mul_zero,Int.sub_zero] at h;exact key m.a m.d h (by omega)
theorem Fb {m:M4} (h:m.T):m.up=m:=by
 unfold up;rw [Mo];unfold xY;rcases h.2 with z | ⟨z,y⟩ <;> omega
end M4
abbrev Z2:=Int×Int
def fv (x:Z2):D:=.tup [.int x.1,.int x.2]
def aT (x:Z2):Z2:=(-x.1,-x.2)
def Le (x:Z2):Prop:=x.2 < 0∨(x.2=0∧x.1 < 0)
instance (x:Z2):Decidable (Le x):=inferInstanceAs (Decidable (_∨_))
def act (m:M4) (x:Z2):Z2:=(m.a * x.1 + m.b * x.2,m.c * x.1 + m.d * x.2)
theorem jA (m:M4) (x:Z2):act m (aT x)=aT (act m x):=by
 simp only [act,aT,Prod.mk.injEq];constructor <;> grind
theorem nQ (m:M4) (x:Z2):act m.neg x=aT (act m x):=by
 simp only [act,aT,M4.neg,Prod.mk.injEq];constructor <;> grind
theorem bp (m k:M4) (x:Z2):act (m.mul k) x=act m (act k x):=by
 simp only [act,M4.mul,Prod.mk.injEq];constructor <;> grind
theorem hJ {m:M4} (h:m.det=1) (x:Z2):act m.con (act m x)=x:=by
 obtain⟨p,q⟩:=x;simp only [act,M4.con,Prod.mk.injEq];unfold M4.det at h
 constructor
 ·have:m.d * (m.a * p + m.b * q) + -m.b * (m.c * p + m.d * q)=(m.a * m.d - m.b * m.c) * p:=by grind
  rw [this,h,Int.one_mul]
 ·have:-m.c * (m.a * p + m.b * q) + m.a * (m.c * p + m.d * q)=(m.a * m.d - m.b * m.c) * q:=by grind
  rw [this,h,Int.one_mul]
theorem rF (m:M4):m.up=m∨m.up=m.neg:=by
 unfold M4.up;split
 ·exact .inr rfl
 ·exact .inl rfl
theorem gX (m:M4) (x:Z2):act m.up x=act m x∨act m.up x=aT (act m x):=by
 rcases rF m with e | e <;> rw [e]
 ·exact .inl rfl
 ·exact .inr (nQ m x)
theorem aU (x:Z2):aT (aT x)=x:=by simp [aT]
def Dv (x y z u:D) (Q:D→Prop):Prop:=∃(m:M4) (n:Nat),x=.int m.a∧y=.int m.b∧z=.int m.c∧u=.int m.d∧m.B n∧n≤400000∧m.det=1∧Q m.up.toD
def dj:Fw:=F4 Dv
def oU:bS:=(aJ (iW (aL (aG vS (aG nB (aG jG (af 0) (af 3)) (aG jG (af 1) (af 2))) (cC (.int 1)))) ia bN) (aJ (iW (CB (aL (aG Eg (af 2) (cC (.int 0)))) (sE (aL (aG lh (af 2) (cC (.int 0)))) (aL (aG Eg (af 3) (cC (.int 0)))))) (ck (bQ (ae (vU oZ (af 0)) (ae (vU oZ (af 1)) (ae (vU oZ (af 2)) (ae (vU oZ (af 3)) av)))))) bN) (ck (bQ (ae (af 0) (ae (af 1) (ae (af 2) (ae (af 3) av))))))))
theorem xD:∀ds Q,dj ds Q→ds.length=4:=IZ
theorem yZ:∀ds (Q:D→Prop),dj ds Q→oU { nx:=fun _=>Q .non,rt:=Q } (aD ["a","b","c","d"] ds):=by
 rintro ds Q ⟨x,y,z,u,rfl,m,n,rfl,rfl,rfl,rfl,⟨h1,h2,h3,h4⟩,hn,hd,h⟩
 simp_all_arith only [oU]
 unfold M4.det at hd;refine⟨ff h1 h4 (by omega),ff h2 h3 (by omega),?_⟩;rw [Mo (by omega)]
 by_cases c1:m.c < 0
 ·rw [M4.uq (show m.xY from .inl c1)] at h;rw [Mw c1];exact h
 ·rw [Mo c1]
  by_cases c2:m.c=0
  ·rw [Mw c2]
   by_cases c3:m.d < 0
   ·rw [M4.uq (show m.xY from .inr ⟨c2,c3⟩)] at h;rw [Mw c3];exact h
   ·rw [M4.um (show ¬ m.xY from by unfold M4.xY;omega)] at h;rw [Mo c3];exact h
  ·rw [M4.um (show ¬ m.xY from by unfold M4.xY;omega)] at h;rw [Mo c2];exact h
def G4 (x y:D) (Q:D→Prop):Prop:=∃(m k:M4) (n j:Nat),x=m.toD∧y=k.toD∧m.B n∧k.B j∧n + j < 400000∧m.det=1∧k.det=1∧Q (m.mul k).up.toD
def cO:Fw:=F2 G4
def uC:bS:=(aJ (l7 (af 0) (iC 4 (bO (aV 2) (bO (aV 3) (bO (aV 4) (bO (aV 5) iU)))))) (aJ (l7 (af 1) (iC 4 (bO (aV 6) (bO (aV 7) (bO (aV 8) (bO (aV 9) iU)))))) (ck (az dj (ae (aG fu (aG jG (af 2) (af 6)) (aG jG (af 3) (af 8))) (ae (aG fu (aG jG (af 2) (af 7)) (aG jG (af 3) (af 9))) (ae (aG fu (aG jG (af 4) (af 6)) (aG jG (af 5) (af 8))) (ae (aG fu (aG jG (af 4) (af 7)) (aG jG (af 5) (af 9))) av))))))))
theorem Bs:∀ds Q,cO ds Q→ds.length=2:=kr
theorem Dl:∀ds (Q:D→Prop),cO ds Q→uC { nx:=fun _=>Q .non,rt:=Q } (aD ["one","other","a","b","c","d","e","f","g","h"] ds):=by
 rintro ds Q ⟨x,y,rfl,m,k,n,j,rfl,rfl,hm,hk,hs,hdm,hdk,h⟩;obtain⟨h1,h2,h3,h4⟩:=id hm;obtain⟨g1,g2,g3,g4⟩:=id hk
 simp_all_arith only [uC,M4.toD,dj,FW]
 refine⟨ff h1 g1 (by omega),ff h2 g3 (by omega),ff h1 g2 (by omega),ff h2 g4 (by omega),ff h3 g1 (by omega),ff h4 g3 (by omega),ff h3 g2 (by omega),ff h4 g4 (by omega),?_⟩;exact⟨m.mul k,_,rfl,rfl,rfl,rfl,hm.mul hk,by omega,by rw [M4.cL,hdm,hdk];rfl,h⟩
theorem Ek {m:M4} (h:m.det=1):m.con.det=1:=by unfold M4.det M4.con at *;simp only;grind
def B2 (n:Nat) (x:Z2):Prop:=bR n x.1∧bR n x.2
theorem DD {n m:Nat} {x:Z2} (h:B2 n x) (hm:n≤m):B2 m x:=⟨bits_le h.1 hm,bits_le h.2 hm⟩
theorem Kt:B2 1 ((1,0):Z2):=⟨zI _ _ (by decide),zI _ _ (by decide)⟩
def eV (x y:Z2):M4:=if x.1 * y.2 - x.2 * y.1 = -1 then ⟨x.1,-y.1,x.2,-y.2⟩ else ⟨x.1,y.1,x.2,y.2⟩
def sD (x y:Z2):Prop:=x.1 * y.2 - x.2 * y.1=1∨x.1 * y.2 - x.2 * y.1 = -1
theorem ux {x y:Z2} (h:sD x y):(eV x y).det=1:=by
 unfold eV
 by_cases e:x.1 * y.2 - x.2 * y.1 = -1
 ·rw [Mw e];show x.1 * -y.2 - -y.1 * x.2=1
  have:x.1 * -y.2 - -y.1 * x.2 = -(x.1 * y.2 - x.2 * y.1):=by grind
  rw [this,e];rfl
 ·rw [Mo e];show x.1 * y.2 - y.1 * x.2=1
  have:=h.resolve_right e;rw [Int.mul_comm y.1];exact this
theorem Gx {x y:Z2} {n:Nat} (hx:B2 n x) (hy:B2 n y):(eV x y).B n:=by
 unfold eV;split
 ·exact⟨hx.1,bits_neg hy.1,hx.2,bits_neg hy.2⟩
 ·exact⟨hx.1,hy.1,hx.2,hy.2⟩
def wQ (x y:D) (Q:D→Prop):Prop:=∃(p r:Z2) (n:Nat),x=fv p∧y=fv r∧B2 n p∧B2 n r∧n≤200000∧sD p r∧Q (eV p r).up.toD
def bV:Fw:=F2 wQ
def fi:bS:=(aJ (l7 (af 0) (iC 2 (bO (aV 2) (bO (aV 3) iU)))) (aJ (l7 (af 1) (iC 2 (bO (aV 4) (bO (aV 5) iU)))) (aJ (iW (aL (aG lh (aG nB (aG jG (af 2) (af 5)) (aG jG (af 3) (af 4))) (vU oZ (cC (.int 1))))) (ck (az dj (ae (af 2) (ae (vU oZ (af 4)) (ae (af 3) (ae (vU oZ (af 5)) av)))))) bN) (ck (az dj (ae (af 2) (ae (af 4) (ae (af 3) (ae (af 5) av)))))))))
theorem k8:∀ds Q,bV ds Q→ds.length=2:=kr
theorem l4:∀ds (Q:D→Prop),bV ds Q→fi { nx:=fun _=>Q .non,rt:=Q } (aD ["one","other","p","q","r","s"] ds):=by
 rintro ds Q ⟨x,y,rfl,p,r,n,rfl,rfl,hp,hr,hs,hn,h⟩;obtain⟨h1,h2⟩:=id hp;obtain⟨g1,g2⟩:=id hr
 simp_all_arith only [fi,fv,dj,FW]
 refine⟨ff h1 g2 (by omega),ff h2 g1 (by omega),?_⟩;have hd:=ux hn;have hB:=Gx hp hr;unfold eV at hd hB h
 by_cases e:p.1 * r.2 - p.2 * r.1 = -1
 ·rw [Mw e] at hd hB h ⊢;exact⟨_,n,rfl,rfl,rfl,rfl,hB,by omega,hd,h⟩
 ·rw [Mo e] at hd hB h ⊢;exact⟨_,n,rfl,rfl,rfl,rfl,hB,by omega,hd,h⟩
theorem GB {m:M4} (h:m.det=1):m.neg.up=m.up:=by
 have hne:¬ (m.c=0∧m.d=0):=fun⟨z,w⟩=>by unfold M4.det at h;rw [z,w] at h;simp at h
 have nn:m.neg.neg=m:=by simp [M4.neg]
 by_cases hl:m.xY
 ·rw [M4.uq hl,M4.um];unfold M4.xY M4.neg at *;simp only;omega
 ·rw [M4.um hl,M4.uq,nn];unfold M4.xY M4.neg at *;simp only;omega
theorem Ju {m k:M4} (h:m.det=1) (e:k=m∨k=m.neg):k.up=m.up:=by
 rcases e with rfl | rfl
 ·rfl
 ·exact GB h
theorem jw (m:M4):act m (1,0)=(m.a,m.c):=by simp [act]
theorem iu (m:M4):act m (0,1)=(m.b,m.d):=by simp [act]
theorem Hs (x y:Z2):aY (fv x) (fv y)=decide (x=y):=by
 simp only [fv,aY,dY,Bool.and_true];rw [Bool.eq_iff_iff];simp [Prod.ext_iff]
theorem DR (x:Z2):dep (fv x)=1:=by simp [fv,dep,cB]
theorem Ig {x y:Z2} {Q:D→Prop}:vS (fv x) (fv y) Q=Q (.bl (!decide (x=y))):=by
 unfold vS jB;rw [DR,DR,Hs];simp
theorem DI {m k:M4} (h1:m.a=k.a) (h2:m.b=k.b) (h3:m.c=k.c) (h4:m.d=k.d):m=k:=by cases m;cases k;simp_all
theorem vW (m k:M4):m.neg.mul k=(m.mul k).neg:=by apply DI <;> simp only [M4.mul,M4.neg] <;> grind
theorem xj (m k:M4):m.mul k.neg=(m.mul k).neg:=by apply DI <;> simp only [M4.mul,M4.neg] <;> grind
theorem dU (m k l:M4):(m.mul k).mul l=m.mul (k.mul l):=by apply DI <;> simp only [M4.mul] <;> grind
theorem Cm (m:M4):M4.one.mul m=m:=by apply DI <;> simp only [M4.mul,M4.one] <;> grind
theorem m7 (m:M4):m.mul M4.one=m:=by apply DI <;> simp only [M4.mul,M4.one] <;> grind
theorem rB (m:M4):m.neg.neg=m:=by apply DI <;> simp [M4.neg]
def Eqv (m k:M4):Prop:=m=k∨m=k.neg
theorem Eqv.refl (m:M4):Eqv m m:=.inl rfl
theorem Eqv.symm {m k:M4} (h:Eqv m k):Eqv k m:=by
 rcases h with rfl | rfl
 ·exact .inl rfl
 ·exact .inr (rB k).symm
theorem Eqv.trans {m k l:M4} (h:Eqv m k) (g:Eqv k l):Eqv m l:=by
 rcases h with rfl | rfl
 ·exact g
 ·rcases g with rfl | rfl
  ·exact .inr rfl
  ·rw [rB];exact .inl rfl
theorem Eqv.mul {m m' k k':M4} (h:Eqv m m') (g:Eqv k k'):Eqv (m.mul k) (m'.mul k'):=by
 rcases h with rfl | rfl <;> rcases g with rfl | rfl
 ·exact .inl rfl
 ·exact .inr (xj _ _)
 ·exact .inr (vW _ _)
 ·rw [vW,xj,rB];exact .inl rfl
theorem Eqv.up (m:M4):Eqv m.up m:=rF m
def LC (p q:Int):Prop:=(p < 0∧0 < q)∨(q < 0∧0 < p)
instance (p q:Int):Decidable (LC p q):=inferInstanceAs (Decidable (_∨_))
theorem nI {α:Type} (l:List α) (m:α) (j i:Nat) (hj:j≤l.length):(l.take j ++ m :: l.drop j)[i]?=if i < j then l[i]? else if i=j then some m else l[i - 1]?:=by
 have hl:(l.take j).length=j:=by rw [List.length_take];omega
 by_cases h1:i < j
 ·rw [Mw h1,MC (by omega),List.getElem?_take_of_lt h1]
 ·rw [Mo h1,MF (by omega),hl]
  by_cases h2:i=j
  ·rw [Mw h2,h2,Nat.sub_self];rfl
  ·rw [Mo h2,show i - j=(i - j - 1) + 1 by omega,MS,List.getElem?_drop]
   congr 1;omega
structure wu (k:Nat) (row:List Z2):Prop where
 len:row.length=k + 3
 first:row[0]?=some (-1,0)
 last:row[k + 2]?=some (1,0)
 det:∀(i:Nat) (p r:Z2),row[i]?=some p→row[i + 1]?=some r→p.1 * r.2 - p.2 * r.1 = -1
 low:∀(i:Nat) (p:Z2),row[i]?=some p→0 < i→i < k + 2→1≤p.2
 nought:∃i,0 < i∧i < k + 2∧row[i]?=some (0,1)
 bits:∀p∈row,B2 (k + 2) p
theorem KY:wu 0 [(-1,0),(0,1),(1,0)] where
 len:=rfl
 first:=rfl
 last:=rfl
 det:=fun i p r h1 h2=>by
  match i with
  | 0=>cases h1;cases h2;decide
  | 1=>cases h1;cases h2;decide
  | 2=>cases h2
  | i + 3=>cases h1
 low:=fun i p h h0 h1=>by
  have:i=1:=by omega
  subst this;cases h;decide
 nought:=⟨1,by decide,by decide,rfl⟩
 bits:=fun p hp=>by
  simp only [MA,MN,or_false] at hp;rcases hp with rfl | rfl | rfl <;> exact⟨zI _ _ (by decide),zI _ _ (by decide)⟩
theorem GX {k:Nat} {row:List Z2} (h:wu k row) {at_:Nat} (ha:at_ < k + 2) {p r:Z2} (hp:row[at_]?=some p) (hr:row[at_ + 1]?=some r) :
  wu (k + 1) (row.take (at_ + 1) ++ (p.1 + r.1,p.2 + r.2) :: row.drop (at_ + 1)):=by
 have hl:=h.len;have g:=fun i=>nI row (p.1 + r.1,p.2 + r.2) (at_ + 1) i (by omega);have hd:=h.det at_ p r hp hr
 have pl:0≤p.2:=by
  by_cases z:at_=0
  ·subst z;rw [h.first] at hp;cases hp;decide
  ·have:=h.low at_ p hp (by omega) ha;omega
 have rl:0≤r.2:=by
  by_cases z:at_ + 1=k + 2
  ·rw [z,h.last] at hr;cases hr;decide
  ·have:=h.low (at_ + 1) r hr (by omega) (by omega);omega
 have ne:¬ (p.2=0∧r.2=0):=fun⟨a,b⟩=>by rw [a,b] at hd;simp at hd
 refine⟨by simp;omega,?_,?_,fun i x y h1 h2=>?_,fun i x h1 h0 h2=>?_,?_,fun x hx=>?_⟩
 ·rw [g,Mw (by omega)];exact h.first
 ·rw [g,Mo (by omega),Mo (by omega)];exact h.last
 ·rw [g] at h1 h2
  by_cases c1:i < at_
  ·rw [Mw (by omega)] at h1 h2;exact h.det i x y h1 h2
  ·by_cases c2:i=at_
   ·subst c2;rw [Mw (by omega),hp] at h1;rw [Mo (by omega),Mw rfl] at h2;cases h1;cases h2;show p.1 * (p.2 + r.2) - p.2 * (p.1 + r.1) = -1
    grind
   ·by_cases c3:i=at_ + 1
    ·subst c3;rw [Mo (by omega),Mw rfl] at h1;rw [Mo (by omega),Mo (by omega),Nat.add_sub_cancel,hr] at h2;cases h1;cases h2;show (p.1 + r.1) * r.2 - (p.2 + r.2) * r.1 = -1
     grind
    ·rw [Mo (by omega),Mo c3] at h1;rw [Mo (by omega),Mo (by omega)] at h2;exact h.det (i - 1) x y h1 (by rw [show i - 1 + 1=i + 1 - 1 by omega];exact h2)
 ·rw [g] at h1
  by_cases c1:i < at_ + 1
  ·rw [Mw c1] at h1;exact h.low i x h1 h0 (by omega)
  ·rw [Mo c1] at h1
   by_cases c2:i=at_ + 1
   ·rw [Mw c2] at h1;cases h1;show 1≤p.2 + r.2
    omega
   ·rw [Mo c2] at h1;exact h.low (i - 1) x h1 (by omega) (by omega)
 ·obtain⟨i,h0,h1,h2⟩:=h.nought
  by_cases c1:i < at_ + 1
  ·exact⟨i,h0,by omega,by rw [g,Mw c1];exact h2⟩
  ·exact⟨i + 1,by omega,by omega,by rw [g,Mo (by omega),Mo (by omega),Nat.add_sub_cancel];exact h2⟩
 ·have hm:∀y∈row,B2 (k + 1 + 2) y:=fun y hy=>DD (h.bits y hy) (by omega);rcases MR.mp hx with hx | hx
  ·exact hm x (List.mem_of_mem_take hx)
  ·rcases MA.mp hx with rfl | hx
   ·have b1:=h.bits p (Mu hp);have b2:=h.bits r (Mu hr)
    have e:∀{x y:Int},bR (k + 2) x→bR (k + 2) y→bR (k + 1 + 2) (x + y):=fun hx hy=>by
     have:=bits_add hx hy;rw [Nat.max_self] at this;exact bits_le this (by omega)
    exact⟨e b1.1 b2.1,e b1.2 b2.2⟩
   ·exact hm x (List.mem_of_mem_drop hx)
structure aw (n:Nat) (fs:List Z2):Prop where
 len:fs.length=n
 two:2≤n
 most:n≤22
 first:fs[0]?=some (1,0)
 det0:∀p,fs[1]?=some p→p.2=1
 det:∀(i:Nat) (p r:Z2),0 < i→fs[i]?=some p→fs[i + 1]?=some r→p.1 * r.2 - p.2 * r.1 = -1
 last:∀p,fs[n - 1]?=some p→p.2=1
 low:∀(i:Nat) (p:Z2),fs[i]?=some p→0 < i→1≤p.2
 nought:(0,1)∈fs
 bits:∀p∈fs,B2 30 p
theorem CQ {k:Nat} {row:List Z2} (h:wu k row) (hk:k≤20):aw (k + 2) ((1,0) :: (row.drop 1).take (k + 1)):=by
 have hl:=h.len
 have g:∀i,0 < i→i < k + 2→((1,0) :: (row.drop 1).take (k + 1))[i]?=row[i]?:=fun i h0 h1=>by
  rw [show i=(i - 1) + 1 by omega,MS,List.getElem?_take_of_lt (by omega),List.getElem?_drop]
  congr 1;omega
 have len:((1,0) :: (row.drop 1).take (k + 1)).length=k + 2:=by simp;omega
 have lt:∀(i:Nat) (p:Z2),((1,0) :: (row.drop 1).take (k + 1))[i]?=some p→i < k + 2:=fun i p hp=>by
  have:=(Mi.mp hp).1;omega
 refine⟨len,by omega,by omega,rfl,fun p hp=>?_,fun i p r h0 h1 h2=>?_,fun p hp=>?_,fun i p hp h0=>?_,?_,fun p hp=>?_⟩
 ·rw [g 1 (by omega) (by omega)] at hp;have:=h.det 0 _ p h.first hp;simp at this;omega
 ·rw [g i h0 (lt _ _ h1)] at h1;rw [g (i + 1) (by omega) (lt _ _ h2)] at h2;exact h.det i p r h1 h2
 ·rw [show k + 2 - 1=k + 1 by omega,g (k + 1) (by omega) (by omega)] at hp;have:=h.det (k + 1) p _ hp h.last;simp at this;omega
 ·have:=lt _ _ hp;rw [g i h0 this] at hp;exact h.low i p hp h0 this
 ·obtain⟨i,h0,h1,h2⟩:=h.nought;exact Mu (i:=i) (by rw [g i h0 h1];exact h2)
 ·rcases MA.mp hp with rfl | hp
  ·exact DD Kt (by decide)
  ·exact DD (h.bits p (List.mem_of_mem_drop (List.mem_of_mem_take hp))) (by omega)
theorem gF {α:Type} (f:α→D) (l:List α) (i:Nat) (x:α) (h:l[i]?=some x):lD (l.map f) (i:Int)=some (f x):=by
 rw [qq (by omega) (by have:=(Mi.mp h).1;simp;omega)];simp [h]
theorem zp {x:Z2} {Q:D→Prop}:cX (fv x) (.int 0) Q=Q (.int x.1):=by
 apply propext;constructor
 ·rintro⟨v,e,h⟩;cases e;exact h
 ·intro h;exact⟨_,rfl,h⟩
theorem zU {x:Z2} {Q:D→Prop}:cX (fv x) (.int 1) Q=Q (.int x.2):=by
 apply propext;constructor
 ·rintro⟨v,e,h⟩;cases e;exact h
 ·intro h;exact⟨_,rfl,h⟩
inductive Mk where
 | half | aB | gap (j:Nat)
 deriving DecidableEq
def jx:Mk→D
 | .half=>.str "half"
 | .aB=>.str "third"
 | .gap j=>.int j
structure lS (n:Nat) (ms:List Mk):Prop where
 len:ms.length=n
 pair:∀(i j:Nat),ms[i]?=some (Mk.gap j)→j≠i∧ms[j]?=some (Mk.gap i)
 few:n=2→Mk.aB∈ms∧∀(i j:Nat),ms[i]?≠some (Mk.gap j)
structure iq (n:Nat) (left:List Nat) (ms:List Mk):Prop where
 len:ms.length=n
 nd:left.Nodup
 lt:∀i∈left,i < n
 free:∀i∈left,ms[i]?=some Mk.half
 pair:∀(i j:Nat),ms[i]?=some (Mk.gap j)→j≠i∧ms[j]?=some (Mk.gap i)
theorem iq.aB {n g:Nat} {left:List Nat} {ms:List Mk} (h:iq n (g :: left) ms):iq n left (ms.set g .aB):=by
 have hg:=h.free g MO;have hnd:=M5.mp h.nd;refine⟨by rw [List.length_set];exact h.len,hnd.2,fun i hi=>h.lt i (MB _ hi),fun i hi=>?_,fun i j hij=>?_⟩
 ·rw [Ml (fun z=>by subst z;exact hnd.1 hi)];exact h.free i (MB _ hi)
 ·have hig:g≠i:=fun z=>by
   subst z;rw [Mx (by rw [h.len];exact h.lt _ MO)] at hij;cases hij
  rw [Ml hig] at hij;obtain⟨h1,h2⟩:=h.pair i j hij;refine⟨h1,?_⟩;have:g≠j:=fun z=>by subst z;rw [hg] at h2;cases h2
  rw [Ml this];exact h2
theorem iq.skip {n g:Nat} {left:List Nat} {ms:List Mk} (h:iq n (g :: left) ms):iq n left ms :=
 ⟨h.len,(M5.mp h.nd).2,fun i hi=>h.lt i (MB _ hi),fun i hi=>h.free i (MB _ hi),h.pair⟩
theorem iq.two {n g o k:Nat} {left:List Nat} {ms:List Mk} (h:iq n (g :: left) ms) (ho:left[k]?=some o):iq n (left.eraseIdx k) ((ms.set g (.gap o)).set o (.gap g)):=by
 have hg:=h.free g MO;have hnd:=M5.mp h.nd;have om:o∈left:=Mu ho;have hoh:=h.free o (MB _ om);have ne:g≠o:=fun z=>hnd.1 (z▸om);have gl:g < ms.length:=by rw [h.len];exact h.lt _ MO
 have ol:o < ms.length:=by rw [h.len];exact h.lt _ (MB _ om)
 have sub:∀i∈left.eraseIdx k,i∈left∧i≠o:=fun i hi=>by
  refine⟨List.mem_of_mem_eraseIdx hi,fun z=>?_⟩;subst z;obtain⟨j,hj1,hj2⟩:=List.mem_eraseIdx_iff_getElem?.mp hi;obtain⟨hk,ek⟩:=Mi.mp ho;obtain⟨hj,ej⟩:=Mi.mp hj2;exact hj1 ((List.getElem_inj (h₀:=hj) (h₁:=hk) hnd.2).mp (by rw [ej,ek]))
 have get:∀i,((ms.set g (.gap o)).set o (.gap g))[i]?=if i=o then some (.gap g) else if i=g then some (.gap o) else ms[i]?:=fun i=>by
  by_cases c1:i=o
  ·subst c1;rw [Mw rfl,Mx (by rw [List.length_set];exact ol)]
  ·rw [Mo c1,Ml (Ne.symm c1)]
   by_cases c2:i=g
   ·subst c2;rw [Mw rfl,Mx gl]
   ·rw [Mo c2,Ml (Ne.symm c2)]
 refine⟨by rw [List.length_set,List.length_set];exact h.len,hnd.2.eraseIdx k,fun i hi=>h.lt i (MB _ (sub i hi).1),fun i hi=>?_,fun i j hij=>?_⟩
 ·obtain⟨h1,h2⟩:=sub i hi;rw [get,Mo h2,Mo (fun z=>by subst z;exact hnd.1 h1)];exact h.free i (MB _ h1)
 ·rw [get] at hij
  by_cases c1:i=o
  ·rw [Mw c1] at hij;cases hij;subst c1;exact⟨ne,by rw [get,Mo ne,Mw rfl]⟩
  ·rw [Mo c1] at hij
   by_cases c2:i=g
   ·rw [Mw c2] at hij;cases hij;subst c2;exact⟨Ne.symm ne,by rw [get,Mw rfl]⟩
   ·rw [Mo c2] at hij;obtain⟨h1,h2⟩:=h.pair i j hij;refine⟨h1,?_⟩;rw [get,Mo (fun z=>by subst z;rw [hoh] at h2;cases h2),Mo (fun z=>by subst z;rw [hg] at h2;cases h2)];exact h2
theorem Dp {α β:Type} (f:α→β):∀(l:List α) (k:Nat),(l.map f).eraseIdx k=(l.eraseIdx k).map f
 | [],_=>rfl
 | _ :: _,0=>rfl
 | a :: l,k + 1=>by show f a :: (l.map f).eraseIdx k=f a :: (l.eraseIdx k).map f;rw [Dp f l k]
theorem FA (ms:List Mk):cB (ms.map jx)=0:=by
 induction ms with
 | nil=>rfl
 | cons m r ih=>rw [MP];simp only [cB,ih];cases m <;> rfl
theorem tO (l:List Nat):cB (l.map fun (i:Nat)=>D.int i)=0:=by
 induction l with
 | nil=>rfl
 | cons m r ih=>rw [MP];simp only [cB,ih,dep];rfl
theorem A5 (ms:List Mk):((ms.map jx).any fun e=>aY e (.str "third"))=decide (Mk.aB∈ms):=by
 induction ms with
 | nil=>rfl
 | cons m r ih =>
  rw [MP,List.any_cons,ih]
  cases m with
  | half =>
   rw [show aY (jx .half) (.str "third")=false by decide]
   simp
  | aB=>rw [show aY (jx .aB) (.str "third")=true by decide];simp
  | gap j=>rw [show aY (jx (.gap j)) (.str "third")=false from rfl];simp
def aF (l:List Nat):List D:=l.map fun (i:Nat)=>D.int i
structure bh (fs:List Z2) (ms:List Mk):Prop where
 fr:aw fs.length fs
 mar:lS fs.length ms
def iz (fs:List Z2) (ms:List Mk):D:=.tup [.tup (fs.map fv),.tup (ms.map jx)]
def aP (fs:List Z2) (g:Nat):Z2:=fs.getD g (1,0)
def gE (fs:List Z2) (g:Nat):Z2:=fs.getD ((g + 1) % fs.length) (1,0)
def aK (fs:List Z2) (g:Nat):M4:=(eV (aP fs g) (gE fs g)).up
theorem getD_some {α:Type} {l:List α} {i:Nat} {d:α} (h:i < l.length):l[i]?=some (l.getD i d):=by
 rw [Nt,Mm h];rfl
section
variable {fs:List Z2} {n:Nat} {g:Nat}
theorem de (hg:g < fs.length):fs[g]?=some (aP fs g):=getD_some hg
theorem vb (hg:g < fs.length):fs[(g + 1) % fs.length]?=some (gE fs g):=getD_some (Nat.mod_lt _ (by omega))
theorem qT (h:aw fs.length fs) (hg:g < fs.length):sD (aP fs g) (gE fs g):=by
 have hp:=de hg;have hr:=vb hg;have h2:=h.two
 by_cases e:g + 1=fs.length
 ·rw [e,Nat.mod_self] at hr;have h0:=h.first;rw [hr] at h0;have e0:gE fs g=(1,0):=Mq h0;have hl:=h.last _ (by rw [← e,Nat.add_sub_cancel];exact hp);rw [e0]
  right
  show (aP fs g).1 * 0 - (aP fs g).2 * 1 = -1
  omega
 ·rw [Nat.mod_eq_of_lt (by omega)] at hr
  by_cases z:g=0
  ·subst z;have h0:=h.first;rw [hp] at h0;have e0:aP fs 0=(1,0):=Mq h0;have:=h.det0 _ hr;rw [e0]
   left
   show (1:Int) * (gE fs 0).2 - 0 * (gE fs 0).1=1
   omega
  ·exact .inr (h.det g _ _ (by omega) hp hr)
theorem u9 (h:aw fs.length fs) (hg:g < fs.length):B2 30 (aP fs g):=h.bits _ (Mu (de hg))
theorem C0 (h:aw fs.length fs) (hg:g < fs.length):B2 30 (gE fs g):=h.bits _ (Mu (vb hg))
theorem ib (h:aw fs.length fs) (hg:g < fs.length):(aK fs g).T:=M4.nF (ux (qT h hg))
theorem Dr (h:aw fs.length fs) (hg:g < fs.length):(aK fs g).B 30:=(Gx (u9 h hg) (C0 h hg)).up
end
theorem CH {fs:List Z2} {ms:List Mk} {Q:D→Prop}:cX (iz fs ms) (.int 0) Q=Q (.tup (fs.map fv)):=by
 apply propext;constructor
 ·rintro⟨v,e,h⟩;cases e;exact h
 ·intro h;exact⟨_,rfl,h⟩
theorem HQ {fs:List Z2} {ms:List Mk} {Q:D→Prop}:cX (iz fs ms) (.int 1) Q=Q (.tup (ms.map jx)):=by
 apply propext;constructor
 ·rintro⟨v,e,h⟩;cases e;exact h
 ·intro h;exact⟨_,rfl,h⟩
theorem rm {α:Type} {f:α→D} {l:List α} {i:Nat} {x:α} {Q:D→Prop} (h:l[i]?=some x) (q:Q (f x)):cX (.tup (l.map f)) (.int (i:Int)) Q:=⟨_,gF f l i x h,q⟩
def Kf (x y:D) (Q:D→Prop):Prop:=∃(fs:List Z2) (ms:List Mk) (g:Nat),x=iz fs ms∧y=.int g∧aw fs.length fs∧g < fs.length∧Q (aK fs g).toD
def di:Fw:=F2 Kf
def ie:bS:=(aJ (bY 2 (aG cX (af 0) (cC (.int 0)))) (aJ (bY 3 (FE (aL (aG Eg (aG fu (af 1) (cC (.int 1))) (az gy (ae (af 2) av)))) (aG cX (af 2) (aG fu (af 1) (cC (.int 1)))) (cC (.tup [.int 1,.int 0])))) (ck (az bV (ae (aG cX (af 2) (af 1)) (ae (af 3) av))))))
theorem p9:∀ds Q,di ds Q→ds.length=2:=kr
theorem rk:∀ds (Q:D→Prop),di ds Q→ie { nx:=fun _=>Q .non,rt:=Q } (aD ["fan","gap","fractions","behind"] ds):=by
 rintro ds Q ⟨x,y,rfl,fs,ms,g,rfl,rfl,hf,hg,h⟩
 simp_arith only [ie,CH,bV,fX,My]
 have hr:=vb hg
 have fin:∀r:D,r=fv (gE fs g)→cX (.tup (fs.map fv)) (.int (g:Int)) fun x=>wQ x r Q:=fun r er=>by
  subst er;exact rm (de hg) ⟨_,_,30,rfl,rfl,u9 hf hg,C0 hf hg,by decide,qT hf hg,h⟩
 by_cases c:(g:Int) + 1 < fs.length
 ·rw [Mw c];rw [Nat.mod_eq_of_lt (by omega)] at hr;exact rm (i:=g + 1) hr (fin _ rfl)
 ·rw [Mo c];refine fin _ ?_;have e:g + 1=fs.length:=by omega
  rw [e,Nat.mod_self,hf.first] at hr;have e0:gE fs g=(1,0):=(Mq hr).symm;rw [e0];rfl
theorem HY {m k:M4} (hk:k.det=1) (e:Eqv m k):m.up=k.up:=Ju hk e
theorem IV {m:M4} (h:m.T):m.up=m:=M4.Fb h
theorem Fn {m:M4} (h:m.det=1):m.mul m.con=M4.one:=by
 unfold M4.det at h;apply DI <;> simp only [M4.mul,M4.con,M4.one] <;> grind
def hS:M4:=⟨0,-1,1,0⟩
def hR:M4:=⟨0,-1,1,-1⟩
section
variable {fs:List Z2} {ms:List Mk} {g:Nat} {m:Mk}
theorem qD (h:bh fs ms) {j:Nat} (hm:ms[g]?=some (.gap j)):j < fs.length:=by
 have:=(Mi.mp (h.mar.pair g j hm).2).1;rw [h.mar.len] at this;exact this
end
open PySem L2
def eT (u v:Z2):Int:=u.1 * v.2 - u.2 * v.1
theorem wY (u v w:Z2):eT u w * v.2=eT u v * w.2 + eT v w * u.2:=by unfold eT;grind
theorem xM {a b:Int} (h:a * b < 0) (hb:0 < b):a < 0:=by
 by_cases c:a < 0
 ·exact c
 ·have:=Int.mul_nonneg (show 0≤a by omega) (Int.le_of_lt hb);omega
theorem sr {a b:Int} (h:a * b = -1) (hb:0 < b):b=1 :=
 Int.eq_one_of_dvd_one (Int.le_of_lt hb) ⟨-a,by rw [Ny,Int.mul_comm,h];rfl⟩
theorem aw.lt {n:Nat} {fs:List Z2} (h:aw n fs):∀(k i:Nat) (u w:Z2),0 < i→fs[i]?=some u→fs[i + k + 1]?=some w→eT u w < 0
 | 0,i,u,w,h0,hu,hw=>by
  have:=h.det i u w h0 hu hw
  unfold eT;omega
 | k + 1,i,u,w,h0,hu,hw=>by
  have hl:=(Mi.mp hw).1;obtain⟨v,hv⟩:∃v,fs[i + k + 1]?=some v:=⟨fs[i + k + 1]'(by omega),Mm _⟩;have h1:=aw.lt h k i u v h0 hu hv;have h2:eT v w = -1:=h.det (i + k + 1) v w (by omega) hv hw;have qu:=h.low i u hu h0;have qv:=h.low _ v hv (by omega);have qw:=h.low _ w hw (by omega);have e:=wY u v w;rw [h2] at e;have a1:eT u v * w.2 < 0:=Int.mul_neg_of_neg_of_pos h1 (by omega);have a2:eT u w * v.2 < 0:=by rw [e];omega
  exact xM a2 (by omega)
theorem aw.inj {n:Nat} {fs:List Z2} (h:aw n fs) {i j:Nat} {u:Z2} (hi:fs[i]?=some u) (hj:fs[j]?=some u):i=j:=by
 have self:eT u u=0:=by unfold eT;rw [Int.mul_comm];omega
 have top:∀k:Nat,0 < k→fs[k]?≠some (1,0):=fun k hk e=>by have:=h.low k _ e hk;simp at this
 rcases Nat.lt_trichotomy i j with c | c | c
 ·exfalso
  by_cases z:0 < i
  ·have:=h.lt (j - i - 1) i u u z hi (by rw [show i + (j - i - 1) + 1=j by omega];exact hj);omega
  ·have z':i=0:=by omega
   subst z';rw [h.first] at hi;cases hi;exact top j (by omega) hj
 ·exact c
 ·exfalso
  by_cases z:0 < j
  ·have:=h.lt (i - j - 1) j u u z hj (by rw [show j + (i - j - 1) + 1=i by omega];exact hi);omega
  ·have z':j=0:=by omega
   subst z';rw [h.first] at hj;cases hj;exact top i (by omega) hi
structure Iu (n:Nat) (fs:List Z2) (i:Nat) (u v w:Z2):Prop where
 i0:0 < i
 il:i < n
 near:fs[i - 1]?=some u
 mid:fs[i]?=some v
 far:fs[(i + 1) % n]?=some w
 ne:v≠(0,1)
 one:(eT u w).natAbs=1
theorem Ai {n:Nat} {fs:List Z2} (h:aw n fs) (m:Nat):∀k,k≤n→0 < k→(∀i,0 < i→i < k→∀p,fs[i]?=some p→p.2≤m)∨∃i p,0 < i∧i < k∧fs[i]?=some p∧(m:Int) < p.2∧∀j,0 < j→j < k→∀r,fs[j]?=some r→r.2≤p.2
 | 0,_,h0=>absurd h0 (by decide)
 | 1,_,_=>.inl fun i hi h1=>by omega
 | k + 2,hk,_=>by
  have hl:=h.len;obtain⟨p,hp⟩:∃p,fs[k + 1]?=some p:=⟨fs[k + 1]'(by omega),Mm _⟩;rcases Ai h m (k + 1) (by omega) (by omega) with a | ⟨i,r,i0,il,hr,hm,a⟩
  ·by_cases c:p.2≤m
   ·refine .inl fun i h0 h1 r hr=>?_;rcases M9.mp h1 with z | z
    ·exact a i h0 z r hr
    ·subst z;rw [hp] at hr;cases hr;exact c
   ·refine .inr ⟨k + 1,p,by omega,by omega,hp,by omega,fun j h0 h1 r hr=>?_⟩;rcases M9.mp h1 with z | z
    ·have:=a j h0 z r hr;omega
    ·subst z;rw [hp] at hr;cases hr;exact Int.le_refl _
  ·by_cases c:p.2≤r.2
   ·refine .inr ⟨i,r,i0,by omega,hr,hm,fun j h0 h1 q hq=>?_⟩;rcases M9.mp h1 with z | z
    ·exact a j h0 z q hq
    ·subst z;rw [hp] at hq;cases hq;exact c
   ·refine .inr ⟨k + 1,p,by omega,by omega,hp,by omega,fun j h0 h1 q hq=>?_⟩;rcases M9.mp h1 with z | z
    ·have:=a j h0 z q hq;omega
    ·subst z;rw [hp] at hq;cases hq;exact Int.le_refl _
theorem HI {n:Nat} {fs:List Z2} (h:aw n fs) (hn:2 < n):∃i u v w,Iu n fs i u v w:=by
 have hl:=h.len;have at_:∀i,i < n→∃p,fs[i]?=some p:=fun i hi=>⟨fs[i]'(by omega),Mm _⟩;rcases Ai h 1 n (Mv _) (by omega) with a | ⟨i,v,i0,il,hv,hm,a⟩
 ·
  obtain⟨p1,h1⟩:=at_ 1 (by omega);obtain⟨p2,h2⟩:=at_ 2 hn;obtain⟨pl,hpl⟩:=at_ (n - 1) (by omega);obtain⟨pk,hpk⟩:=at_ (n - 2) (by omega);have q2:p2.2=1:=by have:=a 2 (by omega) hn p2 h2;have:=h.low 2 p2 h2 (by omega);omega
  have qk:pk.2=1:=by have:=a (n - 2) (by omega) (by omega) pk hpk;have:=h.low _ pk hpk (by omega);omega
  by_cases c:p1=(0,1)
  ·have cl:pl≠(0,1):=fun e=>by
    have:=h.inj (i:=1) (j:=n - 1) (u:=(0,1)) (by rw [h1,c]) (by rw [hpl,e]);omega
   refine⟨n - 1,pk,pl,(1,0),by omega,by omega,by rw [show n - 1 - 1=n - 2 by omega];exact hpk,hpl,?_,cl,?_⟩
   ·rw [show n - 1 + 1=n by omega,Nat.mod_self];exact h.first
   ·unfold eT;show (pk.1 * 0 - pk.2 * 1).natAbs=1;rw [qk];simp
  ·refine⟨1,(1,0),p1,p2,by omega,by omega,h.first,h1,?_,c,?_⟩
   ·rw [Nat.mod_eq_of_lt (by omega)];exact h2
   ·unfold eT;show (1 * p2.2 - 0 * p2.1).natAbs=1;rw [q2];simp
 ·
  have i1:1 < i:=by
   rcases Nn 1 i with c | c
   ·exact c
   ·have:i=1:=by omega
    subst this;have:=h.det0 v hv;omega
  have i2:i + 1 < n:=by
   rcases Nn (i + 1) n with c | c
   ·exact c
   ·have:i=n - 1:=by omega
    subst this;have:=h.last v hv;omega
  obtain⟨u,hu⟩:=at_ (i - 1) (by omega);obtain⟨w,hw⟩:=at_ (i + 1) i2;have d1:eT u v = -1:=h.det (i - 1) u v (by omega) hu (by rw [show i - 1 + 1=i by omega];exact hv);have d2:eT v w = -1:=h.det i v w i0 hv hw;have qu:=h.low _ u hu (by omega);have qw:=h.low _ w hw (by omega);have mu:=a (i - 1) (by omega) (by omega) u hu;have mw:=a (i + 1) (by omega) i2 w hw;have e:=wY u v w;rw [d1,d2] at e;refine⟨i,u,v,w,i0,il,hu,hv,by rw [Nat.mod_eq_of_lt i2];exact hw,fun z=>by rw [z] at hm;simp at hm,?_⟩
  have nu:u.2≠v.2:=fun z=>by
   unfold eT at d1;rw [z,Int.mul_comm v.2] at d1;have:(u.1 - v.1) * v.2 = -1:=by rw [Int.sub_mul];exact d1
   have:=sr this (by omega);omega
  have nw:w.2≠v.2:=fun z=>by
   unfold eT at d2;rw [z,Int.mul_comm v.2] at d2;have:(v.1 - w.1) * v.2 = -1:=by rw [Int.sub_mul];exact d2
   have:=sr this (by omega);omega
  have lo:eT u w * v.2 < 0:=by rw [e];omega
  have hi:-(2 * v.2) < eT u w * v.2:=by rw [e];omega
  have l1:eT u w < 0:=xM lo (by omega)
  have l2:-2 < eT u w:=by
   by_cases c:-2 < eT u w
   ·exact c
   ·have:=Int.mul_le_mul_of_nonneg_right (show eT u w≤-2 by omega) (show 0≤v.2 by omega);omega
  omega
theorem vD {α:Type} (l:List α) (i j:Nat):(l.eraseIdx i)[j]?=if j < i then l[j]? else l[j + 1]?:=List.getElem?_eraseIdx ..
theorem aw.cut {n:Nat} {fs:List Z2} (h:aw n fs) (hn:2 < n) {i:Nat} {u v w:Z2} (e:Iu n fs i u v w):aw (n - 1) (fs.eraseIdx i):=by
 have hl:=h.len;have i0:=e.i0;have il:=e.il;have hu:=e.near;have hw:=e.far;have one:=e.one;have g:=fun j=>vD fs i j;have sub:∀p,p∈fs.eraseIdx i→p∈fs:=fun p hp=>List.mem_of_mem_eraseIdx hp;refine⟨by rw [List.length_eraseIdx,Mw (by omega)];omega,by omega,by have:=h.most;omega,?_,fun p hp=>?_,fun j p r j0 hp hr=>?_,fun p hp=>?_,fun j p hp j0=>?_,?_,fun p hp=>h.bits p (sub p hp)⟩
 ·rw [g,Mw i0];exact h.first
 ·rw [g] at hp
  by_cases c:1 < i
  ·rw [Mw c] at hp;exact h.det0 p hp
  ·have:i=1:=by omega
   subst this;rw [Mo c] at hp;rw [Nat.mod_eq_of_lt (by omega)] at hw;rw [hw] at hp;cases hp;rw [h.first] at hu;cases hu;have:=h.low _ w hw (by omega);unfold eT at one;simp at one;omega
 ·rw [g] at hp hr
  by_cases c:j + 1 < i
  ·rw [Mw (by omega)] at hp;rw [Mw c] at hr;exact h.det j p r j0 hp hr
  ·rw [Mo c] at hr
   by_cases c2:j + 1=i
   ·rw [Mw (by omega)] at hp;rw [show i - 1=j by omega,hp] at hu;cases hu;have:=(Mi.mp hr).1;rw [Nat.mod_eq_of_lt (by omega),← c2,hr] at hw;cases hw;have:=h.lt 1 j _ _ j0 hp hr;show eT _ _ = -1
    omega
   ·rw [Mo (by omega)] at hp;exact h.det (j + 1) p r (by omega) hp hr
 ·rw [g] at hp
  by_cases c:i=n - 1
  ·rw [Mw (by omega),show n - 1 - 1=i - 1 by omega,hu] at hp;cases hp;rw [c,show n - 1 + 1=n by omega,Nat.mod_self,h.first] at hw;cases hw;have:=h.low _ u hu (by omega);unfold eT at one;simp at one;omega
  ·rw [Mo (by omega),show n - 1 - 1 + 1=n - 1 by omega] at hp;exact h.last p hp
 ·rw [g] at hp
  by_cases c:j < i
  ·rw [Mw c] at hp;exact h.low j p hp j0
  ·rw [Mo c] at hp;exact h.low (j + 1) p hp (by omega)
 ·obtain⟨k,hk⟩:=MJ h.nought;have hk':=(Mi.mp hk).1;have ne:k≠i:=fun z=>by rw [z,e.mid] at hk;exact e.ne (Mq hk)
  by_cases c:k < i
  ·exact Mu (i:=k) (by rw [g,Mw c];exact hk)
  ·exact Mu (i:=k - 1) (by rw [g,Mo (by omega),show k - 1 + 1=k by omega];exact hk)
abbrev oy:=Z2×Z2
def nx (n i:Nat):Nat:=if i + 1=n then 0 else i + 1
def Bd (row:List Z2) (e:oy):Prop:=∃i,row[i]?=some e.1∧row[nx row.length i]?=some e.2
def Inj (row:List Z2):Prop:=∀(i j:Nat) (u:Z2),row[i]?=some u→row[j]?=some u→i=j
theorem za {n i:Nat} (h:i < n):(i + 1) % n=nx n i:=by
 unfold nx
 by_cases c:i + 1=n
 ·rw [Mw c,c,Nat.mod_self]
 ·rw [Mo c,Nat.mod_eq_of_lt (by omega)]
theorem CS {row:List Z2} (hi:Inj row) {i:Nat} {u v w:Z2} (i0:0 < i) (h2:2 < row.length)
  (hu:row[i - 1]?=some u) (hv:row[i]?=some v) (hw:row[nx row.length i]?=some w) (e:oy) :
  Bd (row.eraseIdx i) e↔e=(u,w)∨(Bd row e∧e.1≠v∧e.2≠v):=by
 have il:=(Mi.mp hv).1;have hl:(row.eraseIdx i).length=row.length - 1:=by rw [List.length_eraseIdx,Mw il]
 have g:=fun j=>vD row i j
 have gap:(row.eraseIdx i)[i - 1]?=some u∧(row.eraseIdx i)[nx (row.length - 1) (i - 1)]?=some w:=by
  refine⟨by rw [g,Mw (by omega)];exact hu,?_⟩;rw [g]
  by_cases c:i + 1=row.length
  ·have e1:nx (row.length - 1) (i - 1)=0:=by unfold nx;rw [Mw (by omega)]
   have e2:nx row.length i=0:=by unfold nx;rw [Mw c]
   rw [e2] at hw;rw [e1,Mw i0];exact hw
  ·have e1:nx (row.length - 1) (i - 1)=i:=by unfold nx;rw [Mo (by omega)];omega
   have e2:nx row.length i=i + 1:=by unfold nx;rw [Mo c]
   rw [e2] at hw;rw [e1,Mo (by omega)];exact hw
 have nv:∀j x,row[j]?=some x→j≠i→x≠v:=fun j x hj hne z=>hne (hi j i v (z▸hj) hv)
 constructor
 ·rintro⟨j,ha,hb⟩;rw [hl] at hb
  by_cases c1:j + 1=i
  ·have:j=i - 1:=by omega
   subst this
   left
   rw [gap.1] at ha;rw [gap.2] at hb;exact Nk (Mq ha).symm (Mq hb).symm
  ·right
   rw [g] at ha hb
   by_cases c2:j < i
   ·have e1:nx (row.length - 1) j=j + 1:=by unfold nx;rw [Mo (by omega)]
    have e2:nx row.length j=j + 1:=by unfold nx;rw [Mo (by omega)]
    rw [Mw c2] at ha;rw [e1,Mw (by omega)] at hb;exact⟨⟨j,ha,by rw [e2];exact hb⟩,nv j _ ha (by omega),nv (j + 1) _ hb (by omega)⟩
   ·rw [Mo c2] at ha
    by_cases c3:j + 1=row.length - 1
    ·have e1:nx (row.length - 1) j=0:=by unfold nx;rw [Mw c3]
     have e2:nx row.length (j + 1)=0:=by unfold nx;rw [Mw (by omega)]
     rw [e1,Mw i0] at hb;exact⟨⟨j + 1,ha,by rw [e2];exact hb⟩,nv _ _ ha (by omega),nv 0 _ hb (by omega)⟩
    ·have e1:nx (row.length - 1) j=j + 1:=by unfold nx;rw [Mo c3]
     have e2:nx row.length (j + 1)=j + 2:=by unfold nx;rw [Mo (by omega)]
     rw [e1,Mo (by omega)] at hb;exact⟨⟨j + 1,ha,by rw [e2];exact hb⟩,nv _ _ ha (by omega),nv _ _ hb (by omega)⟩
 ·rintro (rfl | ⟨⟨j,ha,hb⟩,h1,h2'⟩)
  ·exact⟨i - 1,gap.1,by rw [hl];exact gap.2⟩
  ·have j1:j≠i:=fun z=>h1 (by rw [z,hv] at ha;exact (Mq ha).symm);have j2:nx row.length j≠i:=fun z=>h2' (by rw [z,hv] at hb;exact (Mq hb).symm);have jl:=(Mi.mp ha).1
   by_cases c:j < i
   ·have e2:nx row.length j=j + 1:=by unfold nx;rw [Mo (by omega)]
    rw [e2] at hb j2;refine⟨j,by rw [g,Mw c];exact ha,?_⟩;have e1:nx (row.length - 1) j=j + 1:=by unfold nx;rw [Mo (by omega)]
    rw [hl,e1,g,Mw (by omega)];exact hb
   ·refine⟨j - 1,by rw [g,Mo (by omega),show j - 1 + 1=j by omega];exact ha,?_⟩;rw [hl,g]
    by_cases c3:j + 1=row.length
    ·have e1:nx (row.length - 1) (j - 1)=0:=by unfold nx;rw [Mw (by omega)]
     have e2:nx row.length j=0:=by unfold nx;rw [Mw c3]
     rw [e2] at hb;rw [e1,Mw i0];exact hb
    ·have e1:nx (row.length - 1) (j - 1)=j:=by unfold nx;rw [Mo (by omega)];omega
     have e2:nx row.length j=j + 1:=by unfold nx;rw [Mo c3]
     rw [e2] at hb;rw [e1,Mo (by omega)];exact hb
abbrev e7:=Z2×Z2×Z2
def te (t:e7):List oy:=[(t.1,t.2.1),(t.2.1,t.2.2),(t.2.2,t.1)]
def eR (ts:List e7):List oy:=ts.flatMap te
def rv (e:oy):oy:=(e.2,e.1)
def nL:oy:=((1,0),(0,1))
def w6:oy:=((0,1),(1,0))
inductive b4:List Z2→List e7→Prop
 | done {row:List Z2}:row.length=2→b4 row []
 | cut {row:List Z2} {i:Nat} {u v w:Z2} {ts:List e7}:2 < row.length→Iu row.length row i u v w→b4 (row.eraseIdx i) ts→b4 row ((u,v,w) :: ts)
theorem cy {t:e7} {ts:List e7} {e:oy}:e∈eR (t :: ts)↔e=(t.1,t.2.1)∨e=(t.2.1,t.2.2)∨e=(t.2.2,t.1)∨e∈eR ts:=by
 unfold eR te;simp only [List.flatMap_cons,MR,MA,MN,or_false,or_assoc]
theorem Bd.next {row:List Z2} (hi:Inj row) {a b c:Z2} (h1:Bd row (a,b)) (h2:Bd row (a,c)):b=c:=by
 obtain⟨i,a1,b1⟩:=h1;obtain⟨j,a2,b2⟩:=h2;have:=hi i j a a1 a2;subst this;rw [b1] at b2;exact Mq b2
theorem Bd.back {row:List Z2} (hi:Inj row) (hl:2 < row.length) {a b:Z2} (h1:Bd row (a,b)) (h2:Bd row (b,a)):False:=by
 obtain⟨i,a1,b1⟩:=h1;obtain⟨j,b2,a2⟩:=h2;have e1:=hi _ _ _ b1 b2;have e2:=hi _ _ _ a1 a2;have l1:=(Mi.mp a1).1;have l2:=(Mi.mp b2).1;unfold nx at e1 e2
 split at e1 <;> split at e2 <;> omega
theorem Bd.mem {row:List Z2} {e:oy} (h:Bd row e):e.1∈row∧e.2∈row:=by
 obtain⟨i,a,b⟩:=h;exact⟨Mu a,Mu b⟩
structure Cut (row row':List Z2) (u v w:Z2):Prop where
 inj:Inj row
 inj':Inj row'
 more:2 < row.length
 one:Bd row (u,v)
 two:Bd row (v,w)
 bd:∀e,Bd row' e↔e=(u,w)∨(Bd row e∧e.1≠v∧e.2≠v)
 off:v∉row'
 ne0:v≠(0,1)
 ne1:v≠(1,0)
 uv:u≠v
 vw:v≠w
 uw:u≠w
 sub:∀p∈row',p∈row
 mu:u∈row
 mv:v∈row
 mw:w∈row
theorem aw.Kp {row:List Z2} (h:aw row.length row) (hn:2 < row.length) {i:Nat} {u v w:Z2} (e:Iu row.length row i u v w):Cut row (row.eraseIdx i) u v w:=by
 have i0:=e.i0;have il:=e.il;have hi:Inj row:=fun _ _ _=>h.inj;have hw:=e.far;rw [za il] at hw;have hc:=h.cut hn e;have n1:nx row.length (i - 1)=i:=by unfold nx;rw [Mo (by omega)];omega
 have b1:Bd row (u,v):=⟨i - 1,e.near,by rw [n1];exact e.mid⟩;have b2:Bd row (v,w):=⟨i,e.mid,hw⟩
 have uv:u≠v:=fun z=>by
  have:=hi _ _ _ e.near (z▸e.mid);omega
 refine⟨hi,fun _ _ _=>hc.inj,hn,b1,b2,CS hi i0 hn e.near e.mid hw,fun hm=>?_,e.ne,fun z=>?_,uv,fun z=>?_,fun z=>?_,fun p hp=>List.mem_of_mem_eraseIdx hp,b1.mem.1,b1.mem.2,b2.mem.2⟩
 ·obtain⟨j,hj⟩:=MJ hm;rw [vD] at hj
  by_cases c:j < i
  ·rw [Mw c] at hj;have:=hi _ _ _ hj e.mid;omega
  ·rw [Mo c] at hj;have:=hi _ _ _ hj e.mid;omega
 ·have:=hi _ _ _ h.first (z▸e.mid);omega
 ·have:=hi _ _ _ (z▸e.mid) hw;unfold nx at this;split at this <;> omega
 ·have:=hi _ _ _ (z▸e.near) hw;unfold nx at this;split at this <;> omega
theorem aw.pair {row:List Z2} (h:aw row.length row) (h2:row.length=2):row=[(1,0),(0,1)]:=by
 match row,h2,h.first,h.nought with
 | [a,b],_,f,m =>
  cases (Mq f:a=(1,0));simp at m;rw [← m]
theorem vQ (e:oy):Bd [(1,0),(0,1)] e↔e=nL∨e=w6:=by
 constructor
 ·rintro⟨i,a,b⟩
  match i with
  | 0=>exact .inl (Nk (Mq a).symm (Mq b).symm)
  | 1=>exact .inr (Nk (Mq a).symm (Mq b).symm)
  | i + 2=>cases a
 ·rintro (rfl | rfl)
  ·exact⟨0,rfl,rfl⟩
  ·exact⟨1,rfl,rfl⟩
structure c9 (row:List Z2) (ts:List e7):Prop where
 inn:∀e∈eR ts,e.1∈row∧e.2∈row
 ne:∀e∈eR ts,e.1≠e.2
 none:∀e,Bd row e→rv e∉eR ts
 dif:(eR ts).Nodup
 a:nL∈eR ts↔¬ Bd row w6
 b:w6∈eR ts↔¬ Bd row nL
 c:∀e,Bd row e→e≠nL→e≠w6→e∈eR ts
 d:∀e∈eR ts,¬ Bd row e→e≠nL→e≠w6→rv e∈eR ts
 e:∀S:oy→Prop,(∀t∈ts,(S (t.1,t.2.1)→S (t.2.1,t.2.2))∧(S (t.2.1,t.2.2)→S (t.2.2,t.1))∧(S (t.2.2,t.1)→S (t.1,t.2.1)))→(∀e∈eR ts,¬ Bd row e→S e→S (rv e))→(nL∈eR ts→S nL)→(w6∈eR ts→S w6)→∀e∈eR ts,S e
theorem A1:c9 [(1,0),(0,1)] [] where
 inn:=fun e h=>by cases h
 ne:=fun e h=>by cases h
 none:=fun e _ h=>by cases h
 dif:=List.nodup_nil
 a:=⟨fun h=>absurd h (by simp [eR]),fun h=>absurd ((vQ _).mpr (.inr rfl)) h⟩
 b:=⟨fun h=>absurd h (by simp [eR]),fun h=>absurd ((vQ _).mpr (.inl rfl)) h⟩
 c:=fun e h h1 h2=>((vQ e).mp h).elim (fun z=>absurd z h1) (fun z=>absurd z h2)
 d:=fun e h=>by cases h
 e:=fun S _ _ _ _ e h=>by cases h
theorem tX {row row':List Z2} {u v w:Z2} {ts:List e7} (k:Cut row row' u v w) (h:c9 row' ts) {x y:oy} (hr:rv x=y) (hx:x.1≠v∧x.2≠v)
  (h':x∈eR ts↔¬ Bd row' y):x∈eR ((u,v,w) :: ts)↔¬ Bd row y:=by
 subst hr;rw [cy]
 by_cases c:x=(w,u)
 ·subst c;refine⟨fun _ hb=>?_,fun _=>.inr (.inr (.inl rfl))⟩;exact k.vw (Bd.next k.inj k.one hb)
 ·have:Bd row' (rv x)↔Bd row (rv x):=by
   rw [k.bd];refine⟨?_,fun hb=>.inr ⟨hb,hx.2,hx.1⟩⟩
   rintro (z | z)
   ·exact absurd (by have:=M0 rv z;exact this) c
   ·exact z.1
  rw [← this,← h'];refine⟨?_,fun m=>.inr (.inr (.inr m))⟩
  rintro (z | z | z | z)
  ·exact absurd (by rw [z]) hx.2
  ·exact absurd (by rw [z]) hx.1
  ·exact absurd z c
  ·exact z
theorem DY {row row':List Z2} {u v w:Z2} {ts:List e7} (k:Cut row row' u v w) (h:c9 row' ts):c9 row ((u,v,w) :: ts):=by
 have novert:∀e∈eR ts,e.1≠v∧e.2≠v:=fun e he=>⟨fun z=>k.off (z▸(h.inn e he).1),fun z=>k.off (z▸(h.inn e he).2)⟩;have buw:Bd row' (u,w):=(k.bd _).mpr (.inl rfl);have nuw:¬ Bd row (u,w):=fun hb=>k.vw (Bd.next k.inj k.one hb);have nwu:(w,u)∉eR ts:=h.none (u,w) buw;refine⟨fun e he=>?_,fun e he=>?_,fun e hb he=>?_,?_,tX k h rfl ⟨fun z=>k.ne1 z.symm,fun z=>k.ne0 z.symm⟩ h.a,tX k h rfl ⟨fun z=>k.ne0 z.symm,fun z=>k.ne1 z.symm⟩ h.b,fun e hb n1 n2=>?_,fun e he hb n1 n2=>?_,fun S hr hv h1 h2=>?_⟩
 ·rcases cy.mp he with rfl | rfl | rfl | m
  ·exact⟨k.mu,k.mv⟩
  ·exact⟨k.mv,k.mw⟩
  ·exact⟨k.mw,k.mu⟩
  ·exact⟨k.sub _ (h.inn e m).1,k.sub _ (h.inn e m).2⟩
 ·rcases cy.mp he with rfl | rfl | rfl | m
  ·exact k.uv
  ·exact k.vw
  ·exact fun z=>k.uw z.symm
  ·exact h.ne e m
 ·rcases cy.mp he with z | z | z | m
  ·have:e=(v,u):=M0 rv z;exact Bd.back k.inj k.more k.one (this▸hb)
  ·have:e=(w,v):=M0 rv z;exact Bd.back k.inj k.more k.two (this▸hb)
  ·have:e=(u,w):=M0 rv z;exact nuw (this▸hb)
  ·have nv:=novert _ m;exact h.none e ((k.bd e).mpr (.inr ⟨hb,nv.2,nv.1⟩)) m
 ·show (te (u,v,w) ++ eR ts).Nodup
  refine Nu.mpr ⟨?_,h.dif,?_⟩
  ·unfold te;simp only [M5,MA,MN,or_false,not_or,Prod.mk.injEq,not_and,not_false_eq_true,List.nodup_nil,and_true];exact⟨⟨fun z=>absurd z k.uv,fun z=>absurd z k.uw⟩,fun z=>absurd z k.vw⟩
  ·intro a ha b hb z;subst z;have nv:=novert _ hb;unfold te at ha;simp only [MA,MN,or_false] at ha;rcases ha with rfl | rfl | rfl
   ·exact nv.2 rfl
   ·exact nv.1 rfl
   ·exact nwu hb
 ·by_cases c:e.1=v
  ·have:e=(v,w):=Nk c (Bd.next k.inj (show Bd row (v,e.2) by rw [← c];exact hb) k.two);exact cy.mpr (.inr (.inl this))
  ·by_cases c2:e.2=v
   ·obtain⟨i,a1,b1⟩:=hb;obtain⟨j,a2,b2⟩:=k.one;have il:=(Mi.mp a1).1;have jl:=(Mi.mp a2).1;have:=k.inj _ _ v (c2▸b1) b2;have ij:i=j:=by unfold nx at this;split at this <;> split at this <;> omega
    subst ij;rw [a1] at a2;exact cy.mpr (.inl (Nk (Mq a2) c2))
   ·exact cy.mpr (.inr (.inr (.inr (h.c e ((k.bd e).mpr (.inr ⟨hb,c,c2⟩)) n1 n2))))
 ·rcases cy.mp he with z | z | z | m
  ·exact absurd (z▸k.one) hb
  ·exact absurd (z▸k.two) hb
  ·have:rv e=(u,w):=M0 rv z;rw [this];refine cy.mpr (.inr (.inr (.inr (h.c _ buw (fun q=>n2 ?_) (fun q=>n1 ?_)))))
   ·rw [z];exact M0 rv q
   ·rw [z];exact M0 rv q
  ·by_cases c:Bd row' e
   ·rcases (k.bd e).mp c with rfl | ⟨q,_⟩
    ·exact cy.mpr (.inr (.inr (.inl rfl)))
    ·exact absurd q hb
   ·exact cy.mpr (.inr (.inr (.inr (h.d e m c n1 n2))))
 ·have old:∀e∈eR ts,S e:=h.e S (fun t ht=>hr t (MB _ ht)) (fun e he hb=>by
    refine hv e (cy.mpr (.inr (.inr (.inr he)))) fun q=>hb ?_;have nv:=novert e he
    exact (k.bd e).mpr (.inr ⟨q,nv.1,nv.2⟩)) (fun m=>h1 (cy.mpr (.inr (.inr (.inr m))))) (fun m=>h2 (cy.mpr (.inr (.inr (.inr m)))))
  have r:=hr (u,v,w) (MO ..)
  have last:S (w,u):=by
   by_cases c1:(u,w)=nL
   ·have:(w,u)=w6:=M0 rv c1;rw [this];exact h2 (cy.mpr (.inr (.inr (.inl this.symm))))
   ·by_cases c2:(u,w)=w6
    ·have:(w,u)=nL:=M0 rv c2;rw [this];exact h1 (cy.mpr (.inr (.inr (.inl this.symm))))
    ·have m:=h.c _ buw c1 c2;exact hv (u,w) (cy.mpr (.inr (.inr (.inr m)))) nuw (old _ m)
  intro e he;rcases cy.mp he with rfl | rfl | rfl | m
  ·exact r.2.2 last
  ·exact r.1 (r.2.2 last)
  ·exact last
  ·exact old e m
theorem xK {row:List Z2} {ts:List e7} (t:b4 row ts):aw row.length row→c9 row ts:=by
 induction t with
 | done h2=>intro h;rw [h.pair h2];exact A1
 | cut hn e _ ih =>
  rename_i row i u v w ts _;intro h;have hc:=h.cut hn e;have hl:(row.eraseIdx i).length=row.length - 1:=by rw [List.length_eraseIdx,Mw e.il]
  exact DY (h.Kp hn e) (ih (by rw [hl];exact hc))
inductive bF where
 | gap (i:Nat) | edge (e:oy)
 deriving DecidableEq
def bo (fs:List Z2) (i:Nat):oy:=(fs.getD i (1,0),fs.getD (nx fs.length i) (1,0))
theorem CU {n i:Nat} (h:i < n):nx n i < n:=by unfold nx;split <;> omega
section
variable {fs:List Z2} {ms:List Mk} {ts:List e7} {ha th:bF→Option bF}
theorem mG {l:List Z2} {i:Nat} (h:i < l.length):l[i]?=some (l.getD i (1,0)):=by
 rw [Nt,Mm h];rfl
theorem qF {i:Nat} (h:i < fs.length):Bd fs (bo fs i):=⟨i,mG h,mG (CU h)⟩
theorem nG {e:oy} (h:Bd fs e):∃i,i < fs.length∧e=bo fs i:=by
 obtain⟨i,h1,h2⟩:=h;have hi:=(Mi.mp h1).1;rw [mG hi] at h1;rw [mG (CU hi)] at h2;exact⟨i,hi,Nk (Mq h1).symm (Mq h2).symm⟩
theorem rz (h:aw fs.length fs) {i j:Nat} (hi:i < fs.length) (hj:j < fs.length) (e:bo fs i=bo fs j):i=j :=
 h.inj (mG hi) (by rw [mG hj];exact M0 some (M0 Prod.fst e).symm)
structure Links (fs:List Z2) (ms:List Mk) (ts:List e7) (ha th:bF→Option bF):Prop where
 rot:∀t∈ts,th (.edge (t.1,t.2.1))=some (.edge (t.2.1,t.2.2))∧th (.edge (t.2.1,t.2.2))=some (.edge (t.2.2,t.1))∧th (.edge (t.2.2,t.1))=some (.edge (t.1,t.2.1))
 thg:∀i,ms[i]?=some Mk.aB→th (.gap i)=some (.gap i)
 hag:∀i,ms[i]?=some Mk.aB→ha (.gap i)=some (.edge (bo fs i))∧ha (.edge (bo fs i))=some (.gap i)
 hah:∀i,ms[i]?=some Mk.half→ha (.edge (bo fs i))=some (.edge (bo fs i))
 ham:∀i j,ms[i]?=some (Mk.gap j)→ha (.edge (bo fs i))=some (.edge (bo fs j))
 hai:∀e∈eR ts,¬ Bd fs e→ha (.edge e)=some (.edge (rv e))
def lu (ms:List Mk) (ts:List e7):bF→Prop
 | .gap i=>ms[i]?=some Mk.aB
 | .edge e=>e∈eR ts
theorem gR {e:oy} (h:e∈eR ts):∃t∈ts,e∈te t:=List.mem_flatMap.mp h
theorem zc {t:e7} (h:t∈ts) {e:oy} (he:e∈te t):e∈eR ts:=List.mem_flatMap.mpr ⟨t,h,he⟩
theorem i9 (h:aw fs.length fs) (hn:2 < fs.length) (k:c9 fs ts) {i:Nat} (hi:i < fs.length):bo fs i∈eR ts:=by
 have hb:=qF hi;have inj:Inj fs:=fun _ _ _=>h.inj
 by_cases c1:bo fs i=nL
 ·rw [c1] at hb ⊢;exact k.a.mpr fun h2=>Bd.back inj hn hb h2
 ·by_cases c2:bo fs i=w6
  ·rw [c2] at hb ⊢;exact k.b.mpr fun h2=>Bd.back inj hn h2 hb
  ·exact k.c _ hb c1 c2
theorem Gj (k:c9 fs ts) {e:oy} (he:e∈eR ts) (hb:¬ Bd fs e):rv e∈eR ts:=by
 by_cases c1:e=nL
 ·subst c1;exact k.b.mpr hb
 ·by_cases c2:e=w6
  ·subst c2;exact k.a.mpr hb
  ·exact k.d e he hb c1 c2
theorem rZ (m:lS fs.length ms) {i:Nat} (hi:i < fs.length):ms[i]?=some Mk.half∨ms[i]?=some Mk.aB∨∃j,j < fs.length∧ms[i]?=some (Mk.gap j):=by
 have hl:=m.len;have:ms[i]?=some (ms[i]'(by omega)):=Mm _
 cases e:ms[i]'(by omega) with
 | half=>rw [e] at this;exact .inl this
 | aB=>rw [e] at this;exact .inr (.inl this)
 | gap j =>
  rw [e] at this;have q:=(Mi.mp (m.pair i j this).2).1;exact .inr (.inr ⟨j,by omega,this⟩)
theorem bL (m:lS fs.length ms) {i:Nat} {x:Mk} (h:ms[i]?=some x):i < fs.length:=by
 have:=(Mi.mp h).1;have:=m.len;omega
theorem jN (h:bh fs ms) (hn:2 < fs.length) (k:c9 fs ts) (l:Links fs ms ts ha th) {p:bF} (hp:lu ms ts p):∃q,ha p=some q∧lu ms ts q∧ha q=some p:=by
 cases p with
 | gap i =>
  have hp':ms[i]?=some Mk.aB:=hp
  exact⟨_,(l.hag i hp').1,i9 h.fr hn k (bL h.mar hp'),(l.hag i hp').2⟩
 | edge e =>
  have he:e∈eR ts:=hp
  by_cases hb:Bd fs e
  ·obtain⟨i,hi,rfl⟩:=nG hb;rcases rZ h.mar hi with c | c | ⟨j,hj,c⟩
   ·exact⟨_,l.hah i c,he,l.hah i c⟩
   ·exact⟨_,(l.hag i c).2,c,(l.hag i c).1⟩
   ·exact⟨_,l.ham i j c,i9 h.fr hn k hj,l.ham j i (h.mar.pair i j c).2⟩
  ·have r:=Gj k he hb;refine⟨_,l.hai e he hb,r,?_⟩;have nb:¬ Bd fs (rv e):=fun q=>k.none _ q he;exact l.hai (rv e) r nb
theorem xf (l:Links fs ms ts ha th) {p:bF} (hp:lu ms ts p):∃q,th p=some q∧lu ms ts q:=by
 cases p with
 | gap i=>exact⟨_,l.thg i hp,hp⟩
 | edge e =>
  obtain⟨t,ht,he⟩:=gR hp;have r:=l.rot t ht;have m:∀x∈te t,x∈eR ts:=fun x hx=>zc ht hx;unfold te at he m;simp only [MA,MN,or_false] at he;rcases he with rfl | rfl | rfl
  ·exact⟨_,r.1,m _ (by simp)⟩
  ·exact⟨_,r.2.1,m _ (by simp)⟩
  ·exact⟨_,r.2.2,m _ (by simp)⟩
theorem GD (h:bh fs ms) (hn:2 < fs.length) (k:c9 fs ts) (l:Links fs ms ts ha th) {p:bF} (hp:lu ms ts p):ha p=some p↔∃i,ms[i]?=some Mk.half∧p=.edge (bo fs i):=by
 constructor
 ·intro hf
  cases p with
  | gap i=>rw [(l.hag i hp).1] at hf;cases hf
  | edge e =>
   have he:e∈eR ts:=hp
   by_cases hb:Bd fs e
   ·obtain⟨i,hi,rfl⟩:=nG hb;rcases rZ h.mar hi with c | c | ⟨j,hj,c⟩
    ·exact⟨i,c,rfl⟩
    ·rw [(l.hag i c).2] at hf;cases hf
    ·rw [l.ham i j c] at hf;have:=rz h.fr hj hi (by injection hf with q;injection q);exact absurd this (h.mar.pair i j c).1
   ·rw [l.hai e he hb] at hf;have q:rv e=e:=by injection hf with q;injection q
    exact absurd (M0 Prod.fst q).symm (k.ne e he)
 ·rintro⟨i,c,rfl⟩;exact l.hah i c
theorem GK (k:c9 fs ts) (l:Links fs ms ts ha th) {p:bF} (hp:lu ms ts p):th p=some p↔∃i,ms[i]?=some Mk.aB∧p=.gap i:=by
 constructor
 ·intro hf
  cases p with
  | gap i=>exact⟨i,hp,rfl⟩
  | edge e =>
   exfalso;have hp':e∈eR ts:=hp;obtain⟨t,ht,he⟩:=gR hp';have r:=l.rot t ht;have ne:=k.ne e hp';unfold te at he;simp only [MA,MN,or_false] at he;rcases he with rfl | rfl | rfl
   ·rw [r.1] at hf;injection hf with q;injection q with q;exact ne (M0 Prod.fst q).symm
   ·rw [r.2.1] at hf;injection hf with q;injection q with q;exact ne (M0 Prod.fst q).symm
   ·rw [r.2.2] at hf;injection hf with q;injection q with q;exact ne (M0 Prod.fst q).symm
 ·rintro⟨i,c,rfl⟩;exact l.thg i c
def qr (fs:List Z2) (ts:List e7) (ha:bF→Option bF) (f:bF):Prop:=(nL∈eR ts∧f=.edge nL)∨(nL∉eR ts∧ha (.edge (bo fs (fs.length - 1)))=some f)
theorem w4 (h:aw fs.length fs) (hb:Bd fs w6):bo fs (fs.length - 1)=w6:=by
 obtain⟨i,hi,e⟩:=nG hb
 have h2:fs[nx fs.length i]?=some (1,0):=by
  rw [mG (CU hi)];exact M0 some (M0 Prod.snd e).symm
 have:=h.inj h2 h.first;unfold nx at this
 split at this
 ·have:i=fs.length - 1:=by omega
  rw [← this];exact e.symm
 ·omega
theorem Cy (h:bh fs ms) (hn:2 < fs.length) (k:c9 fs ts) (l:Links fs ms ts ha th) {f:bF} (hf:qr fs ts ha f):lu ms ts f:=by
 rcases hf with ⟨a,rfl⟩ | ⟨_,b⟩
 ·exact a
 ·obtain⟨q,h1,h2,_⟩:=jN (p:=.edge (bo fs (fs.length - 1))) h hn k l (i9 h.fr hn k (by omega));rw [b] at h1;cases h1;exact h2
theorem reach (h:bh fs ms) (hn:2 < fs.length) (k:c9 fs ts) (l:Links fs ms ts ha th) {f:bF} (hf:qr fs ts ha f) {S:bF→Prop} (s0:S f) (s1:∀p q,S p→ha p=some q→S q) (s2:∀p q,S p→th p=some q→S q):∀p,lu ms ts p→S p:=by
 have both:(nL∈eR ts→S (.edge nL))∧(w6∈eR ts→S (.edge w6)):=by
  rcases hf with ⟨a,rfl⟩ | ⟨na,b⟩
  ·refine⟨fun _=>s0,fun m=>?_⟩;exact s1 _ _ s0 (l.hai nL a (k.b.mp m))
  ·refine⟨fun m=>absurd m na,fun _=>?_⟩;have hb:Bd fs w6:=Classical.byContradiction fun q=>na (k.a.mpr q);obtain⟨q,h1,h2,h3⟩:=jN (p:=.edge (bo fs (fs.length - 1))) h hn k l (i9 h.fr hn k (by omega));rw [b] at h1;cases h1;rw [w4 h.fr hb] at h3;exact s1 _ _ s0 h3
 have edges:∀e∈eR ts,S (.edge e):=k.e (fun e=>S (.edge e)) (fun t ht=>⟨fun q=>s2 _ _ q (l.rot t ht).1,fun q=>s2 _ _ q (l.rot t ht).2.1,fun q=>s2 _ _ q (l.rot t ht).2.2⟩) (fun e he hb q=>s1 _ _ q (l.hai e he hb)) both.1 both.2;intro p hp
 cases p with
 | edge e=>exact edges e hp
 | gap i =>
  have hp':ms[i]?=some Mk.aB:=hp;exact s1 _ _ (edges _ (i9 h.fr hn k (bL h.mar hp'))) (l.hag i hp').2
end
theorem Bt {α β:Type} [DecidableEq α] {met:List α} {is:List β} {g:β→α} (P:α→Bool) (nd:met.Nodup) (gi:∀i∈is,∀j∈is,g i=g j→i=j) (ni:is.Nodup) (hP:∀p∈met,P p=true↔∃i∈is,p=g i) (hm:∀i∈is,g i∈met):(met.filter P).length=is.length:=by
 have n1:(met.filter P).Nodup:=nd.filter P
 have n2:(is.map g).Nodup:=by
  rw [List.nodup_iff_pairwise_ne,List.pairwise_map];exact (List.nodup_iff_pairwise_ne.mp ni).imp_of_mem fun ha hb ne e=>ne (gi _ ha _ hb e)
 have perm:(met.filter P).Perm (is.map g):=(List.perm_ext_iff_of_nodup n1 n2).mpr fun a=>by
  rw [List.mem_filter,MT]
  constructor
  ·rintro⟨h1,h2⟩;obtain⟨i,hi,e⟩:=(hP a h1).mp h2;exact⟨i,hi,e.symm⟩
  ·rintro⟨i,hi,rfl⟩;exact⟨hm i hi,(hP _ (hm i hi)).mpr ⟨i,hi,rfl⟩⟩
 rw [perm.length_eq,My]
theorem K5 (a:Int):0≤a * a:=by
 rcases Int.le_total 0 a with h | h
 ·exact Int.mul_nonneg h h
 ·exact Int.mul_nonneg_of_nonpos_of_nonpos h h
def sP (fs:List Z2) (i:Nat) (v:Z2):Int:=(act (aK fs i).con v).1 * (act (aK fs i).con v).2
def vR (fs:List Z2) (i:Nat) (v:Z2):Prop:=sP fs i v < 0
def Dy (fs:List Z2) (i:Nat) (v:Z2):Prop:=0 < sP fs i v
theorem qd (fs:List Z2) (i:Nat) (v:Z2):sP fs i (aT v)=sP fs i v:=by
 unfold sP;rw [jA];unfold aT;simp only;rw [Int.neg_mul_neg]
theorem E8 (fs:List Z2) (i:Nat) {m k:M4} (e:Eqv m k) (v:Z2):sP fs i (act m v)=sP fs i (act k v):=by
 rcases e with rfl | rfl
 ·rfl
 ·rw [nQ,qd]
def eS (fs:List Z2) (v:Z2) (k:Nat):Int:=if k=0 then -v.2 else if k=fs.length then v.2 else (fs.getD k (1,0)).1 * v.2 - (fs.getD k (1,0)).2 * v.1
theorem rX {n:Nat} {fs:List Z2} (h:aw n fs):∀(d i:Nat) (p r:Z2),0 < i→fs[i]?=some p→fs[i + d + 1]?=some r→p.1 * r.2 < r.1 * p.2
 | 0,i,p,r,h0,h1,h2=>by
  have:=h.det i p r h0 h1 h2;have e:p.2 * r.1=r.1 * p.2:=Int.mul_comm ..
  omega
 | d + 1,i,p,r,h0,h1,h2=>by
  have hl:=(Mi.mp h2).1;have hq:fs[i + d + 1]?=some (fs[i + d + 1]'(by omega)):=Mm _;have ih:=rX h d i p _ h0 h1 hq;have dt:=h.det (i + d + 1) _ r (by omega) hq h2;have lp:=h.low i p h1 h0;have lq:=h.low _ _ hq (by omega);have lr:=h.low _ r h2 (by omega);generalize fs[i + d + 1]=q at *
  have s2:q.1 * r.2 < r.1 * q.2:=by
   have e:q.2 * r.1=r.1 * q.2:=Int.mul_comm ..;omega
  have a1:(p.1 * q.2) * r.2 < (q.1 * p.2) * r.2:=Int.mul_lt_mul_of_pos_right ih (by omega);have a2:(q.1 * r.2) * p.2 < (r.1 * q.2) * p.2:=Int.mul_lt_mul_of_pos_right s2 (by omega)
  have a3:q.2 * (p.1 * r.2) < q.2 * (r.1 * p.2):=by
   have e1:q.2 * (p.1 * r.2)=(p.1 * q.2) * r.2:=by grind
   have e2:q.2 * (r.1 * p.2)=(r.1 * q.2) * p.2:=by grind
   have e3:(q.1 * p.2) * r.2=(q.1 * r.2) * p.2:=by grind
   omega
  exact Int.lt_of_mul_lt_mul_left a3 (by omega)
section
variable {fs:List Z2} {v:Z2} {i j:Nat}
theorem jq (h:aw fs.length fs) (hv:0 < v.2) {k:Nat} (hik:i < k) (hk:k≤fs.length) (h0:0≤eS fs v i):0 < eS fs v k:=by
 have h2:=h.two;unfold eS at *
 by_cases c0:i=0
 ·rw [Mw c0] at h0;omega
 rw [Mo c0,Mo (by omega)] at h0;rw [Mo (by omega)]
 by_cases c1:k=fs.length
 ·rw [Mw c1];exact hv
 rw [Mo c1];have e1:fs[i]?=some (fs.getD i (1,0)):=getD_some (by omega);have e2:fs[k]?=some (fs.getD k (1,0)):=getD_some (by omega);have lt:=rX h (k - i - 1) i _ _ (by omega) e1 (by rw [show i + (k - i - 1) + 1=k by omega];exact e2);have q1:=h.low i _ e1 (by omega);have q2:=h.low k _ e2 (by omega);generalize fs.getD i (1,0)=p at *;generalize fs.getD k (1,0)=r at *;have m1:p.1 * r.2 * v.2 < r.1 * p.2 * v.2:=Int.mul_lt_mul_of_pos_right lt hv
 have m2:0≤(p.1 * v.2 - p.2 * v.1) * r.2:=Int.mul_nonneg h0 (by omega)
 have m3:p.2 * 0 < p.2 * (r.1 * v.2 - r.2 * v.1):=by
  have e:p.2 * (r.1 * v.2 - r.2 * v.1)=(p.1 * v.2 - p.2 * v.1) * r.2 + (r.1 * p.2 * v.2 - p.1 * r.2 * v.2):=by grind
  rw [e,Int.mul_zero];omega
 exact Int.lt_of_mul_lt_mul_left m3 (by omega)
theorem Cc (m:M4) (w:Z2):(act m.up.con w).1 * (act m.up.con w).2=(act m.con w).1 * (act m.con w).2:=by
 rcases rF m with e | e
 ·rw [e]
 ·rw [e];have:m.neg.con=m.con.neg:=by apply DI <;> simp [M4.con,M4.neg]
  rw [this,nQ];unfold aT;simp only;rw [Int.neg_mul_neg]
theorem o5 (h:aw fs.length fs) (hi:i < fs.length):sP fs i v=eS fs v i * eS fs v (i + 1):=by
 have h2:=h.two;unfold sP aK;rw [Cc];unfold aP gE;have one:fs.getD 0 (1,0)=(1,0):=Mq ((getD_some (by omega)).symm.trans h.first)
 by_cases c0:i=0
 ·subst c0;rw [one,Nat.zero_add,Nat.mod_eq_of_lt (by omega)];have e1:fs[1]?=some (fs.getD 1 (1,0)):=getD_some (by omega);have d1:=h.det0 _ e1;unfold eS;rw [Mw rfl,Mo (by decide),Mo (by omega)];generalize fs.getD 1 (1,0)=r at *;unfold eV;rw [Mo (by rw [d1];show ¬ (1 * 1 - 0 * r.1=(-1:Int));omega)];unfold act M4.con;simp only;rw [d1]
  grind
 ·have e1:fs[i]?=some (fs.getD i (1,0)):=getD_some hi
  by_cases c1:i + 1=fs.length
  ·rw [c1,Nat.mod_self,one];have d1:=h.last (fs.getD i (1,0)) (by rw [show fs.length - 1=i by omega];exact e1);unfold eS;rw [Mo c0,Mo (by omega),Mo (by omega),Mw rfl];generalize fs.getD i (1,0)=p at *;unfold eV;rw [Mw (by rw [d1];simp)];unfold act M4.con;simp only;rw [d1]
   grind
  ·rw [Nat.mod_eq_of_lt (by omega)];have e2:fs[i + 1]?=some (fs.getD (i + 1) (1,0)):=getD_some (by omega);have d:=h.det i _ _ (by omega) e1 e2;unfold eS;rw [Mo c0,Mo (by omega),Mo (by omega),Mo c1];generalize fs.getD i (1,0)=p at *;generalize fs.getD (i + 1) (1,0)=r at *;unfold eV;rw [Mw d];unfold act M4.con;simp only
   grind
theorem lK {a b:Int} (h:a * b < 0) (hm:0≤a→0 < b):a < 0∧0 < b:=by
 have ha:a < 0:=by
  by_cases c:0≤a
  ·have:=Int.mul_nonneg c (Int.le_of_lt (hm c));omega
  ·omega
 refine⟨ha,?_⟩
 by_cases c:0 < b
 ·exact c
 ·have:=Int.mul_nonneg_of_nonpos_of_nonpos (Int.le_of_lt ha) (show b≤0 by omega);omega
theorem xn (h:aw fs.length fs) (hi:i < fs.length) (hj:j < fs.length) (ne:i≠j) (hv:0 < v.2) (hin:vR fs i v):Dy fs j v:=by
 unfold vR at hin;unfold Dy;rw [o5 h hi] at hin;rw [o5 h hj];obtain⟨a,b⟩:=lK hin (jq h hv (by omega) (by omega))
 by_cases c:i < j
 ·have p1:0 < eS fs v j:=by
   by_cases z:j=i + 1
   ·rw [z];exact b
   ·exact jq h hv (by omega) (by omega) (Int.le_of_lt b)
  have p2:0 < eS fs v (j + 1):=jq h hv (by omega) (by omega) (Int.le_of_lt b);exact Int.mul_pos p1 p2
 ·have neg:∀k,k≤i→eS fs v k < 0:=fun k hk=>by
   by_cases z:k=i
   ·rw [z];exact a
   ·by_cases y:0≤eS fs v k
    ·have:=jq h hv (show k < i by omega) (by omega) y;omega
    ·omega
  exact Int.mul_pos_of_neg_of_neg (neg j (by omega)) (neg (j + 1) (by omega))
theorem JP (h:aw fs.length fs) (hi:i < fs.length) (hj:j < fs.length) (ne:i≠j) (hin:vR fs i v):Dy fs j v:=by
 rcases Int.lt_trichotomy v.2 0 with c | c | c
 ·have e:∀k,sP fs k v=sP fs k (aT v):=fun k=>(qd fs k v).symm;unfold vR at hin;unfold Dy;rw [e] at hin ⊢;exact xn (v:=aT v) h hi hj ne (by show 0 < -v.2;omega) hin
 ·exfalso;unfold vR at hin;rw [o5 h hi] at hin;have h2:=h.two;unfold eS at hin;rw [Mo (by omega:i + 1≠0),c] at hin
  by_cases c0:i=0
  ·rw [Mw c0] at hin;simp at hin
  ·rw [Mo c0,Mo (by omega)] at hin
   by_cases c1:i + 1=fs.length
   ·rw [Mw c1] at hin;simp at hin
   ·rw [Mo c1] at hin;have q1:=h.low i _ (getD_some (d:=(1,0)) hi) (by omega);have q2:=h.low (i + 1) _ (getD_some (d:=(1,0)) (by omega)) (by omega);generalize fs.getD i (1,0)=p at *;generalize fs.getD (i + 1) (1,0)=r at *;have e:(p.1 * 0 - p.2 * v.1) * (r.1 * 0 - r.2 * v.1)=p.2 * r.2 * (v.1 * v.1):=by grind
    rw [e] at hin;have:=Int.mul_nonneg (Int.mul_nonneg (show 0≤p.2 by omega) (show 0≤r.2 by omega)) (K5 v.1);omega
 ·exact xn h hi hj ne c hin
theorem J9 (h:aw fs.length fs) (hi:i < fs.length):vR fs i (act (aK fs i) (1,-1)):=by
 unfold vR sP;rw [hJ (ib h hi).1];decide
end
section
variable {fs:List Z2} {ms:List Mk} {v:Z2} {g j:Nat}
end
def qi (fs:List Z2) (v:Z2):Prop:=∃i,i < fs.length∧(v=aP fs i∨v=aT (aP fs i))
theorem mz {fs:List Z2} {v:Z2} (h:qi fs v):qi fs (aT v):=by
 obtain⟨i,hi,rfl | rfl⟩:=h
 ·exact⟨i,hi,.inr rfl⟩
 ·exact⟨i,hi,.inl (aU _)⟩
theorem dQ {fs:List Z2} {m k:M4} {v:Z2} (e:Eqv m k) (h:qi fs (act k v)):qi fs (act m v):=by
 rcases e with rfl | rfl
 ·exact h
 ·rw [nQ];exact mz h
section
variable {fs:List Z2} {v:Z2} {i k:Nat}
theorem ym (h:aw fs.length fs) (hk:k < fs.length) (hv:v.2=0):¬ vR fs k v:=fun hin=>by
 unfold vR at hin;rw [o5 h hk] at hin;have h2:=h.two;unfold eS at hin;rw [Mo (by omega:k + 1≠0),hv] at hin
 by_cases c0:k=0
 ·rw [Mw c0] at hin;simp at hin
 ·rw [Mo c0,Mo (by omega)] at hin
  by_cases c1:k + 1=fs.length
  ·rw [Mw c1] at hin;simp at hin
  ·rw [Mo c1] at hin;have q1:=h.low k _ (getD_some (d:=(1,0)) hk) (by omega);have q2:=h.low (k + 1) _ (getD_some (d:=(1,0)) (by omega)) (by omega);generalize fs.getD k (1,0)=p at *;generalize fs.getD (k + 1) (1,0)=r at *;have e:(p.1 * 0 - p.2 * v.1) * (r.1 * 0 - r.2 * v.1)=p.2 * r.2 * (v.1 * v.1):=by grind
   rw [e] at hin;have:=Int.mul_nonneg (Int.mul_nonneg (show 0≤p.2 by omega) (show 0≤r.2 by omega)) (K5 v.1);omega
theorem mS (h:aw fs.length fs) (hi:i < fs.length) (hk:k < fs.length):¬ vR fs k (aP fs i):=by
 intro hin;have hP:=de hi
 by_cases c0:i=0
 ·subst c0;rw [h.first] at hP;have e:aP fs 0=(1,0):=(Mq hP).symm;rw [e] at hin;exact ym h hk rfl hin
 ·have pos:=h.low i _ hP (by omega);unfold vR at hin;rw [o5 h hk] at hin
  have z:eS fs (aP fs i) i=0:=by
   unfold eS;rw [Mo c0,Mo (by omega)];show (aP fs i).1 * (aP fs i).2 - (aP fs i).2 * (aP fs i).1=0
   rw [Int.mul_comm];omega
  obtain⟨a,b⟩:=lK hin (jq h (by omega) (by omega) (by omega));rcases Nat.lt_trichotomy i k with c | c | c
  ·have:=jq h (v:=aP fs i) (by omega) c (by omega) (by omega);omega
  ·rw [c] at z;rw [← c] at a;rw [← c] at z;omega
  ·by_cases d:i=k + 1
   ·rw [d] at z;rw [← d] at b;rw [← d] at z;omega
   ·have:=jq h (v:=aP fs i) (by omega) (show k + 1 < i by omega) (by omega) (Int.le_of_lt b);omega
theorem kQ (h:aw fs.length fs) (hv:qi fs v) (hk:k < fs.length):0≤sP fs k v:=by
 obtain⟨i,hi,rfl | rfl⟩:=hv
 ·have:=mS h hi hk;unfold vR at this;omega
 ·rw [qd];have:=mS h hi hk;unfold vR at this;omega
def CJ (x y:Z2):Int:=x.1 * y.2 - x.2 * y.1
theorem along {p q v w:Z2} (hp:CJ p q=1∨CJ p q = -1) (hv:CJ v w=1) (h:CJ p v=0):v=p∨v=aT p:=by
 unfold CJ at *;have e1:p.1=(p.1 * w.2 - p.2 * w.1) * v.1:=by grind
 have e2:p.2=(p.1 * w.2 - p.2 * w.1) * v.2:=by grind
 generalize p.1 * w.2 - p.2 * w.1=c at e1 e2;have e3:c * (v.1 * q.2 - v.2 * q.1)=p.1 * q.2 - p.2 * q.1:=by rw [e1,e2];grind
 have hc:c=1∨c = -1:=by
  have:c ∣ 1:=by
   rcases hp with z | z
   ·exact⟨v.1 * q.2 - v.2 * q.1,by omega⟩
   ·exact⟨-(v.1 * q.2 - v.2 * q.1),by rw [Ny];omega⟩
  have h1:c.natAbs ∣ 1:=Int.natAbs_dvd_natAbs.mpr this;have:=Nat.dvd_one.mp h1;omega
 rcases hc with rfl | rfl
 ·left;apply Nk <;> omega
 ·right;unfold aT;apply Nk <;> simp <;> omega
theorem BD (h:aw fs.length fs) {w:Z2} (hw:CJ v w=1):qi fs v∨∃k,k < fs.length∧vR fs k v:=by
 have h2:=h.two;have one:aP fs 0=(1,0):=Mq ((de (by omega)).symm.trans h.first)
 have go:∀v:Z2,0 < v.2→(∃w,CJ v w=1)→qi fs v∨∃k,k < fs.length∧vR fs k v:=fun v hv ⟨w,hw⟩=>by
  by_cases z:∃k,0 < k∧k < fs.length∧eS fs v k=0
  ·obtain⟨k,k0,k1,e⟩:=z
   left
   unfold eS at e;rw [Mo (by omega),Mo (by omega)] at e;refine⟨k,k1,along (p:=aP fs k) (q:=gE fs k) (w:=w) ?_ hw ?_⟩
   ·rcases qT h k1 with a | a
    ·exact .inl a
    ·exact .inr a
   ·unfold CJ;exact e
  ·right
   have ex:∀j,j≤fs.length→0 < eS fs v j→∃k,k < j∧eS fs v k < 0∧0 < eS fs v (k + 1):=fun j=>by
    induction j with
    | zero =>
     intro _ hp;unfold eS at hp;rw [Mw rfl] at hp
     omega
    | succ j ih =>
     intro hj hp
     by_cases c:0 < eS fs v j
     ·obtain⟨k,a,b⟩:=ih (by omega) c;exact⟨k,by omega,b⟩
     ·refine⟨j,by omega,?_,hp⟩
      by_cases j0:j=0
      ·subst j0;unfold eS;rw [Mw rfl];omega
      ·have:eS fs v j≠0:=fun e=>z ⟨j,by omega,by omega,e⟩;omega
   obtain⟨k,a,b,c⟩:=ex fs.length (Mv _) (by unfold eS;rw [Mo (by omega),Mw rfl];exact hv);refine⟨k,a,?_⟩;unfold vR;rw [o5 h a];exact Int.mul_neg_of_neg_of_pos b c
 rcases Int.lt_trichotomy v.2 0 with c | c | c
 ·rcases go (aT v) (by show 0 < -v.2;omega) ⟨aT w,by unfold CJ aT at *;simp only;grind⟩ with a | ⟨k,a,b⟩
  ·left
   have:=mz a;rw [aU] at this;exact this
  ·refine .inr ⟨k,a,?_⟩;unfold vR at b ⊢;rw [qd] at b;exact b
 ·left
  refine⟨0,by omega,?_⟩;rw [one];refine along (q:=(0,1)) (w:=w) (.inl (by decide)) hw ?_;unfold CJ;rw [c];simp
 ·exact go v c ⟨w,hw⟩
theorem E9 {N:M4} (hd:N.det=1) (h1:0≤N.a * N.c) (h2:0≤N.b * N.d) (h3:(N.a - N.b) * (N.c - N.d) < 0):Eqv N M4.one:=by
 obtain⟨a,b,c,d⟩:=N;simp only [M4.det] at hd h1 h2 h3
 have hbc:0≤b * c:=by
  have e:(a - b) * (c - d)=a * c - a * d - b * c + b * d:=by grind
  omega
 have hsum:a * c + b * d≤2 * (b * c):=by
  have e:(a - b) * (c - d)=a * c - a * d - b * c + b * d:=by grind
  omega
 have hprod:(a * c) * (b * d)=(b * c) * (b * c + 1):=by
  have e:(a * c) * (b * d)=(b * c) * (a * d):=by grind
  rw [e];congr 1;omega
 have hsq:(a * c + b * d) * (a * c + b * d) - 4 * ((a * c) * (b * d))=(a * c - b * d) * (a * c - b * d):=by grind
 have hsq0:=K5 (a * c - b * d);have hle:(a * c + b * d) * (a * c + b * d)≤(2 * (b * c)) * (2 * (b * c)):=Int.mul_le_mul hsum hsum (by omega) (by omega)
 have hz:b * c=0:=by
  have e1:(2 * (b * c)) * (2 * (b * c))=4 * ((b * c) * (b * c)):=by grind
  have e2:(b * c) * (b * c + 1)=(b * c) * (b * c) + b * c:=by grind
  rw [hprod,e2] at hsq;omega
 have had:a * d=1:=by omega
 have hac:a * c=0:=by omega
 have hbd:b * d=0:=by omega
 have ha:a≠0:=fun z=>by rw [z] at had;simp at had
 have hdn:d≠0:=fun z=>by rw [z] at had;simp at had
 have hc0:c=0:=(Int.mul_eq_zero.mp hac).resolve_left ha;have hb0:b=0:=(Int.mul_eq_zero.mp hbd).resolve_right hdn;subst hc0 hb0;have:a ∣ 1:=⟨d,had.symm⟩;have h1:a.natAbs ∣ 1:=Int.natAbs_dvd_natAbs.mpr this;have:=Nat.dvd_one.mp h1;have ha1:a=1∨a = -1:=by omega
 rcases ha1 with rfl | rfl
 ·have:d=1:=by omega
  subst this;exact .inl rfl
 ·have:d = -1:=by omega
  subst this;exact .inr rfl
theorem f7 {m k:M4} (hm:m.T) (hk:k.T) (e:Eqv m k):m=k:=by
 rw [← IV hm,← IV hk];exact HY hk.1 e
structure Wi (fs:List Z2) (m:M4):Prop where
 T:m.T
 v0:qi fs (act m (1,0))
 v1:qi fs (act m (0,1))
 v2:qi fs (act m (1,1))
theorem iy {fs:List Z2} {m:M4} {x y:Z2} (e:x=aT y) (h:qi fs (act m y)):qi fs (act m x):=by
 rw [e,jA];exact mz h
theorem fb {fs:List Z2} {m:M4} (h:Wi fs m):Wi fs (m.mul hR).up:=by
 have d:(m.mul hR).det=1:=by rw [M4.cL,h.T.1];rfl
 refine⟨M4.nF d,dQ (Eqv.up _) ?_,dQ (Eqv.up _) ?_,dQ (Eqv.up _) ?_⟩
 ·rw [bp];exact h.v1
 ·rw [bp];exact iy (y:=(1,1)) (by decide) h.v2
 ·rw [bp];exact iy (y:=(1,0)) (by decide) h.v0
theorem oo {fs:List Z2} (hf:aw fs.length fs) {m:M4} (hT:m.T) (h0:qi fs (act m (1,0))) (h1:qi fs (act m (0,1))) (hr:∀g,g < fs.length→m≠aK fs g):qi fs (act m (1,-1)):=by
 have hd:=hT.1
 rcases BD hf (v:=act m (1,-1)) (w:=act m (0,1)) (by
  unfold CJ act;unfold M4.det at hd;simp only
  grind) with h | ⟨k,hk,hin⟩
 ·exact h
 ·exfalso;have gT:=ib hf hk;refine hr k hk (f7 hT gT ?_);have e:=E9 (N:=(aK fs k).con.mul m) (by rw [M4.cL,Ek gT.1,hd];rfl) ?_ ?_ ?_
  ·have:=(Eqv.refl (aK fs k)).mul e;rw [← dU,Fn gT.1,Cm,m7] at this;exact this
  ·have:=kQ hf h0 hk;unfold sP at this;rw [← bp,jw] at this;exact this
  ·have:=kQ hf h1 hk;unfold sP at this;rw [← bp,iu] at this;exact this
  ·unfold vR sP at hin;rw [← bp] at hin;generalize (aK fs k).con.mul m=N at hin;unfold act at hin;simp only [Int.mul_one] at hin;have e1:N.a + N.b * -1=N.a - N.b:=by omega
   have e2:N.c + N.d * -1=N.c - N.d:=by omega
   rw [e1,e2] at hin;exact hin
theorem kU {fs:List Z2} (hf:aw fs.length fs) {m:M4} (h:Wi fs m) (hr:∀g,g < fs.length→m≠aK fs g):Wi fs (m.mul hS).up:=by
 have d:(m.mul hS).det=1:=by rw [M4.cL,h.T.1];rfl
 refine⟨M4.nF d,dQ (Eqv.up _) ?_,dQ (Eqv.up _) ?_,dQ (Eqv.up _) ?_⟩
 ·rw [bp];exact h.v1
 ·rw [bp];exact iy (y:=(1,0)) (by decide) h.v0
 ·rw [bp];exact iy (y:=(1,-1)) (by decide) (oo hf h.T h.v0 h.v1 hr)
end
theorem sI:∀(n:Nat) (f:Nat→Nat),(∀t,t≤n→f t < n)→∃s t,s < t∧t≤n∧f s=f t
 | 0,f,h=>absurd (h 0 (Mv _)) (by omega)
 | n + 1,f,h=>by
  by_cases c:∃s,s≤n∧f s=f (n + 1)
  ·obtain⟨s,hs,e⟩:=c;exact⟨s,n + 1,by omega,Mv _,e⟩
  ·have ne:∀s,s≤n→f s≠f (n + 1):=fun s hs e=>c ⟨s,hs,e⟩;have hc:=h (n + 1) (Mv _)
   obtain⟨s,t,st,tn,e⟩:=sI n (fun t=>if f t=n then f (n + 1) else f t) fun t ht=>by
    have:=h t (by omega);have:=ne t ht;show (if f t=n then f (n + 1) else f t) < n
    split <;> omega
   refine⟨s,t,st,by omega,?_⟩;have n1:=ne s (by omega);have n2:=ne t (by omega)
   split at e <;> split at e <;> omega
section
variable {fs:List Z2}
theorem uJ (fs:List Z2) (g:Nat):act (aK fs g) (1,0)=aP fs g∨act (aK fs g) (1,0)=aT (aP fs g):=by
 have e:act (eV (aP fs g) (gE fs g)) (1,0)=aP fs g:=by
  rw [jw];unfold eV;split <;> rfl
 unfold aK;rcases gX (eV (aP fs g) (gE fs g)) (1,0) with z | z
 ·left;rw [z,e]
 ·right;rw [z,e]
theorem CP (fs:List Z2) (g:Nat):act (aK fs g) (0,1)=gE fs g∨act (aK fs g) (0,1)=aT (gE fs g):=by
 have e:act (eV (aP fs g) (gE fs g)) (0,1)=gE fs g∨act (eV (aP fs g) (gE fs g)) (0,1)=aT (gE fs g):=by
  rw [iu];unfold eV;split
  ·right;rfl
  ·left;rfl
 unfold aK;rcases gX (eV (aP fs g) (gE fs g)) (0,1) with z | z <;> rcases e with e | e
 ·left;rw [z,e]
 ·right;rw [z,e]
 ·right;rw [z,e]
 ·left;rw [z,e,aU]
theorem AZ {g:Nat} (hg:g + 1 < fs.length):gE fs g=aP fs (g + 1):=by
 unfold gE aP;rw [Nat.mod_eq_of_lt hg]
theorem zt {g:Nat} (hg:g < fs.length):qi fs (gE fs g):=by
 refine⟨(g + 1) % fs.length,Nat.mod_lt _ (by omega),.inl ?_⟩;rfl
theorem uF {g:Nat} (hg:g < fs.length):qi fs (act (aK fs g) (1,0)):=by
 rcases uJ fs g with z | z
 ·exact⟨g,hg,.inl z⟩
 ·exact⟨g,hg,.inr z⟩
theorem zS {g:Nat} (hg:g < fs.length):qi fs (act (aK fs g) (0,1)):=by
 rcases CP fs g with z | z
 ·rw [z];exact zt hg
 ·rw [z];exact mz (zt hg)
theorem Dh (h:aw fs.length fs) (h3:3≤fs.length) {g k:Nat} (hg:g < fs.length) (hk:k < fs.length):((aK fs g).mul hS).up≠aK fs k:=by
 intro e;have gT:=ib h hg
 have key:∀v,sP fs k v = -sP fs g v:=fun v=>by
  unfold sP;rw [← e,Cc];have cm:((aK fs g).mul hS).con=hS.con.mul (aK fs g).con:=by apply DI <;> simp only [M4.mul,M4.con] <;> grind
  rw [cm,bp];generalize act (aK fs g).con v=u;unfold act hS M4.con;simp only
  grind
 obtain⟨j,hj,n1,n2⟩:∃j,j < fs.length∧j≠g∧j≠k:=by
  by_cases a0:0≠g∧0≠k
  ·exact⟨0,by omega,a0⟩
  ·by_cases a1:1≠g∧1≠k
   ·exact⟨1,by omega,a1⟩
   ·exact⟨2,by omega,by omega,by omega⟩
 have hin:=J9 h hj;have o1:=JP h hj hg n1 hin;have o2:=JP h hj hk n2 hin;unfold Dy at o1 o2;rw [key] at o2;omega
theorem vq (h:aw fs.length fs) (h3:3≤fs.length) {g:Nat} (hg:g < fs.length):Wi fs (aK fs g):=by
 have gT:=ib h hg;refine⟨gT,uF hg,zS hg,?_⟩;have d:((aK fs g).mul hS).det=1:=by rw [M4.cL,gT.1];rfl
 have:=oo h (m:=((aK fs g).mul hS).up) (M4.nF d) (dQ (Eqv.up _) (by rw [bp];exact zS hg)) (dQ (Eqv.up _) (by rw [bp];exact iy (y:=(1,0)) (by decide) (uF hg))) (fun k hk=>Dh h h3 hg hk);have e2:=dQ (Eqv.up _).symm this;rw [bp] at e2;exact e2
theorem lQ (h:aw fs.length fs) {i j:Nat} (hi:i < fs.length) (hj:j < fs.length) (e:aP fs i=aP fs j∨aP fs i=aT (aP fs j)):i=j:=by
 have h2:=h.two;have a:=de hi;have b:=de hj;have low0:aP fs 0=(1,0):=Mq ((de (by omega)).symm.trans h.first)
 have key:∀i j:Nat,i < j→j < fs.length→(aP fs i=aP fs j∨aP fs i=aT (aP fs j))→False:=fun i j hij hj e=>by
  have a:=de (fs:=fs) (g:=i) (by omega);have b:=de (fs:=fs) (g:=j) hj;have lj:=h.low j _ b (by omega)
  by_cases i0:i=0
  ·subst i0;rw [low0] at e;rcases e with e | e
   ·have:(aP fs j).2=0:=by rw [← e]
    omega
   ·have:(aT (aP fs j)).2=0:=by rw [← e]
    unfold aT at this;simp only at this;omega
  ·have li:=h.low i _ a (by omega);have lt:=rX h (j - i - 1) i _ _ (by omega) a (by rw [show i + (j - i - 1) + 1=j by omega];exact b);rcases e with e | e
   ·rw [e] at lt;omega
   ·have:(aP fs i).2 = -(aP fs j).2:=by rw [e];rfl
    omega
 rcases Nat.lt_trichotomy i j with z | z | z
 ·exact (key i j z hj e).elim
 ·exact z
 ·refine (key j i z hi ?_).elim;rcases e with e | e
  ·exact .inl e.symm
  ·right;rw [e,aU]
def dI (t:Nat):M4:=⟨1,-(t:Int),0,1⟩
theorem ra (t:Nat):Eqv (((dI t).mul hS).mul hR) (dI (t + 1)):=by
 right
 unfold dI hS hR M4.mul M4.neg;apply DI <;> simp <;> omega
theorem K3 (h:aw fs.length fs) (h3:3≤fs.length) (V:M4→Prop) (h0:V (aK fs 0)) (hT:∀m,V m→V (m.mul hR).up) (hH:∀m,V m→(∀g,g < fs.length→m≠aK fs g)→V (m.mul hS).up):∀g,g < fs.length→V (aK fs g):=by
 intro g
 induction g with
 | zero=>intro _;exact h0
 | succ g ih =>
  intro hg;have vg:=ih (by omega);have wg:=vq h h3 (show g < fs.length by omega)
  let a0:=((aK fs g).mul hR).up
  have va:V a0:=hT _ vg;have wa:Wi fs a0:=fb wg
  have ha0:act a0 (1,0)=aP fs (g + 1)∨act a0 (1,0)=aT (aP fs (g + 1)):=by
   have e:act ((aK fs g).mul hR) (1,0)=act (aK fs g) (0,1):=by rw [bp];rfl
   rw [← AZ hg];rcases gX ((aK fs g).mul hR) (1,0) with z | z <;> rcases CP fs g with w | w
   ·left;show act ((aK fs g).mul hR).up (1,0)=_;rw [z,e,w]
   ·right;show act ((aK fs g).mul hR).up (1,0)=_;rw [z,e,w]
   ·right;show act ((aK fs g).mul hR).up (1,0)=_;rw [z,e,w]
   ·left;show act ((aK fs g).mul hR).up (1,0)=_;rw [z,e,w,aU]
  generalize a0=a at va wa ha0
  by_cases found:∃m,V m∧m.T∧(∃t:Nat,Eqv m (a.mul (dI t)))∧∃k,k < fs.length∧m=aK fs k
  ·obtain⟨m,vm,tm,⟨t,e⟩,k,hk,rfl⟩:=found;have e1:act (a.mul (dI t)) (1,0)=act a (1,0):=by rw [bp];congr 1;unfold dI;rw [jw]
   have ek:aP fs (g + 1)=aP fs k∨aP fs (g + 1)=aT (aP fs k):=by
    have e2:act (aK fs k) (1,0)=act a (1,0)∨act (aK fs k) (1,0)=aT (act a (1,0)):=by
     rcases e with e | e
     ·left;rw [e,e1]
     ·right;rw [e,nQ,e1]
    rcases e2 with e2 | e2 <;> rcases uJ fs k with w | w <;> rcases ha0 with z | z <;> rw [w,z] at e2
    ·left;exact e2.symm
    ·right;rw [e2,aU]
    ·right;exact e2.symm
    ·left;have:=M0 aT e2;rw [aU,aU] at this;exact this.symm
    ·right;rw [e2,aU]
    ·left;rw [aU] at e2;exact e2.symm
    ·left;have:=M0 aT e2;rw [aU,aU] at this;exact this.symm
    ·right;rw [aU] at e2;exact e2.symm
   have:=lQ h hg hk ek;rw [this];exact vm
  ·exfalso;have no:∀m,V m→m.T→(∃t:Nat,Eqv m (a.mul (dI t)))→∀k,k < fs.length→m≠aK fs k:=fun m vm tm et k hk e=>found ⟨m,vm,tm,et,k,hk,e⟩
   have all:∀t:Nat,∃m,V m∧Wi fs m∧Eqv m (a.mul (dI t)):=fun t=>by
    induction t with
    | zero =>
     refine⟨a,va,wa,?_⟩;have:dI 0=M4.one:=by unfold dI M4.one;simp
     rw [this,m7];exact .refl _
    | succ t iht =>
     obtain⟨m,vm,wm,e⟩:=iht;have nr:=no m vm wm.T ⟨t,e⟩;refine⟨_,hT _ (hH m vm nr),fb (kU h wm nr),?_⟩;refine (Eqv.up _).trans (((Eqv.up _).mul (Eqv.refl _)).trans ?_);refine ((e.mul (Eqv.refl hS)).mul (Eqv.refl hR)).trans ?_;rw [dU,dU];have:=(Eqv.refl a).mul (ra t);rw [dU] at this;exact this
   have at_:∀t:Nat,qi fs (act a (-(t:Int),1)):=fun t=>by
    obtain⟨m,_,wm,e⟩:=all t;have:=dQ e.symm wm.v1;rw [bp] at this;have e2:act (dI t) (0,1)=(-(t:Int),1):=by unfold dI;rw [iu]
    rw [e2] at this;exact this
   have ch:∀t:Nat,∃i,i < fs.length∧(act a (-(t:Int),1)=aP fs i∨act a (-(t:Int),1)=aT (aP fs i)):=at_
   let f:Nat→Nat:=fun t=>Classical.choose (ch t)
   have hf:∀t,f t < fs.length∧(act a (-(t:Int),1)=aP fs (f t)∨act a (-(t:Int),1)=aT (aP fs (f t))):=fun t=>Classical.choose_spec (ch t);obtain⟨s,t,st,_,e⟩:=sI fs.length f fun t _=>(hf t).1;have es:=(hf s).2;have et:=(hf t).2;rw [e] at es
   have eq:act a (-(s:Int),1)=act a (-(t:Int),1)∨act a (-(s:Int),1)=aT (act a (-(t:Int),1)):=by
    rcases es with x | x <;> rcases et with y | y <;> rw [x,y]
    ·exact .inl rfl
    ·right;rw [aU]
    ·exact .inr rfl
    ·exact .inl rfl
   have back:=hJ wa.T.1 (-(s:Int),1);rcases eq with x | x
   ·rw [x,hJ wa.T.1] at back;injection back with b1 _
    omega
   ·rw [x,jA,hJ wa.T.1] at back;unfold aT at back;injection back with _ b2
    omega
end
theorem oC {m k:M4} (hm:m.det=1) (hk:k.det=1) (h0:act m (1,0)=act k (1,0)∨act m (1,0)=aT (act k (1,0))) (h1:act m (0,1)=act k (0,1)∨act m (0,1)=aT (act k (0,1))):Eqv m k:=by
 rw [jw,jw] at h0;rw [iu,iu] at h1;obtain⟨a,b,c,d⟩:=m;obtain⟨e,f,g,h⟩:=k;simp only [M4.det,aT] at hm hk h0 h1;rcases h0 with z | z <;> rcases h1 with w | w <;> injection z with z1 z2 <;> injection w with w1 w2 <;> subst z1 z2 w1 w2
 ·exact .inl rfl
 ·exfalso;grind
 ·exfalso;grind
 ·exact .inr rfl
section
variable {fs:List Z2}
theorem xB (L:List M4) (nd:L.Nodup) (hw:∀m∈L,Wi fs m):L.length≤fs.length * fs.length:=by
 by_cases c:L.length≤fs.length * fs.length
 ·exact c
 exfalso
 have ch:∀t:Nat,∃ij:Nat×Nat,t < L.length→ij.1 < fs.length∧ij.2 < fs.length∧∀m,L[t]?=some m→(act m (1,0)=aP fs ij.1∨act m (1,0)=aT (aP fs ij.1))∧(act m (0,1)=aP fs ij.2∨act m (0,1)=aT (aP fs ij.2)):=fun t=>by
  by_cases ht:t < L.length
  ·have w:=hw L[t] (Na _);obtain⟨i,hi,ei⟩:=w.v0;obtain⟨j,hj,ej⟩:=w.v1;refine⟨(i,j),fun _=>⟨hi,hj,fun m hm=>?_⟩⟩;rw [Mm ht] at hm;cases hm;exact⟨ei,ej⟩
  ·exact⟨(0,0),fun z=>absurd z ht⟩
 let f:Nat→Nat×Nat:=fun t=>Classical.choose (ch t)
 have hf:=fun t=>Classical.choose_spec (ch t)
 obtain⟨s,t,st,tn,e⟩:=sI (fs.length * fs.length) (fun t=>(f t).1 * fs.length + (f t).2) fun t ht=>by
  obtain⟨a,b,_⟩:=hf t (by omega);have a':(f t).1 < fs.length:=a;have b':(f t).2 < fs.length:=b;have:((f t).1 + 1) * fs.length≤fs.length * fs.length:=Nw _ a';rw [Nat.add_mul,Nat.one_mul] at this;show (f t).1 * fs.length + (f t).2 < _
  omega
 obtain⟨as,bs,cs⟩:=hf s (by omega);obtain⟨at_,bt,ct⟩:=hf t (by omega);have as':(f s).1 < fs.length:=as;have bs':(f s).2 < fs.length:=bs;have bt':(f t).2 < fs.length:=bt;have e':(f s).1 * fs.length + (f s).2=(f t).1 * fs.length + (f t).2:=e
 have e1:(f s).1=(f t).1:=by
  have d1:((f s).1 * fs.length + (f s).2) / fs.length=((f t).1 * fs.length + (f t).2) / fs.length:=by rw [e']
  rw [Nat.mul_comm (f s).1,Nat.mul_comm (f t).1,Nat.mul_add_div (by omega),Nat.mul_add_div (by omega),Nat.div_eq_of_lt bs',Nat.div_eq_of_lt bt'] at d1;omega
 have e2:(f s).2=(f t).2:=by rw [e1] at e';omega
 have hs:s < L.length:=by omega
 have ht:t < L.length:=by omega
 obtain⟨x0,x1⟩:=cs L[s] (Mm hs);obtain⟨y0,y1⟩:=ct L[t] (Mm ht)
 change (_=aP fs (f s).1∨_=aT (aP fs (f s).1)) at x0
 change (_=aP fs (f s).2∨_=aT (aP fs (f s).2)) at x1
 change (_=aP fs (f t).1∨_=aT (aP fs (f t).1)) at y0
 change (_=aP fs (f t).2∨_=aT (aP fs (f t).2)) at y1;rw [e1] at x0;rw [e2] at x1
 have both:∀{p q r:Z2},(p=r∨p=aT r)→(q=r∨q=aT r)→(p=q∨p=aT q):=fun {p q r} a b=>by
  rcases a with rfl | rfl <;> rcases b with rfl | rfl
  ·exact .inl rfl
  ·right;rw [aU]
  ·exact .inr rfl
  ·exact .inl rfl
 have ws:=hw L[s] (Na _);have wt':=hw L[t] (Na _);have:=f7 ws.T wt'.T (oC ws.T.1 wt'.T.1 (both x0 y0) (both x1 y1));have:=(List.getElem_inj (h₀:=hs) (h₁:=ht) nd).mp this;omega
end
def Sd (fs:List Z2) (ms:List Mk) (m:M4):Prop:=(3≤fs.length∧Wi fs m)∨∃g,g < fs.length∧ms[g]?=some .aB∧m=((aK fs g).mul hS).up
section
variable {fs:List Z2} {ms:List Mk} {v:Z2} {g i j:Nat}
theorem rf (h:aw fs.length fs) (hg:g < fs.length) (w:Z2):sP fs g (act (aK fs g) w)=w.1 * w.2:=by
 unfold sP;rw [hJ (ib h hg).1]
end
section
variable {fs:List Z2} {ms:List Mk}
theorem Lj (m:M4):Eqv ((m.mul hS).mul hS) m:=by
 right
 rw [dU];have:hS.mul hS=M4.one.neg:=by decide
 rw [this];apply DI <;> simp [M4.mul,M4.neg,M4.one]
theorem Ka (m:M4):Eqv (((m.mul hR).mul hR).mul hR) m:=by
 rw [dU,dU];have:hR.mul (hR.mul hR)=M4.one:=by decide
 rw [this,m7];exact .refl _
theorem jc (h:aw fs.length fs) {m:M4} (hm:Wi fs m) {k:Nat} (hk:k < fs.length):(m.mul hS).up≠aK fs k:=fun e=>by
 have e1:Eqv m ((aK fs k).mul hS):=by
  have a:Eqv (aK fs k) (m.mul hS):=by rw [← e];exact Eqv.up _
  exact (Lj m).symm.trans (a.symm.mul (Eqv.refl hS))
 have e2:=kQ h hm.v2 hk;rw [E8 fs k e1,bp,rf h hk] at e2;exact absurd e2 (by decide)
theorem Co (h:aw fs.length fs) (h3:3≤fs.length) (V:M4→Prop) (h0:V (aK fs 0)) (hT:∀m,V m→V (m.mul hR).up) (hH:∀m,V m→(∀g,g < fs.length→m≠aK fs g)→V (m.mul hS).up) (hW:∀m,V m→Wi fs m):∀m,Wi fs m→V m:=by
 have hr:=K3 h h3 V h0 hT hH;intro m wm
 have back:∀a:M4,Wi fs a→(∀k,k < fs.length→a≠aK fs k)→V ((((a.mul hS).up).mul hR).up)→V a:=fun a wa na hv=>by
  have v2:=hT _ (hT _ hv);have d1:(a.mul hS).det=1:=by rw [M4.cL,wa.T.1];rfl
  have e1:(((((a.mul hS).up.mul hR).up.mul hR).up.mul hR).up)=(a.mul hS).up:=by
   refine f7 (M4.nF ?_) (M4.nF d1) ?_
   ·simp only [M4.cL,M4.nR,d1];rfl
   ·refine (Eqv.up _).trans ((((Eqv.up _).trans (((Eqv.up _).trans ((Eqv.refl _).mul (Eqv.refl _))).mul (Eqv.refl _))).mul (Eqv.refl _)).trans ?_);exact Ka _
  rw [e1] at v2;have v3:=hH _ v2 fun k hk=>jc h wa hk
  have e2:(((a.mul hS).up).mul hS).up=a:=by
   refine f7 (M4.nF ?_) wa.T ?_
   ·simp only [M4.cL,M4.nR,d1];rfl
   ·exact (Eqv.up _).trans (((Eqv.up _).mul (Eqv.refl _)).trans (Lj a))
  rw [e2] at v3;exact v3
 by_cases c:V m
 ·exact c
 exfalso
 have all:∀t:Nat,∃a,Wi fs a∧¬ V a∧Eqv a (m.mul (dI t)):=fun t=>by
  induction t with
  | zero =>
   refine⟨m,wm,c,?_⟩;have:dI 0=M4.one:=by unfold dI M4.one;simp
   rw [this,m7];exact .refl _
  | succ t ih =>
   obtain⟨a,wa,na,e⟩:=ih;have nr:∀k,k < fs.length→a≠aK fs k:=fun k hk z=>na (by rw [z];exact hr k hk);refine⟨_,fb (kU h wa nr),fun hv=>na (back a wa nr hv),?_⟩;refine (Eqv.up _).trans (((Eqv.up _).mul (Eqv.refl _)).trans ?_);refine ((e.mul (Eqv.refl hS)).mul (Eqv.refl hR)).trans ?_;rw [dU,dU];have:=(Eqv.refl m).mul (ra t);rw [dU] at this;exact this
 have at_:∀t:Nat,∃i,i < fs.length∧(act m (-(t:Int),1)=aP fs i∨act m (-(t:Int),1)=aT (aP fs i)):=fun t=>by
  obtain⟨a,wa,_,e⟩:=all t;have:=dQ e.symm wa.v1;rw [bp] at this;have e2:act (dI t) (0,1)=(-(t:Int),1):=by unfold dI;rw [iu]
  rw [e2] at this;exact this
 let f:Nat→Nat:=fun t=>Classical.choose (at_ t)
 have hf:∀t,f t < fs.length∧(act m (-(t:Int),1)=aP fs (f t)∨act m (-(t:Int),1)=aT (aP fs (f t))):=fun t=>Classical.choose_spec (at_ t);obtain⟨s,t,st,_,e⟩:=sI fs.length f fun t _=>(hf t).1;have es:=(hf s).2;have et:=(hf t).2;rw [e] at es
 have eq:act m (-(s:Int),1)=act m (-(t:Int),1)∨act m (-(s:Int),1)=aT (act m (-(t:Int),1)):=by
  rcases es with x | x <;> rcases et with y | y <;> rw [x,y]
  ·exact .inl rfl
  ·right;rw [aU]
  ·exact .inr rfl
  ·exact .inl rfl
 have bk:=hJ wm.T.1 (-(s:Int),1);rcases eq with x | x
 ·rw [x,hJ wm.T.1] at bk;injection bk with b1 _
  omega
 ·rw [x,jA,hJ wm.T.1] at bk;unfold aT at bk;injection bk with _ b2
  omega
end
end L2.L3
namespace K55
open PySem L2 L2.L3
def KH (t:e7):D:=.tup [fv t.1,fv t.2.1,fv t.2.2]
theorem A2 {α β:Type} (f:α→β) (l:List α) (i:Nat):(l.map f).eraseIdx i=(l.eraseIdx i).map f:=by
 apply List.ext_getElem?
 intro j;simp only [vD,Ms]
 split <;> rfl
def Cj (x:D) (Q:D→Prop):Prop:=∃fs,x=.tup (fs.map fv)∧aw fs.length fs∧∀ts,b4 fs ts→ts.length≤fs.length→Q (.lst (ts.map KH))
def eJ:Fw:=F1 Cj
def jC:bS:=(hU EV (ae (cC (.int 1)) (ae (eu 1) av)) (aV 3) (aJ (bY 4 (dq 1 (aG nB (af 3) (cC (.int 1))))) (aJ (bY 5 (dq 1 (aG sW (aG fu (af 3) (cC (.int 1))) (eu 1)))) (iW (sE (aL (aG vS (dq 1 (af 3)) (bQ (ae (cC (.int 0)) (ae (cC (.int 1)) av))))) (aL (aG lh (az C6 (ae (aG nB (aG jG (aG cX (af 4) (cC (.int 0))) (aG cX (af 5) (cC (.int 1)))) (aG jG (aG cX (af 4) (cC (.int 1))) (aG cX (af 5) (cC (.int 0))))) av)) (cC (.int 1))))) (aJ (dE 2 (bQ (ae (af 4) (ae (dq 1 (af 3)) (ae (af 5) av))))) (aJ (xH 1 (af 3)) jQ)) bN))))
def j7:bS:=(aJ (cV 1 (kP (ae (af 0) av))) (aJ (cV 2 (o3 av)) (aJ (js (aL (aG KI (eu 1) (cC (.int 2)))) jC) (ef 2 (ck (af 2))))))
theorem sZ:∀ds Q,eJ ds Q→ds.length=1:=o8
theorem vz:∀ds (Q:D→Prop),eJ ds Q→j7 { nx:=fun _=>Q .non,rt:=Q } (aD ["_law_fractions_here","_law_row_here","_law_tiles_here","_law_i","_law_near","_law_far"] ds):=by
 rintro ds Q ⟨x,rfl,fs,rfl,hf,h⟩
 simp_arith only [j7,js,xH]
 refine⟨fun e=>∃(row:List Z2) (acc:List e7) (k3 k4 k5:Option Lo),e=[some (.d (.tup (fs.map fv))),some (.own (row.map fv)),some (.own (acc.map KH)),k3,k4,k5]∧aw row.length row∧(∀rest,b4 row rest→b4 fs (acc ++ rest))∧acc.length + row.length=fs.length,
  y8 1,⟨fs,[],none,none,none,rfl,hf,fun rest t=>t,by simp⟩,?_⟩
 rintro env ⟨row,acc,k3,k4,k5,rfl,hr,ht,hlen⟩;have two:=hr.two;have most:=hf.most;refine⟨_,rfl,?_⟩
 by_cases c:2 < row.length
 ·rw [Mw (by rw [My];omega)]
  simp_arith only [jC,xH,My]
  refine⟨by omega,by omega,?_⟩;refine dg (fun i e=>∃k3 k4 k5:Option Lo,e=[some (.d (.tup (fs.map fv))),some (.own (row.map fv)),some (.own (acc.map KH)),k3,k4,k5]∧∀j u v w,j < i + 1→¬ Iu row.length row j u v w) ?_ ?_ ⟨k3,k4,k5,rfl,fun j u v w hj e=>by have:=e.i0;omega⟩
  ·rintro i x env N hx ⟨k3,k4,k5,rfl,hno⟩ hN
   have hi:i < row.length - 1:=by
    have:=(Mi.mp hx).1;simp [aN] at this;omega
   have hxe:x=.int ((i + 1:Nat):Int):=by
    unfold aN at hx;rw [Ms,MZ (by omega)] at hx;cases hx;simp
    try omega
   subst hxe;have hu:row[i]?=some row[i]:=Mm (by omega);have hv:row[i + 1]?=some row[i + 1]:=Mm (by omega);have hm:(i + 1 + 1) % row.length < row.length:=Nat.mod_lt _ (by omega);have hw:row[(i + 1 + 1) % row.length]?=some (row[(i + 1 + 1) % row.length]):=Mm hm;generalize row[i]=u at hu;generalize row[i + 1]=v at hv;generalize row[(i + 1 + 1) % row.length]=w at hw;have e1:lD (row.map fv) (((i + 1:Nat):Int) - 1)=some (fv u):=by rw [show ((i + 1:Nat):Int) - 1=(i:Int) by omega];exact gF _ _ i _ hu
   have e2:lD (row.map fv) ((i + 1:Nat):Int)=some (fv v):=gF _ _ (i + 1) _ hv
   have e3:lD (row.map fv) ((((i + 1:Nat):Int) + 1).fmod (row.length:Int))=some (fv w):=by
    have:(((i + 1:Nat):Int) + 1).fmod (row.length:Int)=(((i + 1 + 1) % row.length:Nat):Int):=by
     rw [Int.fmod_eq_emod_of_nonneg _ (by omega),Int.natCast_emod,show (((i + 1 + 1:Nat)):Int)=((i + 1:Nat):Int) + 1 by omega]
    rw [this];exact gF _ _ _ _ hw
   have bu:=hr.bits u (Mu hu);have bw:=hr.bits w (Mu hw)
   simp_arith only [xH,My]
   refine⟨_,_,rfl,e1,by show (row.length:Int)≠0;omega,_,_,rfl,e3,_,_,rfl,e2,?_⟩;rw [show (D.tup [D.int 0,D.int 1])=fv (0,1) from rfl,Ig];refine⟨_,rfl,?_⟩
   by_cases c0:v=(0,1)
   ·rw [decide_eq_true c0];refine hN _ ⟨_,_,_,rfl,fun j a b d hj e=>?_⟩;rcases M9.mp hj with z | z
    ·exact hno j a b d z e
    ·subst z;have:=e.mid;rw [hv] at this;exact e.ne ((Mq this).symm.trans c0)
   ·rw [decide_eq_false c0];show cX (fv u) (.int 0) _
    rw [zp,zU]
    simp_arith only [and_true]
    refine⟨ff bu.1 bw.2 (by decide),?_⟩;rw [zU,zp]
    simp_arith only [and_true]
    refine⟨ff bu.2 bw.1 (by decide),?_⟩
    by_cases c1:((u.1 * w.2 - u.2 * w.1).natAbs:Int)=1
    ·rw [Mw c1];have ear:Iu row.length row (i + 1) u v w:=⟨by omega,by omega,by rw [show i + 1 - 1=i by omega];exact hu,hv,hw,c0,by show (u.1 * w.2 - u.2 * w.1).natAbs=1;omega⟩;have cut:=hr.cut c ear;have hle:(row.eraseIdx (i + 1)).length=row.length - 1:=by rw [List.length_eraseIdx,Mw (by omega)]
     refine⟨by omega,_,_,rfl,e2,i + 1,rfl,by omega,by omega,⟨row.eraseIdx (i + 1),acc ++ [(u,v,w)],_,_,_,A2 .. ,by rw [List.map_append];rfl,rfl,rfl,rfl,by rw [hle];exact cut,fun rest t=>?_,?_⟩,?_⟩
     ·have:=ht ((u,v,w) :: rest) (.cut c ear t);rw [List.append_assoc];exact this
     ·rw [hle,MW];simp;omega
     ·show ((row.map fv).eraseIdx (i + 1)).length < (row.map fv).length
      rw [List.length_eraseIdx,Mw (by simp;omega),My];omega
    ·rw [Mo c1];refine hN _ ⟨_,_,_,rfl,fun j a b d hj e=>?_⟩;rcases M9.mp hj with z | z
     ·exact hno j a b d z e
     ·subst z;have q1:=e.near;have q2:=e.far;rw [show i + 1 - 1=i by omega,hu] at q1;rw [hw] at q2;cases q1;cases q2;have:=e.one;unfold eT at this;exact c1 (by omega)
  ·rintro env ⟨k3,k4,k5,rfl,hno⟩
   exfalso;obtain⟨i,u,v,w,e⟩:=HI hr c;have el:(aN 1 ((row.length:Int) - 1).toNat).length=row.length - 1:=by simp [aN] <;> omega
   rw [el] at hno;exact hno i u v w (by have:=e.il;omega) e
 ·rw [Mo (by rw [My];omega)];refine⟨_,rfl,_,rfl,?_⟩;have t:=ht [] (.done (by omega));rw [Nf] at t;exact h acc t (by omega)
def dM:bF→D
 | .gap i=>.int i
 | .edge e=>.tup [fv e.1,fv e.2]
theorem bZ (p:bF):aX (dM p)=true∧dep (dM p)≤8:=by
 cases p with
 | gap i=>exact⟨rfl,by simp [dM,dep]⟩
 | edge e=>exact⟨by simp [dM,fv,aX,iA],by simp [dM,fv,dep,cB]⟩
theorem Ab {x y:Z2} (h:fv x=fv y):x=y:=by
 unfold fv at h;simp only [D.tup.injEq,List.cons.injEq,D.int.injEq,and_true] at h;exact Nk h.1 h.2
theorem Aq {p q:bF} (h:dM p=dM q):p=q:=by
 cases p with
 | gap i=>cases q with
  | gap j=>simp only [dM,D.int.injEq] at h;rw [show i=j by omega]
  | edge e=>simp only [dM] at h;cases h
 | edge e=>cases q with
  | gap j=>simp only [dM] at h;cases h
  | edge d =>
   simp only [dM,D.tup.injEq,List.cons.injEq,and_true] at h;rw [show e=d from Nk (Ab h.1) (Ab h.2)]
theorem x8 (p q:bF):aY (dM p) (dM q)=decide (p=q):=by
 rw [Bool.eq_iff_iff,zW (bZ p).1 (bZ q).1,MU];exact⟨Aq,fun h=>h▸rfl⟩
structure gw (kvs:List (D×D)) (f:bF→Option bF):Prop where
 ok:bg kvs
 get:∀p,dH kvs (dM p)=(f p).map dM
 key:∀kv∈kvs,∃p,kv.1=dM p
def tI (f:bF→Option bF) (p q:bF):bF→Option bF:=fun x=>if x=p then some q else f x
theorem cj {f:bF→Option bF} {p q:bF}:tI f p q p=some q:=Mw rfl
theorem bP {f:bF→Option bF} {p q x:bF} (h:x≠p):tI f p q x=f x:=Mo h
theorem gw.nil:gw [] (fun _=>none):=⟨bg.nil,fun _=>rfl,fun kv h=>absurd h MN⟩
theorem gw.put {kvs:List (D×D)} {f:bF→Option bF} (h:gw kvs f) (p q:bF):gw (putN kvs (dM p) (dM q)) (tI f p q):=by
 refine⟨h.ok.put (bZ p).1 (bZ p).2,fun x=>?_,fun kv m=>?_⟩
 ·rw [nH h.ok (bZ p).1 (bZ x).1,x8,h.get];unfold tI
  by_cases c:p=x
  ·rw [Mw (decide_eq_true c),Mw c.symm];rfl
  ·rw [Mo (by simpa using c),Mo (fun z=>c z.symm)]
 ·unfold putN at m
  split at m
  ·obtain⟨kw,m',rfl⟩:=MT.mp m;obtain⟨z,hz⟩:=h.key kw m';refine⟨z,?_⟩
   split <;> exact hz
  ·rcases MR.mp m with m | m
   ·exact h.key kv m
   ·rw [MG] at m;subst m;exact⟨p,rfl⟩
theorem gw.any {kvs:List (D×D)} {f:bF→Option bF} (h:gw kvs f) (p:bF):(kvs.any fun kv=>aY kv.1 (dM p))=(f p).isSome:=by
 rw [B3,h.get,Option.isSome_map]
theorem gw.mem {kvs:List (D×D)} {f:bF→Option bF} (h:gw kvs f) (p:bF):dM p∈kvs.map (·.1)↔(f p).isSome=true:=by
 rw [← h.any,List.any_eq_true,MT]
 constructor
 ·rintro⟨kv,m,e⟩;exact⟨kv,m,by rw [e];exact gH _ (bZ p).1⟩
 ·rintro⟨kv,m,e⟩;obtain⟨z,hz⟩:=h.key kv m;rw [hz,x8,MU] at e;exact⟨kv,m,by rw [hz,e]⟩
def kb (fs:List Z2) (ms:List Mk) (ha th:bF→Option bF) (f:bF):Prop :=
 (2 < fs.length∧∃ts,c9 fs ts∧b4 fs ts∧ts.length≤fs.length∧Links fs ms ts ha th∧qr fs ts ha f) ∨
 (fs.length=2∧(∀i,ms[i]?=some Mk.aB→th (.gap i)=some (.gap i)∧ha (.gap i)=some (.gap (if ms[1 - i]?=some Mk.aB then 1 - i else i)))∧f=.gap (if ms[1]?=some Mk.aB then 1 else 0))
def BY (x:D) (Q:D→Prop):Prop:=∃fs ms,x=iz fs ms∧bh fs ms∧∀hk tk ha th f,gw hk ha→gw tk th→kb fs ms ha th f→Q (.tup [.obj (iw hk),.obj (iw tk),dM f])
structure xA (ts:List e7) (th:bF→Option bF):Prop where
 rot:∀t∈ts,th (.edge (t.1,t.2.1))=some (.edge (t.2.1,t.2.2))∧th (.edge (t.2.1,t.2.2))=some (.edge (t.2.2,t.1))∧th (.edge (t.2.2,t.1))=some (.edge (t.1,t.2.1))
 only:∀e,(th (.edge e)).isSome=true→e∈eR ts
 gaps:∀i,th (.gap i)=none
theorem xA.nil:xA [] (fun _=>none):=⟨fun t h=>absurd h MN,fun e h=>(by cases h),fun _=>rfl⟩
theorem xW (ts:List e7) (t:e7):eR (ts ++ [t])=eR ts ++ te t:=by unfold eR;simp
theorem xA.snoc {ts:List e7} {th:bF→Option bF} (h:xA ts th) {t:e7} (nd:(eR (ts ++ [t])).Nodup) :
  xA (ts ++ [t]) (tI (tI (tI th (.edge (t.1,t.2.1)) (.edge (t.2.1,t.2.2))) (.edge (t.2.1,t.2.2)) (.edge (t.2.2,t.1))) (.edge (t.2.2,t.1)) (.edge (t.1,t.2.1))):=by
 rw [xW,Nu] at nd;obtain⟨n1,n2,n3⟩:=nd;unfold te at n2 n3;simp only [M5,MA,MN,or_false,not_or] at n2;obtain⟨⟨a12,a13⟩,a23,_⟩:=n2;have e12:(bF.edge (t.1,t.2.1))≠.edge (t.2.1,t.2.2):=fun z=>a12 (by injection z);have e13:(bF.edge (t.1,t.2.1))≠.edge (t.2.2,t.1):=fun z=>a13 (by injection z);have e23:(bF.edge (t.2.1,t.2.2))≠.edge (t.2.2,t.1):=fun z=>a23 (by injection z)
 have old:∀e∈eR ts,tI (tI (tI th (.edge (t.1,t.2.1)) (.edge (t.2.1,t.2.2))) (.edge (t.2.1,t.2.2)) (.edge (t.2.2,t.1))) (.edge (t.2.2,t.1)) (.edge (t.1,t.2.1)) (.edge e)=th (.edge e):=fun e he=>by
  have q:=fun x hx (z:bF.edge e=.edge x)=>n3 e he x hx (by injection z);rw [bP (q _ (by simp)),bP (q _ (by simp)),bP (q _ (by simp))]
 refine⟨fun u hu=>?_,fun e he=>?_,fun i=>?_⟩
 ·rcases MR.mp hu with hu | hu
  ·have m:∀x∈te u,x∈eR ts:=fun x hx=>zc hu hx;unfold te at m;have r:=h.rot u hu;exact⟨by rw [old _ (m _ (by simp))];exact r.1,by rw [old _ (m _ (by simp))];exact r.2.1,by rw [old _ (m _ (by simp))];exact r.2.2⟩
  ·rw [MG] at hu;subst hu;exact⟨by rw [bP e13,bP e12,cj],by rw [bP e23,cj],cj⟩
 ·rw [xW]
  by_cases c:e∈te t
  ·exact MR.mpr (.inr c)
  ·refine MR.mpr (.inl (h.only e ?_));unfold te at c;simp only [MA,MN,or_false,not_or] at c;have q:∀x,e≠x→bF.edge e≠.edge x:=fun x hx z=>hx (by injection z);rw [bP (q _ c.2.2),bP (q _ c.2.1),bP (q _ c.1)] at he;exact he
 ·rw [bP (by simp),bP (by simp),bP (by simp)];exact h.gaps i
structure Dq (fs:List Z2) (ms:List Mk) (ts:List e7) (j:Nat) (ha th:bF→Option bF):Prop where
 rot:∀t∈ts,th (.edge (t.1,t.2.1))=some (.edge (t.2.1,t.2.2))∧th (.edge (t.2.1,t.2.2))=some (.edge (t.2.2,t.1))∧th (.edge (t.2.2,t.1))=some (.edge (t.1,t.2.1))
 only:∀e,(th (.edge e)).isSome=true→e∈eR ts
 thg:∀i,i < j→ms[i]?=some Mk.aB→th (.gap i)=some (.gap i)
 hag:∀i,i < j→ms[i]?=some Mk.aB→ha (.gap i)=some (.edge (bo fs i))∧ha (.edge (bo fs i))=some (.gap i)
 hah:∀i,i < j→ms[i]?=some Mk.half→ha (.edge (bo fs i))=some (.edge (bo fs i))
 ham:∀i k,i < j→ms[i]?=some (Mk.gap k)→ha (.edge (bo fs i))=some (.edge (bo fs k))
 hai:∀e∈eR ts,(∀i,i < j→e≠bo fs i)→ha (.edge e)=some (.edge (rv e))
theorem Dq.more {fs:List Z2} {ms:List Mk} {ts:List e7} {j:Nat} {ha th ha' th':bF→Option bF} (hf:aw fs.length fs) (hj:j < fs.length) (h:Dq fs ms ts j ha th)
  (h1:∀x,x≠.gap j→x≠.edge (bo fs j)→ha' x=ha x) (h2:∀x,x≠.gap j→th' x=th x)
  (h3:ms[j]?=some Mk.aB→th' (.gap j)=some (.gap j)∧ha' (.gap j)=some (.edge (bo fs j))∧ha' (.edge (bo fs j))=some (.gap j))
  (h4:ms[j]?=some Mk.half→ha' (.edge (bo fs j))=some (.edge (bo fs j))) (h5:∀k,ms[j]?=some (Mk.gap k)→ha' (.edge (bo fs j))=some (.edge (bo fs k))):Dq fs ms ts (j + 1) ha' th':=by
 have ne:∀i,i < j→bF.edge (bo fs i)≠.edge (bo fs j):=fun i hi z=>by
  have:=rz (i:=i) (j:=j) hf (by omega) hj (by injection z);omega
 have ng:∀i,i < j→bF.gap i≠.gap j:=fun i hi z=>by injection z with z;omega
 refine⟨fun t ht=>?_,fun e he=>?_,fun i hi hm=>?_,fun i hi hm=>?_,fun i hi hm=>?_,fun i k hi hm=>?_,fun e he hn=>?_⟩
 ·rw [h2 _ (by simp),h2 _ (by simp),h2 _ (by simp)];exact h.rot t ht
 ·rw [h2 _ (by simp)] at he;exact h.only e he
 ·rcases M9.mp hi with z | z
  ·rw [h2 _ (ng i z)];exact h.thg i z hm
  ·subst z;exact (h3 hm).1
 ·rcases M9.mp hi with z | z
  ·rw [h1 _ (ng i z) (by simp),h1 _ (by simp) (ne i z)];exact h.hag i z hm
  ·subst z;exact (h3 hm).2
 ·rcases M9.mp hi with z | z
  ·rw [h1 _ (by simp) (ne i z)];exact h.hah i z hm
  ·subst z;exact h4 hm
 ·rcases M9.mp hi with z | z
  ·rw [h1 _ (by simp) (ne i z)];exact h.ham i k z hm
  ·subst z;exact h5 k hm
 ·rw [h1 _ (by simp) (fun z=>hn j (by omega) (by injection z))];exact h.hai e he fun i hi=>hn i (by omega)
theorem tV {fs:List Z2} {i:Nat} (h:i < fs.length) {Q:D→Prop} (q:Q (dM (.edge (bo fs i)))):cX (.lst ((List.range fs.length).map fun i=>dM (.edge (bo fs i)))) (.int (i:Int)) Q :=
 ⟨_,gF (fun i=>dM (.edge (bo fs i))) (List.range fs.length) i i (by rw [MZ h]),q⟩
section
variable {a b:D} {Q:D→Prop}
theorem HP:cX (.tup [a,b]) (.int 0) Q=Q a:=propext ⟨fun⟨v,e,q⟩=>by have:some a=some v:=e;cases this;exact q,fun q=>⟨a,rfl,q⟩⟩
theorem Hy:cX (.tup [a,b]) (.int 1) Q=Q b:=propext ⟨fun⟨v,e,q⟩=>by have:some b=some v:=e;cases this;exact q,fun q=>⟨b,rfl,q⟩⟩
theorem Ip:cX (.lst [a,b]) (.int 0) Q=Q a:=propext ⟨fun⟨v,e,q⟩=>by have:some a=some v:=e;cases this;exact q,fun q=>⟨a,rfl,q⟩⟩
theorem Ir:cX (.lst [a,b]) (.int 1) Q=Q b:=propext ⟨fun⟨v,e,q⟩=>by have:some b=some v:=e;cases this;exact q,fun q=>⟨b,rfl,q⟩⟩
end
theorem x6 {z z':Str} {Q:D→Prop}:vS (.str z) (.str z') Q=Q (.bl (!(z == z'))):=by
 unfold vS jB;simp only [dep,aY,Nc,and_self,true_and]
theorem IA {i:Int} {z:Str} {Q:D→Prop}:lh (.int i) (.str z) Q=Q (.bl false):=by
 unfold lh jB;simp [dep,aY]
def vV (fs:List Z2):List D:=(List.range fs.length).map fun i=>dM (.edge (bo fs i))
def d5:bS:=(aJ (bY 11 (bQ (ae (bQ (ae (cC (.int 1)) (ae (cC (.int 0)) av))) (ae (bQ (ae (cC (.int 0)) (ae (cC (.int 1)) av))) av)))) (aJ (dJ 4 (iW (aL (aG lh (az gy (ae (af 1) av)) (cC (.int 2)))) (aJ (bY 11 (aG cX (jZ (ae (cC (.int 1)) (ae (cC (.int 0)) av))) (az tJ (ae (aG vS (aG cX (af 2) (cC (.int 1))) (cC (.str "third"))) av)))) (oM (jZ (ae (cC (.int 0)) (ae (cC (.int 1)) av))) (aV 9) (iW (aL (aG lh (aG cX (af 2) (af 9)) (cC (.str "third")))) (aZ 8 (af 9) (aG cX (jZ (ae (af 9) (ae (aG nB (cC (.int 1)) (af 9)) av))) (az tJ (ae (aG lh (aG cX (af 2) (aG nB (cC (.int 1)) (af 9))) (cC (.str "third"))) av)))) bN))) (iW (aL (aG (DZ true) (af 11) (af 4))) (bY 11 (mN 8 (aG cX (af 3) (vU oZ (cC (.int 1)))))) bN))) (dJ 8 (ck (bQ (ae (af 8) (ae (af 4) (ae (af 11) av))))))))
def dZ:bS:=(aJ (tP (ae (af 2) av) (iC 2 (bO (aV 9) (bO (aV 10) iU))) (iW (aL (aG lh (af 10) (cC (.str "third")))) (aJ (aZ 4 (af 9) (af 9)) (aJ (aZ 8 (af 9) (aG cX (af 3) (af 9))) (aZ 8 (aG cX (af 3) (af 9)) (af 9)))) (iW (aL (aG lh (af 10) (cC (.str "half")))) (aZ 8 (aG cX (af 3) (af 9)) (aG cX (af 3) (af 9))) (aZ 8 (aG cX (af 3) (af 9)) (aG cX (af 3) (af 10)))))) d5)
def fS:bS:=(aJ (kH 8) (aJ (qe 4 (iC 2 (bO (aV 5) (bO (aV 7) iU))) (aZ 8 (bQ (ae (af 5) (ae (af 7) av))) (bQ (ae (af 7) (ae (af 5) av))))) dZ))
theorem yO {fs:List Z2} {ms:List Mk} {Q:D→Prop} (hf:bh fs ms) (h:∀hk tk ha th f,gw hk ha→gw tk th→kb fs ms ha th f→Q (.tup [.obj (iw hk),.obj (iw tk),dM f])) :
  ∀(ts:List e7) (tk:List (D×D)) (th:bF→Option bF) (k5 k6 k7:Option Lo),b4 fs ts→ts.length≤fs.length→gw tk th→xA ts th→tk.length≤3 * ts.length →
  fS { nx:=fun _=>Q .non,rt:=Q } [some (.d (iz fs ms)),some (.d (.tup (fs.map fv))),some (.d (.tup (ms.map jx))),some (.d (.lst (vV fs))),some (.dic tk),k5,k6,k7,none,none,none,none]:=by
 have two:=hf.fr.two;have most:=hf.fr.most;intro ts tk th k5 k6 k7 htl hlen hd ht hl;have ok:=xK htl hf.fr
 have rest6:∀(hk:List (D×D)) (ha:bF→Option bF) (k5 k7:Option Lo),gw hk ha→(∀e∈eR ts,ha (.edge e)=some (.edge (rv e)))→(∀i,ha (.gap i)=none)→hk.length≤tk.length →
   dZ { nx:=fun _=>Q .non,rt:=Q } [some (.d (iz fs ms)),some (.d (.tup (fs.map fv))),some (.d (.tup (ms.map jx))),some (.d (.lst (vV fs))),some (.dic tk),k5,k6,k7,some (.dic hk),none,none,none]:=by
  intro hk ha k5 k7 hd2 hrv hg hl2
  have rest7:∀(hk tk:List (D×D)) (ha th:bF→Option bF) (k9 k10:Option Lo),gw hk ha→gw tk th→Dq fs ms ts fs.length ha th→hk.length≤1000 →
    d5 { nx:=fun _=>Q .non,rt:=Q } [some (.d (iz fs ms)),some (.d (.tup (fs.map fv))),some (.d (.tup (ms.map jx))),some (.d (.lst (vV fs))),some (.dic tk),k5,k6,k7,some (.dic hk),k9,k10,none]:=by
   intro hk tk ha th k9 k10 e1 e2 hh hl;have ed:(D.tup [D.tup [D.int 1,D.int 0],D.tup [D.int 0,D.int 1]])=dM (.edge nL):=rfl
   simp_arith only [d5,dJ,Lo.dic.injEq,My]
   rw [ed]
   by_cases c:fs.length=2
   ·rw [Mw (by omega)];obtain⟨t3,ngap⟩:=hf.mar.few c;have ml:=hf.mar.len
    have at_:∀i,i < 2→ms[i]?=some Mk.aB∨ms[i]?=some Mk.half:=fun i hi=>by
     rcases rZ hf.mar (i:=i) (by omega) with z | z | ⟨j,_,z⟩
     ·exact .inr z
     ·exact .inl z
     ·exact absurd z (ngap i j)
    have sz2:=MK;have kg0:=bZ (.gap 0);have kg1:=bZ (.gap 1)
    obtain⟨m0,m1,rfl⟩:∃m0 m1,ms=[m0,m1]:=by
     match ms,(show ms.length=2 by omega) with
     | [a,b],_=>exact⟨a,b,rfl⟩
    have b0:=at_ 0 (by omega);have b1:=at_ 1 (by omega);simp only [MV,MS,Option.some.injEq] at b0 b1;have q1:(Str.ofString "half" == Str.ofString "third")=false:=by decide
    have q2:(Str.ofString "third" == Str.ofString "third")=true:=by decide
    rcases b0 with rfl | rfl <;> rcases b1 with rfl | rfl
    ·have a1:=e1.put (.gap 0) (.gap 1);have a2:=a1.put (.gap 1) (.gap 0);have n1:=d9 (kvs:=hk) (k:=dM (.gap 0)) (v:=dM (.gap 1))
     simp_arith only [turns,jx,x6,q1,q2,aZ,dJ,Lo.dic.injEq,HP,Hy,Ip,Ir]
     refine⟨kg0.1,kg0.2,e1.ok,by omega,kg1.1,kg1.2,a1.ok,Nx n1 (by omega),h _ _ _ _ (.gap 1) a2 e2 (.inr ⟨c,fun i hi=>⟨hh.thg i (bL hf.mar hi) hi,?_⟩,rfl⟩)⟩
     match i,hi with
     | 0,_=>rw [bP (by simp),cj];rfl
     | 1,_=>rw [cj];rfl
    ·have a1:=e1.put (.gap 0) (.gap 0)
     simp_arith only [turns,jx,x6,q1,q2,aZ,dJ,Lo.dic.injEq,HP,Hy,Ip,Ir]
     refine⟨kg0.1,kg0.2,e1.ok,by omega,h _ _ _ _ (.gap 0) a1 e2 (.inr ⟨c,fun i hi=>⟨hh.thg i (bL hf.mar hi) hi,?_⟩,rfl⟩)⟩
     match i,hi with
     | 0,_=>rw [cj];rfl
     | 1,hi=>simp at hi
    ·have a1:=e1.put (.gap 1) (.gap 1)
     simp_arith only [turns,jx,x6,q1,q2,aZ,dJ,Lo.dic.injEq,HP,Hy,Ip,Ir]
     refine⟨kg1.1,kg1.2,e1.ok,by omega,h _ _ _ _ (.gap 1) a1 e2 (.inr ⟨c,fun i hi=>⟨hh.thg i (bL hf.mar hi) hi,?_⟩,rfl⟩)⟩
     match i,hi with
     | 0,hi=>simp at hi
     | 1,_=>rw [cj];rfl
    ·simp at t3
   ·rw [Mo (by omega)];have hn:2 < fs.length:=by omega
    have lk:Links fs ms ts ha th:=⟨hh.rot,fun i hi=>hh.thg i (bL hf.mar hi) hi,fun i hi=>hh.hag i (bL hf.mar hi) hi,fun i hi=>hh.hah i (bL hf.mar hi) hi,fun i k hi=>hh.ham i k (bL hf.mar hi) hi,fun e he hb=>hh.hai e he fun i hi z=>hb (z▸qF hi)⟩
    have in1:(th (.edge nL)).isSome=true↔nL∈eR ts:=⟨hh.only nL,fun m=>by
     obtain⟨q,hq,_⟩:=xf (p:=.edge nL) lk m
     rw [hq];rfl⟩
    simp only [DZ];have ke:=bZ (.edge nL);refine⟨tk,rfl,ke.1,ke.2,e2.ok,_,rfl,?_⟩;rw [Mw trivial,e2.any]
    by_cases m:nL∈eR ts
    ·rw [in1.mpr m];exact h hk tk ha th _ e1 e2 (.inl ⟨hn,ts,ok,htl,hlen,lk,.inl ⟨m,rfl⟩⟩)
    ·have nm:(th (.edge nL)).isSome=false:=by
      cases z:(th (.edge nL)).isSome with
      | false=>rfl
      | true=>exact absurd (in1.mp z) m
     rw [nm];obtain⟨f,hf1,hf2,hf3⟩:=jN (p:=.edge (bo fs (fs.length - 1))) hf hn ok lk (i9 hf.fr hn ok (by omega));have kl:=bZ (.edge (bo fs (fs.length - 1)))
     have al:lD (vV fs) (-1)=some (dM (.edge (bo fs (fs.length - 1)))):=by
      have lg:(vV fs).length=fs.length:=by simp [vV]
      have ix:vT (vV fs).length (-1)=some (fs.length - 1):=by
       unfold vT;rw [lg,Mo (by decide),Mw (by omega)]
       congr 1;omega
      unfold lD;rw [ix];show (vV fs)[fs.length - 1]?=_
      unfold vV;rw [Ms,MZ (by omega)];rfl
     show mN 8 _ _ _
     simp_arith only [mN,Lo.dic.injEq]
     refine⟨_,al,dM f,kl.1,kl.2,e1.ok,by rw [e1.get,hf1];rfl,?_⟩;exact h hk tk ha th f e1 e2 (.inl ⟨hn,ts,ok,htl,hlen,lk,.inr ⟨m,hf1⟩⟩)
  simp_arith only [dZ,tP,Lo.dic.injEq]
  refine⟨_,_,rfl,rfl,?_⟩;have ml:=hf.mar.len;have sz:=MK;refine dg (fun j e=>∃(hk tk:List (D×D)) (ha th:bF→Option bF) (k9 k10:Option Lo),e=[some (.d (iz fs ms)),some (.d (.tup (fs.map fv))),some (.d (.tup (ms.map jx))),some (.d (.lst (vV fs))),some (.dic tk),k5,k6,k7,some (.dic hk),k9,k10,none]∧gw hk ha∧gw tk th∧Dq fs ms ts j ha th∧hk.length≤100 + 2 * j∧tk.length≤100 + j) ?_ ?_ ⟨hk,tk,ha,th,none,none,rfl,hd2,hd,⟨ht.rot,ht.only,fun i hi=>absurd hi (Nr _),fun i hi=>absurd hi (Nr _),fun i hi=>absurd hi (Nr _),fun i k hi=>absurd hi (Nr _),fun e he _=>hrv e he⟩,by omega,by omega⟩
  ·rintro j x env N hx ⟨hk,tk,ha,th,k9,k10,rfl,e1,e2,hh,l1,l2⟩ hN
   obtain⟨m,hm,rfl⟩:∃m,ms[j]?=some m∧x=.tup [.int (j:Int),jx m]:=by
    obtain⟨y,hy,rfl⟩:=wF hx;rw [Ms] at hy;obtain⟨m,hm,rfl⟩:=Nh.mp hy;exact⟨m,hm,rfl⟩
   have hj:=bL hf.mar hm;have kg:=bZ (.gap j);have ke:=bZ (.edge (bo fs j))
   cases m with
   | aB =>
    have a1:=e2.put (.gap j) (.gap j);have a2:=e1.put (.gap j) (.edge (bo fs j));have a3:=a2.put (.edge (bo fs j)) (.gap j);have n1:=d9 (kvs:=tk) (k:=dM (.gap j)) (v:=dM (.gap j));have n2:=d9 (kvs:=hk) (k:=dM (.gap j)) (v:=dM (.edge (bo fs j)));have n3:=d9 (kvs:=putN hk (dM (.gap j)) (dM (.edge (bo fs j)))) (k:=dM (.edge (bo fs j))) (v:=dM (.gap j))
    simp_arith only [jx,aZ,Lo.dic.injEq,vV]
    rw [Mw (beq_self_eq_true _)];refine⟨kg.1,kg.2,e2.ok,by omega,tV hj ⟨kg.1,kg.2,e1.ok,by omega,tV hj ⟨ke.1,ke.2,a2.ok,Nx n2 (by omega),hN _ ⟨_,_,_,_,_,_,rfl,a3,a1,?_,Ni n3 (by omega),Ni n1 (by omega)⟩⟩⟩⟩
    refine hh.more hf.fr hj (fun x x1 x2=>by rw [bP x2,bP x1]) (fun x x1=>bP x1) (fun _=>⟨cj,by rw [bP (by simp),cj],cj⟩) (fun z=>by rw [hm] at z;cases z) (fun k z=>by rw [hm] at z;cases z)
   | half =>
    have a1:=e1.put (.edge (bo fs j)) (.edge (bo fs j));have n1:=d9 (kvs:=hk) (k:=dM (.edge (bo fs j))) (v:=dM (.edge (bo fs j)))
    simp_arith only [jx,aZ,Lo.dic.injEq,vV]
    rw [Mo (by decide),Mw (beq_self_eq_true _)];refine tV hj (tV hj ⟨ke.1,ke.2,e1.ok,by omega,hN _ ⟨_,_,_,_,_,_,rfl,a1,e2,?_,Ni n1 (by omega),by omega⟩⟩)
    exact hh.more hf.fr hj (fun x x1 x2=>bP x2) (fun x x1=>rfl) (fun z=>by rw [hm] at z;cases z) (fun _=>cj) (fun k z=>by rw [hm] at z;cases z)
   | gap k =>
    have hk':k < fs.length:=bL hf.mar (hf.mar.pair j k hm).2;have a1:=e1.put (.edge (bo fs j)) (.edge (bo fs k));have n1:=d9 (kvs:=hk) (k:=dM (.edge (bo fs j))) (v:=dM (.edge (bo fs k)))
    simp_arith only [jx,aZ,Lo.dic.injEq,vV,IA]
    refine tV hk' (tV hj ⟨ke.1,ke.2,e1.ok,by omega,hN _ ⟨_,_,_,_,_,_,rfl,a1,e2,?_,Ni n1 (by omega),by omega⟩⟩);exact hh.more hf.fr hj (fun x x1 x2=>bP x2) (fun x x1=>rfl) (fun z=>by rw [hm] at z;cases z) (fun z=>by rw [hm] at z;cases z) (fun k' z=>by rw [hm] at z;cases z;exact cj)
  ·rintro env ⟨hk,tk,ha,th,k9,k10,rfl,e1,e2,hh,l1,l2⟩;have el:(jI (ms.map jx)).length=fs.length:=by rw [n9,My,ml]
   rw [el] at hh l1;exact rest7 hk tk ha th k9 k10 e1 e2 hh (by omega)
 simp_arith only [fS,kH,qe,Lo.dic.injEq]
 intro p;have sz:=MK;refine dg (fun i e=>∃(hk:List (D×D)) (ha:bF→Option bF) (k5 k7:Option Lo),e=[some (.d (iz fs ms)),some (.d (.tup (fs.map fv))),some (.d (.tup (ms.map jx))),some (.d (.lst (vV fs))),some (.d (.obj (og p))),k5,k6,k7,some (.dic hk),none,none,none]∧gw hk ha∧(∀e,dM (.edge e)∈(tk.map (·.1)).take i→ha (.edge e)=some (.edge (rv e)))∧(∀i,ha (.gap i)=none)∧hk.length≤i) ?_ ?_ ⟨[],_,k5,k7,rfl,gw.nil,fun e he=>by simp at he,fun _=>rfl,by simp⟩
 ·rintro i x env N hx ⟨hk,ha,k5,k7,rfl,hd2,hr,hg,hl2⟩ hN;have hi:i < tk.length:=by have:=(Mi.mp hx).1;simpa using this
  have hm:=Mu hx;obtain⟨kv,hkv,rfl⟩:=MT.mp hm;obtain⟨q,hq⟩:=hd.key kv hkv;rw [hq] at hm hx ⊢;have hs:=(hd.mem q).mp hm
  cases q with
  | gap g=>rw [ht.gaps g] at hs;cases hs
  | edge e =>
   have k1:=bZ (.edge e);have d1:=hd2.put (.edge e) (.edge (rv e));have l1:=d9 (kvs:=hk) (k:=dM (.edge e)) (v:=dM (.edge (rv e)));have tke:(tk.map (·.1)).take (i + 1)=(tk.map (·.1)).take i ++ [dM (.edge e)]:=by rw [List.take_succ,hx];rfl
   simp only [dM,rv] at l1
   simp_arith only [dM,aZ,Lo.dic.injEq]
   refine⟨k1.1,k1.2,hd2.ok,by omega,hN _ ⟨_,_,_,_,rfl,d1,fun d hdm=>?_,fun g=>?_,by omega⟩⟩
   ·by_cases c:d=e
    ·subst c;exact cj
    ·rw [bP (fun z=>c (by injection z))];rw [tke] at hdm;rcases MR.mp hdm with z | z
     ·exact hr d z
     ·rw [MG] at z;exact absurd (by have:=Aq z;injection this) c
   ·rw [bP (by simp)];exact hg g
 ·rintro env ⟨hk,ha,k5,k7,rfl,hd2,hr,hg,hl2⟩;refine⟨rfl,?_⟩;rw [My] at hr hl2;refine rest6 hk ha k5 k7 hd2 (fun e he=>hr e ?_) hg hl2;rw [List.take_of_length_le (by simp),hd.mem];obtain⟨t,htt,het⟩:=gR he;have r:=ht.rot t htt;unfold te at het;simp only [MA,MN,or_false] at het;rcases het with rfl | rfl | rfl
  ·rw [r.1];rfl
  ·rw [r.2.1];rfl
  ·rw [r.2.2];rfl
theorem iV {α:Type} [DecidableEq α]:∀(l m:List α),l.Nodup→(∀x∈l,x∈m)→l.length≤m.length
 | [],m,_,_=>Nc _
 | x :: l,m,nd,h=>by
  rw [M5] at nd;have hx:=h x MO;have ih:=iV l (m.erase x) nd.2 fun y hy=>(List.mem_erase_of_ne (a:=y) (b:=x) (fun e=>nd.1 (by rw [← e];exact hy))).mpr (h y (MB _ hy));rw [List.length_erase_of_mem hx] at ih;have:0 < m.length:=List.length_pos_of_mem hx;simp only [MQ];omega
structure Sys (ha th:bF→Option bF) (f:bF) (isP:bF→Prop) (all:List bF):Prop where
 f0:isP f
 h1:∀p,isP p→∃q,ha p=some q∧isP q
 t1:∀p,isP p→∃q,th p=some q∧isP q
 hh:∀p q,isP p→ha p=some q→ha q=some p
 t3:∀p,isP p→∃q r,th p=some q∧th q=some r∧th r=some p
 al:∀p,isP p→p∈all
 few:all.length≤500
 re:∀S:bF→Prop,S f→(∀p q,S p→ha p=some q→S q)→(∀p q,S p→th p=some q→S q)→∀p,isP p→S p
section
variable {ha th:bF→Option bF} {f:bF} {isP:bF→Prop} {all met:List bF} {at_:Nat}
end
structure J4 (a b:List Nat):Prop where
 len:b.length=a.length
 al:∀(i x:Nat),a[i]?=some x→x < a.length
 bl:∀(i x:Nat),b[i]?=some x→x < a.length
 aa:∀(i x:Nat),a[i]?=some x→a[x]?=some i
 bbb:∀(i x y:Nat),b[i]?=some x→b[x]?=some y→b[y]?=some i
def uR (fs:List Z2) (ms:List Mk) (ha th:bF→Option bF) (isP:bF→Prop):Prop :=
 (2 < fs.length∧∃ts,c9 fs ts∧b4 fs ts∧Links fs ms ts ha th∧∀p,isP p↔lu ms ts p) ∨
 (fs.length=2∧(∀i,ms[i]?=some Mk.aB→th (.gap i)=some (.gap i)∧ha (.gap i)=some (.gap (if ms[1 - i]?=some Mk.aB then 1 - i else i)))∧∀p,isP p↔∃i,ms[i]?=some Mk.aB∧p=.gap i)
theorem tR [DecidableEq Mk] (x:Mk):∀ms:List Mk,((List.range ms.length).filter fun i=>decide (ms[i]?=some x)).length=ms.count x
 | []=>rfl
 | m :: ms=>by
  have ih:=tR x ms;rw [MQ,List.range_succ_eq_map,List.filter_cons,List.count_cons,← ih,List.filter_map,MV];have e:((fun i=>decide ((m :: ms)[i]?=some x))∘Nat.succ)=fun i=>decide (ms[i]?=some x):=by funext i;rfl
  rw [e]
  by_cases c:m=x
  ·subst c;simp
  ·have c':¬ (m == x)=true:=by simpa using c
   simp [c]
theorem kI {met:List bF} {ms:List Mk} (x:Mk) (g:Nat→bF) (P:bF→Bool) (nd:met.Nodup) (gi:∀i j,ms[i]?=some x→ms[j]?=some x→g i=g j→i=j) (hP:∀p∈met,P p=true↔∃i,ms[i]?=some x∧p=g i) (hm:∀i,ms[i]?=some x→g i∈met):(met.filter P).length=ms.count x:=by
 rw [← tR]
 have mem:∀i,i∈((List.range ms.length).filter fun i=>decide (ms[i]?=some x))↔ms[i]?=some x:=fun i=>by
  rw [List.mem_filter,Nq,MU];exact⟨fun z=>z.2,fun z=>⟨(Mi.mp z).1,z⟩⟩
 refine Bt (g:=g) P nd (fun i hi j hj e=>gi i j ((mem i).mp hi) ((mem j).mp hj) e) (List.nodup_range.filter _) (fun p hp=>?_) (fun i hi=>hm i ((mem i).mp hi));rw [hP p hp];exact⟨fun⟨i,a,b⟩=>⟨i,(mem i).mpr a,b⟩,fun⟨i,a,b⟩=>⟨i,(mem i).mp a,b⟩⟩
theorem uE:∀ts:List e7,(eR ts).length=3 * ts.length
 | []=>rfl
 | t :: ts=>by
  have:=uE ts;show (te t ++ eR ts).length=_
  rw [MW,this];unfold te;simp;omega
theorem Hb {fs:List Z2} {ms:List Mk} {ha th:bF→Option bF} {f:bF} (hf:bh fs ms) (h:kb fs ms ha th f):∃isP all,Sys ha th f isP all∧uR fs ms ha th isP ∧
  ∀met:List bF,met.Nodup→(∀p,isP p↔p∈met)→(met.filter fun p=>decide (ha p=some p)).length=ms.count .half∧(met.filter fun p=>decide (th p=some p)).length=ms.count .aB:=by
 have most:=hf.fr.most;have ml:=hf.mar.len;rcases h with ⟨hn,ts,ok,htl,hlen,lk,fo⟩ | ⟨c,hl,rfl⟩
 ·refine⟨lu ms ts,(eR ts).map .edge ++ (List.range fs.length).map .gap,⟨Cy hf hn ok lk fo,fun p hp=>?_,fun p hp=>xf lk hp,fun p q hp hq=>?_,fun p hp=>?_,fun p hp=>?_,?_,fun S s0 s1 s2=>reach hf hn ok lk fo s0 s1 s2⟩,.inl ⟨hn,ts,ok,htl,lk,fun _=>Iff.rfl⟩,fun met nd hm=>⟨?_,?_⟩⟩
  ·obtain⟨q,a,b,_⟩:=jN hf hn ok lk hp;exact⟨q,a,b⟩
  ·obtain⟨q',a,_,c⟩:=jN hf hn ok lk hp;rw [hq] at a;cases a;exact c
  ·cases p with
   | gap i=>exact⟨_,_,lk.thg i hp,lk.thg i hp,lk.thg i hp⟩
   | edge e =>
    obtain⟨t,ht,he⟩:=gR hp;have r:=lk.rot t ht;unfold te at he;simp only [MA,MN,or_false] at he;rcases he with rfl | rfl | rfl
    ·exact⟨_,_,r.1,r.2.1,r.2.2⟩
    ·exact⟨_,_,r.2.1,r.2.2,r.1⟩
    ·exact⟨_,_,r.2.2,r.1,r.2.1⟩
  ·cases p with
   | edge e=>exact MR.mpr (.inl (MT.mpr ⟨e,hp,rfl⟩))
   | gap i=>exact MR.mpr (.inr (MT.mpr ⟨i,Nq.mpr (bL hf.mar hp),rfl⟩))
  ·rw [MW,My,My,uE,List.length_range];omega
  ·refine kI .half (fun i=>.edge (bo fs i)) _ nd (fun i j hi hj e=>rz hf.fr (bL hf.mar hi) (bL hf.mar hj) (by injection e)) (fun p hp=>?_) (fun i hi=>?_)
   ·rw [MU];exact GD hf hn ok lk ((hm p).mpr hp)
   ·exact (hm _).mp (i9 hf.fr hn ok (bL hf.mar hi))
  ·refine kI .aB (fun i=>.gap i) _ nd (fun i j hi hj e=>by injection e) (fun p hp=>?_) (fun i hi=>(hm _).mp hi);rw [MU];exact GK ok lk ((hm p).mpr hp)
 ·obtain⟨t3,ngap⟩:=hf.mar.few c;have lt2:∀i x,ms[i]?=some x→i < 2:=fun i x hi=>by have:=(Mi.mp hi).1;omega
  have two:∀i,i < 2→ms[i]?=some Mk.aB∨ms[i]?=some Mk.half:=fun i hi=>by
   rcases rZ hf.mar (i:=i) (by omega) with z | z | ⟨j,_,z⟩
   ·exact .inr z
   ·exact .inl z
   ·exact absurd z (ngap i j)
  have one3:ms[1]?≠some Mk.aB→ms[0]?=some Mk.aB:=fun z=>by
   obtain⟨i,hi⟩:=MJ t3;have:=lt2 i _ hi;have:i≠1:=fun w=>z (w▸hi);have:i=0:=by omega
   exact this▸hi
  refine⟨fun p=>∃i,ms[i]?=some Mk.aB∧p=.gap i,[.gap 0,.gap 1],⟨?_,?_,?_,?_,?_,?_,by simp,fun S s0 s1 s2=>?_⟩,.inr ⟨c,hl,fun _=>Iff.rfl⟩,fun met nd hm=>⟨?_,?_⟩⟩
  ·by_cases z:ms[1]?=some Mk.aB
   ·rw [Mw z];exact⟨1,z,rfl⟩
   ·rw [Mo z];exact⟨0,one3 z,rfl⟩
  ·rintro p ⟨i,hi,rfl⟩;refine⟨_,(hl i hi).2,?_⟩
   by_cases z:ms[1 - i]?=some Mk.aB
   ·rw [Mw z];exact⟨1 - i,z,rfl⟩
   ·rw [Mo z];exact⟨i,hi,rfl⟩
  ·rintro p ⟨i,hi,rfl⟩;exact⟨_,(hl i hi).1,i,hi,rfl⟩
  ·rintro p q ⟨i,hi,rfl⟩ hq;have l2:=lt2 i _ hi;rw [(hl i hi).2] at hq
   by_cases z:ms[1 - i]?=some Mk.aB
   ·rw [Mw z] at hq;cases hq;rw [(hl _ z).2,show 1 - (1 - i)=i by omega,Mw hi]
   ·rw [Mo z] at hq;cases hq;rw [(hl i hi).2,Mo z]
  ·rintro p ⟨i,hi,rfl⟩;exact⟨_,_,(hl i hi).1,(hl i hi).1,(hl i hi).1⟩
  ·rintro p ⟨i,hi,rfl⟩;have:=lt2 i _ hi
   match i,this with
   | 0,_=>simp
   | 1,_=>simp
  ·rintro p ⟨i,hi,rfl⟩
   by_cases z:ms[1]?=some Mk.aB
   ·rw [Mw z] at s0;have:=lt2 i _ hi
    match i,this with
    | 1,_=>exact s0
    | 0,_ =>
     have q:=(hl 1 z).2;rw [Mw (show ms[1 - 1]?=some Mk.aB from hi)] at q;exact s1 _ _ s0 q
   ·rw [Mo z] at s0;have:=lt2 i _ hi;have:i≠1:=fun w=>z (w▸hi);have:i=0:=by omega
    subst this;exact s0
  ·refine kI .half (fun i=>.gap (1 - i)) _ nd (fun i j hi hj e=>by
    have:=lt2 i _ hi;have:=lt2 j _ hj;injection e with e
    omega) (fun p hp=>?_) (fun i hi=>?_)
   ·obtain⟨i,hi,rfl⟩:=(hm p).mpr hp;have l2:=lt2 i _ hi;rw [MU,(hl i hi).2]
    by_cases z:ms[1 - i]?=some Mk.aB
    ·rw [Mw z];refine⟨fun w=>?_,fun⟨k,hk,w⟩=>?_⟩
     ·injection w with w;injection w with w;omega
     ·injection w with w
      have:=lt2 k _ hk;have:k=1 - i:=by omega
      rw [this,z] at hk;cases hk
    ·rw [Mo z];refine⟨fun _=>⟨1 - i,?_,by rw [show 1 - (1 - i)=i by omega]⟩,fun _=>rfl⟩;rcases two (1 - i) (by omega) with w | w
     ·exact absurd w z
     ·exact w
   ·have l2:=lt2 i _ hi;refine (hm _).mp ⟨1 - i,?_,rfl⟩;rcases two (1 - i) (by omega) with w | w
    ·exact w
    ·exfalso;obtain⟨k,hk⟩:=MJ t3;have:=lt2 k _ hk;have:k=i∨k=1 - i:=by omega
     rcases this with v | v
     ·rw [v,hi] at hk;cases hk
     ·rw [v,w] at hk;cases hk
  ·refine kI .aB (fun i=>.gap i) _ nd (fun i j hi hj e=>by injection e) (fun p hp=>?_) (fun i hi=>(hm _).mp ⟨i,hi,rfl⟩);obtain⟨i,hi,rfl⟩:=(hm p).mpr hp;rw [MU];exact⟨fun _=>⟨i,hi,rfl⟩,fun _=>(hl i hi).1⟩
end K55
namespace KR
open PySem L2 L2.L3 K55
def b9:Fw:=F2 zJ
def lL:bS:=(aJ (iW (aL (aG Eg (af 1) (az gy (ae (af 0) av)))) (ck (aG cX (af 0) (af 1))) bN) (ck (cC (.int 0))))
theorem pS:∀ds Q,b9 ds Q→ds.length=2:=kr
theorem qO:∀ds (Q:D→Prop),b9 ds Q→lL { nx:=fun _=>Q .non,rt:=Q } (aD ["_law_script","_law_k"] ds):=by
 exact xo
def u7 (x y:D) (Q:D→Prop):Prop:=∃m:Int,x=.obj gL∧y=.int m∧0 < m∧m≤1000000000000∧∀d:Int,0≤d→d < m→Q (.int d)
def aS:Fw:=F2 u7
def j9:bS:=(aJ (bY 2 (aG sW (zj (af 0)) (af 1))) (aJ (qY (af 0) (aG Gf (zj (af 0)) (af 1))) (ck (af 2))))
theorem tD:∀ds Q,aS ds Q→ds.length=2:=kr
theorem uU:∀ds (Q:D→Prop),aS ds Q→j9 { nx:=fun _=>Q .non,rt:=Q } (aD ["_law_rest","_law_many","_law_digit_here"] ds):=by
 rintro ds Q ⟨x,y,rfl,m,rfl,rfl,h0,h1,h⟩
 simp_arith only [j9,zj,qY]
 intro r;have f:=mx (a:=r) (b:=m) h0;have hm:m.natAbs < 2 ^ 256:=Nx (show m.natAbs≤1000000000000 by omega) (by decide);refine⟨yV _ (by omega),fun r2=>⟨LK _ ⟨by omega,hm⟩,?_⟩⟩;exact h _ f.1 f.2
def IS (x y:D) (Q:D→Prop):Prop:=∃n:Nat,x=.obj gL∧y=.int (n:Int)∧2≤n∧n≤22∧∀fs,aw n fs→Q (.tup (fs.map fv))
def bD:Fw:=F2 IS
def gh:bS:=(aJ (cV 2 (o3 (ae (bQ (ae (vU oZ (cC (.int 1))) (ae (cC (.int 0)) av))) (ae (bQ (ae (cC (.int 0)) (ae (cC (.int 1)) av))) (ae (bQ (ae (cC (.int 1)) (ae (cC (.int 0)) av))) av))))) (aJ (hU iH (ae (aG nB (af 1) (cC (.int 2))) av) (aV 3) (aJ (bY 4 (az aS (ae (af 0) (ae (aG nB (eu 2) (cC (.int 1))) av)))) (qH 2 (aG fu (af 4) (cC (.int 1))) (bQ (ae (aG fu (aG cX (dq 2 (af 4)) (cC (.int 0))) (aG cX (dq 2 (aG fu (af 4) (cC (.int 1)))) (cC (.int 0)))) (ae (aG fu (aG cX (dq 2 (af 4)) (cC (.int 1))) (aG cX (dq 2 (aG fu (af 4) (cC (.int 1)))) (cC (.int 1)))) av)))))) (ef 2 (ck (az gb (ae (aG fu (jZ (ae (bQ (ae (cC (.int 1)) (ae (cC (.int 0)) av))) av)) (Gg (af 2) (nz (cC (.int 1))) (nz (aG nB (az gy (ae (af 2) av)) (cC (.int 1)))))) av))))))
theorem mU:∀ds Q,bD ds Q→ds.length=2:=kr
theorem oh:∀ds (Q:D→Prop),bD ds Q→gh { nx:=fun _=>Q .non,rt:=Q } (aD ["_law_rest","_law_many","_law_row","_law_k","_law_at"] ds):=by
 rintro ds Q ⟨x,y,rfl,n,rfl,rfl,h2,h22,h⟩
 simp_arith only [gh]
 refine⟨by omega,by omega,?_⟩;refine dg (fun i e=>∃(row:List Z2) (k1 k2:Option Lo),e=[some (.d (.obj gL)),some (.d (.int n)),some (.own (row.map fv)),k1,k2]∧wu i row) ?_ ?_ ⟨[(-1,0),(0,1),(1,0)],_,_,rfl,KY⟩
 ·rintro i x env N hx ⟨row,k1,k2,rfl,hr⟩ hN
  have hi:i < n - 2:=by
   have:=(Mi.mp hx).1;simp [aN] at this;omega
  have hxe:x=.int (i:Int):=by
   unfold aN at hx;rw [Ms,MZ (by omega)] at hx;cases hx;simp
  subst hxe;have hl:=hr.len
  simp_arith only [My,aS,fX,u7]
  have hk:((row.length:Int) - 1)=((i + 2:Nat):Int):=by omega
  rw [hk];refine⟨by omega,by omega,fun v v0 v1=>?_⟩;obtain⟨a,ea⟩:∃a:Nat,v=(a:Int):=⟨_,(Nv v0).symm⟩;subst ea;have ha:a < i + 2:=by omega
  have hp:row[a]?=some row[a]:=Mm (by omega);have hq:row[a + 1]?=some row[a + 1]:=Mm (by omega);have e1:lD (row.map fv) (a:Int)=some (fv row[a]):=gF _ _ _ _ hp;have e2:lD (row.map fv) ((a:Int) + 1)=some (fv row[a + 1]):=gF _ _ (a + 1) _ hq;refine⟨_,_,rfl,e1,?_⟩;rw [zp];refine⟨_,_,rfl,e2,?_⟩;rw [zp];refine⟨_,_,rfl,e1,?_⟩;rw [zU];refine⟨_,_,rfl,e2,?_⟩;rw [zU];refine⟨by omega,by omega,by omega,hN _ ⟨row.take (a + 1) ++ (row[a].1 + row[a + 1].1,row[a].2 + row[a + 1].2) :: row.drop (a + 1),some (.d (.int i)),some (.d (.int a)),?_,GX hr ha hp hq⟩⟩
  rw [show ((a:Int) + 1).toNat=a + 1 by omega,List.map_append,MP,List.map_take,List.map_drop];rfl
 ·rintro env ⟨row,k1,k2,rfl,hr⟩
  simp_arith only [and_true]
  have el:(aN 0 ((n:Int) - 2).toNat).length=n - 2:=by simp [aN];omega
  rw [el] at hr;have hl:=hr.len
  have ec:cutD (row.map fv) (some 1) (some (((row.map fv).length:Int) - 1))=((row.drop 1).take (n - 2 + 1)).map fv:=by
   unfold cutD;rw [My,show ((row.length:Int) - 1)=((row.length - 1:Nat):Int) by omega,show (1:Int)=((1:Nat):Int) from rfl,HT.Al,HT.Al];rw [List.map_take,List.map_drop]
   congr 1
   ·omega
   ·congr 1;omega
  rw [ec];refine⟨by simp;omega,?_⟩;have:=h _ (by have:=CQ hr (by omega);rw [show n - 2 + 2=n by omega] at this;exact this);exact this
def J1 (x y:D) (Q:D→Prop):Prop:=∃n:Nat,x=.obj gL∧y=.int (n:Int)∧2≤n∧n≤22∧∀ms,lS n ms→Q (.tup (ms.map jx))
def cJ:Fw:=F2 J1
def gd:bS:=(iW (sE (aL (aG KI (af 5) (cC (.int 1)))) (qZ 3)) (aJ (m5 6 3 (az aS (ae (af 0) (ae (eu 3) av)))) (aJ (sN 2 (af 4) (af 6)) (sN 2 (af 6) (af 4)))) bN)
def lH:bS:=(aJ (ef 2 (iW (sE (aL (aG lh (af 1) (cC (.int 2)))) (aL (aG (DU true) (cC (.str "third")) (af 2)))) (bY 2 (jZ (ae (cC (.str "third")) (ae (cC (.str "half")) av)))) bN)) (ck (az gb (ae (af 2) av))))
def jE:bS:=(aJ (iW (aL (aG lh (af 5) (cC (.int 1)))) (sN 2 (af 4) (cC (.str "third"))) bN) gd)
def j6:bS:=(aJ (cV 2 (gp iH [] (ae (af 1) av) cU (cC (.str "half")))) (aJ (cV 3 (vP (ae (af 1) av))) (aJ (js (qZ 3) (aJ (m5 4 3 (cC (.int 0))) (aJ (bY 5 (az aS (ae (af 0) (ae (cC (.int 4)) av)))) jE))) lH)))
theorem sO:∀ds Q,cJ ds Q→ds.length=2:=kr
theorem ui:∀ds (Q:D→Prop),cJ ds Q→j6 { nx:=fun _=>Q .non,rt:=Q } (aD ["_law_rest","_law_many","_law_marks_here","_law_left","_law_gap","_law_way","_law_other"] ds):=by
 rintro ds Q ⟨x,y,rfl,n,rfl,rfl,h2,h22,h⟩
 simp_arith only [j6,js]
 refine⟨by omega,by omega,?_⟩;refine fC (fun _=>.str "half") _ _ (fun x hx N hN=>by simp_arith only [cp];exact hN) (by simp [aN,MK];omega) ?_
 refine⟨by omega,by omega,?_⟩
 have ints_nats:aN 0 (n:Int).toNat=aF (List.range n):=by
  unfold aN aF;rw [show (n:Int).toNat=n by omega];refine List.map_congr_left fun i _=>?_;rw [Int.zero_add]
 refine⟨fun e=>∃(left:List Nat) (ms:List Mk) (k5 k6 k7:Option Lo),e=[some (.d (.obj gL)),some (.d (.int n)),some (.own (ms.map jx)),some (.own (aF left)),k5,k6,k7]∧iq n left ms,
  y8 3,⟨List.range n,List.replicate n .half,none,none,none,?_,?_⟩,?_⟩
 ·rw [ints_nats]
  have e:[] ++ (aF (List.range n)).map (fun _=>D.str (Str.ofString "half"))=(List.replicate n Mk.half).map jx:=by
   unfold aF;rw [List.nil_append,List.map_map,List.map_replicate];apply List.ext_getElem?
   intro i
   by_cases hi:i < n
   ·rw [Ms,MZ hi,M8,Mw hi];rfl
   ·rw [MI (by simp;omega),MI (by simp;omega)]
  rw [e]
 ·refine⟨by simp,List.nodup_range,fun i hi=>Nq.mp hi,fun i hi=>?_,fun i j hij=>?_⟩
  ·rw [M8,Mw (Nq.mp hi)]
  ·rw [M8] at hij;split at hij <;> cases hij
 rintro env ⟨left,ms,k5,k6,k7,rfl,hm⟩;refine⟨aF left,rfl,by rw [aF,tO];decide,?_⟩
 cases left with
 | nil =>
  rw [Mo (by simp [aF])]
  simp_arith only [lH]
  have fin:∀ms:List Mk,lS n ms→Q (.tup (ms.map jx)):=h
  by_cases e2:(n:Int)=2
  ·rw [Mw e2];have en:n=2:=by omega
   refine⟨ms.map jx,rfl,by rw [L2.L3.FA];decide,by decide,_,rfl,?_⟩;rw [Mw rfl,A5]
   by_cases ht:Mk.aB∈ms
   ·rw [decide_eq_true ht]
    simp_arith only [and_true]
    refine fin ms ⟨hm.len,hm.pair,fun _=>⟨ht,fun i j hij=>?_⟩⟩;obtain⟨h1,h2⟩:=hm.pair i j hij;have l1:=(Mi.mp hij).1;have l2:=(Mi.mp h2).1;rw [hm.len] at l1 l2;obtain⟨q,hq,eq⟩:=List.getElem_of_mem ht;rw [hm.len] at hq;have hqi:q=i∨q=j:=by omega
    rcases hqi with z | z
    ·subst z;rw [Mm (by rw [hm.len];exact hq),eq] at hij;cases hij
    ·subst z;rw [Mm (by rw [hm.len];exact hq),eq] at h2;cases h2
   ·rw [decide_eq_false ht]
    simp_arith only [and_true]
    refine fin [.aB,.half] ⟨by rw [en];rfl,fun i j hij=>?_,fun _=>⟨by simp,fun i j hij=>?_⟩⟩
    ·match i with
     | 0=>cases hij
     | 1=>cases hij
     | i + 2=>cases hij
    ·match i with
     | 0=>cases hij
     | 1=>cases hij
     | i + 2=>cases hij
  ·rw [Mo e2]
   exact fin ms ⟨hm.len,hm.pair,fun z=>absurd (by omega) e2⟩
 | cons g left =>
  rw [Mw (by simp [aF])];have hg:=hm.lt g MO;refine⟨_,rfl,0,.int g,rfl,rfl,by decide,?_⟩;have eE:(aF (g :: left)).eraseIdx 0=aF left:=rfl;rw [eE]
  simp_arith only [aS,fX,u7]
  intro w w0 w1
  simp_arith only [jE]
  have hml:(ms.map jx).length=n:=by rw [My,hm.len]
  have ixg:∀(l:List D) (j:Nat),l.length=n→j < n→vT l.length (j:Int)=some j:=fun l j hl hj=>by
   unfold vT;rw [Mw (by omega),Mw (by omega)];rfl
  have mset:∀(j:Nat) (m:Mk),(ms.map jx).set j (jx m)=(ms.set j m).map jx:=fun j m=>by rw [List.map_set]
  have less:(aF left).length < (aF (g :: left)).length:=by simp [aF]
  by_cases c1:w=1
  ·rw [Mw c1];subst c1;refine⟨_,g,rfl,ixg _ _ hml hg,?_⟩
   simp_arith only [gd]
   exact⟨⟨left,ms.set g .aB,_,_,_,mset g .aB,rfl,rfl,rfl,rfl,hm.aB⟩,less⟩
  ·rw [Mo c1]
   simp_arith only [gd]
   by_cases c2:1 < w
   ·rw [Mw c2];refine⟨by rw [aF,tO];decide,?_⟩
    by_cases c3:(aF left).isEmpty=false
    ·rw [Mw c3]
     have hl0:0 < left.length:=by
      cases left with
      | nil=>cases c3
      | cons _ _=>simp
     have ll:=hm.nd
     have lln:left.length≤n:=by
      have:=iV _ (List.range n) (M5.mp ll).2 (fun y hy=>Nq.mpr (hm.lt y (MB _ hy)))
      rwa [List.length_range] at this
     have hll:(aF left).length=left.length:=by simp [aF]
     rw [hll];refine⟨_,_,rfl,_,rfl,rfl,by omega,by omega,fun u u0 u1=>?_⟩;obtain⟨a,ea⟩:∃a:Nat,u=(a:Int):=⟨_,(Nv u0).symm⟩;subst ea;have ha:a < left.length:=by omega
     have ho:left[a]?=some left[a]:=Mm ha;have hol:left[a] < n:=hm.lt _ (MB _ (Na ha));refine⟨a,.int left[a],rfl,by unfold aF;rw [Ms,ho];rfl,by omega,_,g,rfl,ixg _ _ hml hg,_,left[a],rfl,ixg _ _ (by rw [List.length_set];exact hml) hol,?_⟩;refine⟨⟨left.eraseIdx a,(ms.set g (.gap left[a])).set left[a] (.gap g),_,_,_,?_,?_,rfl,rfl,rfl,hm.two ho⟩,?_⟩
     ·rw [List.map_set,List.map_set];rfl
     ·unfold aF;rw [Dp]
     ·unfold aF;simp only [y8,MV,MS];rw [List.length_eraseIdx,My,Mw ha];simp;omega
    ·rw [Mo c3];exact⟨⟨left,ms,_,_,_,rfl,rfl,rfl,rfl,rfl,hm.skip⟩,less⟩
   ·rw [Mo c2];exact⟨⟨left,ms,_,_,_,rfl,rfl,rfl,rfl,rfl,hm.skip⟩,less⟩
def Gk (x y z:D) (Q:D→Prop):Prop:=∃m g:Int,x=.obj gL∧y=.int m∧z=.int g∧2≤m∧m≤22∧2≤g∧g≤22∧∀fs ms,bh fs ms→(fs.length:Int)≤max m g→Q (iz fs ms)
def gK:Fw:=F3 Gk
def ku:bS:=(ck (bQ (ae (az bD (ae (af 0) (ae (af 3) av))) (ae (az cJ (ae (af 0) (ae (af 3) av))) av))))
def nS:bS:=(aJ (bY 3 (aG fu (cC (.int 2)) (az aS (ae (af 0) (ae (aG nB (af 1) (cC (.int 1))) av))))) (aJ (iW (aL (aG lh (az aS (ae (af 0) (ae (cC (.int 8)) av))) (cC (.int 1)))) (bY 3 (aG fu (cC (.int 2)) (az aS (ae (af 0) (ae (aG nB (af 2) (cC (.int 1))) av))))) bN) ku))
theorem xC:∀ds Q,gK ds Q→ds.length=3:=ud
theorem yh:∀ds (Q:D→Prop),gK ds Q→nS { nx:=fun _=>Q .non,rt:=Q } (aD ["_law_rest","_law_most","_law_great","_law_many"] ds):=by
 rintro ds Q ⟨x,y,z,rfl,m,g,rfl,rfl,rfl,m2,m22,g2,g22,h⟩
 have fin:∀n:Int,2≤n→n≤max m g→ku { nx:=fun _=>Q .non,rt:=Q } [some (.d (.obj gL)),some (.d (.int m)),some (.d (.int g)),some (.d (.int n))]:=fun n h1 h2=>by
  obtain⟨k,rfl⟩:∃k:Nat,n=(k:Int):=⟨_,(Nv (by omega)).symm⟩
  simp_arith only [ku,bD,cJ,fX,IS,J1]
  refine⟨k,rfl,by omega,by omega,fun fs hfs=>⟨k,rfl,by omega,by omega,fun ms hms=>?_⟩⟩;have e:=hfs.len;exact h fs ms ⟨by rw [e];exact hfs,by rw [e];exact hms⟩ (by omega)
 simp_arith only [nS,aS,fX,u7]
 refine⟨by omega,by omega,fun d d0 d1 e e0 e1=>?_⟩
 by_cases c:e=1
 ·rw [Mw c];exact⟨by omega,by omega,fun d d0 d1=>fin _ (by omega) (by omega)⟩
 ·rw [Mo c];exact fin _ (by omega) (by omega)
def IY (x y:D) (Q:D→Prop):Prop:=∃(ns:List Int) (k:Int),x=.lst (ns.map D.int)∧y=.int k∧0≤k∧k≤1000∧∀r:Int,Q (.int r)
def gG:Fw:=F2 IY
theorem LV {l:List Int} (hl:l.length=8) (P:Int→Prop) (hP:∀x∈l,P x) {i:Int} (h0:0≤i) (h8:i < 8) {Q:D→Prop} (q:∀x,P x→Q (.int x)):cX (.tup (l.map D.int)) (.int i) Q:=by
 obtain⟨k,rfl⟩:∃k:Nat,i=(k:Int):=⟨_,(Nv h0).symm⟩;have hk:k < l.length:=by omega
 refine⟨.int l[k],?_,q _ (hP _ (Na hk))⟩;have e1:vT (l.map D.int).length (k:Int)=some k:=by unfold vT;rw [My,Mw (by omega),Mw (by omega)];simp
 unfold lD;rw [e1];simp [hk]
def lJ:bS:=(bY 5 (aG fu (aG jG (af 5) (cC (.int 7919))) (aG sW (aG sW (aG jG (af 7) (aG cX (af 2) (aG sW (af 6) (cC (.int 8))))) (aG cX (af 3) (aG sW (af 6) (cC (.int 8))))) (cC (.int 7919)))))
def pf:bS:=(aJ (bY 5 (cC (.int 0))) (aJ (hU iH (ae (cC (.int 60)) av) (aV 6) (aJ (bY 7 (aG fu (aG fu (aG sW (az b9 (ae (af 0) (ae (aG fu (af 1) (aG sW (af 6) (cC (.int 9)))) av))) (aG HC (cC (.int 10)) (cC (.int 18)))) (cC (.int 1))) (aG jG (af 6) (af 6)))) lJ)) (ck (af 5))))
def oI:bS:=(aJ (bY 2 (bQ (ae (cC (.int 48271)) (ae (cC (.int 69621)) (ae (cC (.int 16807)) (ae (cC (.int 39373)) (ae (cC (.int 21401)) (ae (cC (.int 60493)) (ae (cC (.int 87721)) (ae (cC (.int 31337)) av)))))))))) (aJ (bY 3 (bQ (ae (cC (.int 99991)) (ae (cC (.int 99989)) (ae (cC (.int 99971)) (ae (cC (.int 99961)) (ae (cC (.int 99929)) (ae (cC (.int 99923)) (ae (cC (.int 99907)) (ae (cC (.int 99901)) av)))))))))) (aJ (bY 4 (az b9 (ae (af 0) (ae (af 1) av)))) (aJ (iW (aL (aG L1 (af 4) (aG HC (cC (.int 10)) (cC (.int 18))))) (ck (af 4)) bN) pf))))
theorem wO:∀ds Q,gG ds Q→ds.length=2:=kr
theorem yo:∀ds (Q:D→Prop),gG ds Q→oI { nx:=fun _=>Q .non,rt:=Q } (aD ["_law_script","_law_at","_law_by","_law_prime","_law_cell","_law_big_here","_law_k","_law_one"] ds):=by
 rintro ds Q ⟨x,y,rfl,ns,k,rfl,rfl,k0,k1,h⟩
 simp_arith only [oI,b9,fX,zJ]
 refine⟨ns,k,rfl,rfl,k0,J8 _ _ (by decide),?_⟩
 by_cases c:1000000000000000000≤zC ns k
 ·rw [Mw c];exact h _
 ·rw [Mo c]
  simp_arith only [pf]
  refine dg (fun _ e=>∃(b:Int) (k6 k7:Option Lo),e=[some (.d (.lst (ns.map D.int))),some (.d (.int k)),some (.d (.tup ([48271,69621,16807,39373,21401,60493,87721,31337].map D.int))),some (.d (.tup ([99991,99989,99971,99961,99929,99923,99907,99901].map D.int))),some (.d (.int (zC ns k))),some (.d (.int b)),k6,k7]) ?_ ?_ ⟨0,none,none,rfl⟩
  ·rintro i x env N hx ⟨b,k6,k7,rfl⟩ hN
   have hi:i < 60:=by
    have:=(Mi.mp hx).1
    simpa [aN] using this
   have hxe:x=.int (i:Int):=by
    unfold aN at hx;rw [Ms,MZ (by omega)] at hx;cases hx;simp
   subst hxe;have f9:=mx (a:=(i:Int)) (b:=9) (by decide);have f8:=mx (a:=(i:Int)) (b:=8) (by decide);simp only [af,aG,cC,az,ae,av,aJ,bY,aV,List.set_cons_zero,List.set_cons_succ,MV,MS,Option.some.injEq,Lo.d.injEq,exists_eq_left',so,je,fX,zJ,b9,lJ];refine⟨yV _ (by decide),ns,_,rfl,rfl,by omega,J8 _ _ (by decide),yV _ (by decide),Ca (by omega) (by omega),we (by decide) (by decide),yV _ (by decide),?_⟩;refine LV rfl (fun x=>-(2 ^ 64) < x∧x < 2 ^ 64) (by decide) f8.1 f8.2 fun y hy=>?_
   refine⟨we hy.1 hy.2,yV _ (by decide),?_⟩;refine LV rfl (fun x=>x≠0) (by decide) f8.1 f8.2 fun z hz=>?_;exact⟨yV _ hz,yV _ (by decide),hN _ ⟨_,_,_,rfl⟩⟩
  ·rintro env ⟨b,k6,k7,rfl⟩
   simp_arith only [and_true]
   exact h b
def fF:Fw:=F1 fun x Q=>∃fs:List Z2,x=.tup (fs.map fv)∧0 < fs.length∧fs.length≤22∧Q (.lst (vV fs))
def l8:bS:=(ck (cS (gp iH [0] (ae (az gy (ae (af 0) av)) av) cU (bQ (ae (aG cX (af 1) (af 0)) (ae (aG cX (af 1) (aG sW (aG fu (af 0) (cC (.int 1))) (az gy (ae (af 1) av)))) av))))))
theorem vN:∀ds Q,fF ds Q→ds.length=1:=o8
theorem wj:∀ds (Q:D→Prop),fF ds Q→l8 { nx:=fun _=>Q .non,rt:=Q } (aD ["_law_fractions_here"] ds):=by
 rintro ds Q ⟨x,rfl,fs,rfl,h0,h22,h⟩
 simp_arith only [l8,My]
 refine⟨by omega,by omega,?_⟩;refine fC (fun x=>match x with | .int i=>dM (.edge (bo fs i.toNat)) | _=>.non) _ _ (fun x hx N hN=>?_) (by simp [aN,MK];omega) ?_
 ·obtain⟨i,hi,rfl⟩:∃i:Nat,i < fs.length∧x=.int (i:Int):=by
   unfold aN at hx;obtain⟨i,hi,rfl⟩:=MT.mp hx;exact⟨i,by simpa using hi,by simp⟩
  simp_arith only [cp,My]
  have hm:(i + 1) % fs.length < fs.length:=Nat.mod_lt _ (by omega)
  have e2:((i:Int) + 1).fmod (fs.length:Int)=(((i + 1) % fs.length:Nat):Int):=by
   rw [Int.fmod_eq_emod_of_nonneg _ (by omega),Int.natCast_emod,show (((i + 1:Nat)):Int)=(i:Int) + 1 by omega]
  refine rm (mG hi) ⟨by show (fs.length:Int)≠0;omega,?_⟩;rw [e2];refine rm (mG hm) ?_;rw [za hi];exact hN
 ·have eg:[] ++ (aN 0 (fs.length:Int).toNat).map (fun x=>match x with | .int i=>dM (.edge (bo fs i.toNat)) | _=>.non)=vV fs:=by
   unfold vV aN;simp
  rw [eg];exact h
def dF:Fw:=F1 BY
def d5:bS:=(aJ (bY 11 (bQ (ae (bQ (ae (cC (.int 1)) (ae (cC (.int 0)) av))) (ae (bQ (ae (cC (.int 0)) (ae (cC (.int 1)) av))) av)))) (aJ (dJ 4 (iW (aL (aG lh (az gy (ae (af 1) av)) (cC (.int 2)))) (aJ (bY 11 (aG cX (jZ (ae (cC (.int 1)) (ae (cC (.int 0)) av))) (az tJ (ae (aG vS (aG cX (af 2) (cC (.int 1))) (cC (.str "third"))) av)))) (oM (jZ (ae (cC (.int 0)) (ae (cC (.int 1)) av))) (aV 9) (iW (aL (aG lh (aG cX (af 2) (af 9)) (cC (.str "third")))) (aZ 8 (af 9) (aG cX (jZ (ae (af 9) (ae (aG nB (cC (.int 1)) (af 9)) av))) (az tJ (ae (aG lh (aG cX (af 2) (aG nB (cC (.int 1)) (af 9))) (cC (.str "third"))) av)))) bN))) (iW (aL (aG (DZ true) (af 11) (af 4))) (bY 11 (mN 8 (aG cX (af 3) (vU oZ (cC (.int 1)))))) bN))) (dJ 8 (ck (bQ (ae (af 8) (ae (af 4) (ae (af 11) av))))))))
def dZ:bS:=(aJ (tP (ae (af 2) av) (iC 2 (bO (aV 9) (bO (aV 10) iU))) (iW (aL (aG lh (af 10) (cC (.str "third")))) (aJ (aZ 4 (af 9) (af 9)) (aJ (aZ 8 (af 9) (aG cX (af 3) (af 9))) (aZ 8 (aG cX (af 3) (af 9)) (af 9)))) (iW (aL (aG lh (af 10) (cC (.str "half")))) (aZ 8 (aG cX (af 3) (af 9)) (aG cX (af 3) (af 9))) (aZ 8 (aG cX (af 3) (af 9)) (aG cX (af 3) (af 10)))))) d5)
def fS:bS:=(aJ (kH 8) (aJ (qe 4 (iC 2 (bO (aV 5) (bO (aV 7) iU))) (aZ 8 (bQ (ae (af 5) (ae (af 7) av))) (bQ (ae (af 7) (ae (af 5) av))))) dZ))
def jW:bS:=(aJ (l7 (af 0) (iC 2 (bO (aV 1) (bO (aV 2) iU)))) (aJ (bY 3 (az fF (ae (af 1) av))) (aJ (kH 4) (aJ (oM (az eJ (ae (af 1) av)) (iC 3 (bO (aV 5) (bO (aV 6) (bO (aV 7) iU)))) (aJ (aZ 4 (bQ (ae (af 5) (ae (af 6) av))) (bQ (ae (af 6) (ae (af 7) av)))) (aJ (aZ 4 (bQ (ae (af 6) (ae (af 7) av))) (bQ (ae (af 7) (ae (af 5) av)))) (aZ 4 (bQ (ae (af 7) (ae (af 5) av))) (bQ (ae (af 5) (ae (af 6) av))))))) fS))))
theorem sT:∀ds Q,dF ds Q→ds.length=1:=o8
theorem ve:∀ds (Q:D→Prop),dF ds Q→jW { nx:=fun _=>Q .non,rt:=Q } (aD ["_law_fan_here","_law_fractions_here","_law_marks_here","_law_gaps_here","_law_thirds","_law_one","_law_mid","_law_other","_law_halves","_law_i","_law_mark","_law_first"] ds):=by
 rintro ds Q ⟨x,rfl,fs,ms,rfl,hf,h⟩;have two:=hf.fr.two;have most:=hf.fr.most;have rest4:=yO hf h
 simp_arith only [jW,iz,fF,eJ,pF,Cj,kH]
 refine⟨fs,rfl,by omega,by omega,fs,rfl,hf.fr,fun ts htl hlen=>?_⟩;have ok:=xK htl hf.fr;refine dg (fun i e=>∃(tk:List (D×D)) (th:bF→Option bF) (k5 k6 k7:Option Lo),e=[some (.d (iz fs ms)),some (.d (.tup (fs.map fv))),some (.d (.tup (ms.map jx))),some (.d (.lst (vV fs))),some (.dic tk),k5,k6,k7,none,none,none,none]∧gw tk th∧xA (ts.take i) th∧tk.length≤3 * i) ?_ ?_ ⟨[],_,none,none,none,rfl,gw.nil,by simpa using xA.nil,by simp⟩
 ·rintro i x env N hx ⟨tk,th,k5,k6,k7,rfl,hd,ht,hl⟩ hN;have hi:i < ts.length:=by have:=(Mi.mp hx).1;simpa using this
  obtain⟨t,hti⟩:∃t,ts[i]?=some t:=⟨ts[i],Mm hi⟩;rw [Ms,hti] at hx;cases hx;have tke:ts.take (i + 1)=ts.take i ++ [t]:=by rw [List.take_succ,hti];rfl
  have nd:(eR (ts.take i ++ [t])).Nodup:=by
   rw [← tke];have q:=ok.dif;rw [← List.take_append_drop (i + 1) ts] at q;unfold eR at q ⊢;rw [List.flatMap_append,Nu] at q;exact q.1
  have d1:=hd.put (.edge (t.1,t.2.1)) (.edge (t.2.1,t.2.2));have d2:=d1.put (.edge (t.2.1,t.2.2)) (.edge (t.2.2,t.1));have d3:=d2.put (.edge (t.2.2,t.1)) (.edge (t.1,t.2.1));have l1:=d9 (kvs:=tk) (k:=dM (.edge (t.1,t.2.1))) (v:=dM (.edge (t.2.1,t.2.2)));have l2:=d9 (kvs:=putN tk (dM (.edge (t.1,t.2.1))) (dM (.edge (t.2.1,t.2.2)))) (k:=dM (.edge (t.2.1,t.2.2))) (v:=dM (.edge (t.2.2,t.1)));have l3:=d9 (kvs:=putN (putN tk (dM (.edge (t.1,t.2.1))) (dM (.edge (t.2.1,t.2.2)))) (dM (.edge (t.2.1,t.2.2))) (dM (.edge (t.2.2,t.1)))) (k:=dM (.edge (t.2.2,t.1))) (v:=dM (.edge (t.1,t.2.1)))
  have sz:=MK;have k1:=bZ (.edge (t.1,t.2.1));have k2:=bZ (.edge (t.2.1,t.2.2));have k3:=bZ (.edge (t.2.2,t.1));simp only [dM] at l1 l2 l3
  simp_arith only [KH,aZ,Lo.dic.injEq]
  refine⟨k1.1,k1.2,hd.ok,by omega,k2.1,k2.2,d1.ok,by omega,k3.1,k3.2,d2.ok,by omega,?_⟩;exact hN _ ⟨_,_,_,_,_,rfl,d3,by rw [tke];exact ht.snoc nd,by omega⟩
 ·rintro env ⟨tk,th,k5,k6,k7,rfl,hd,ht,hl⟩;rw [My,List.take_length] at ht;rw [My] at hl;exact rest4 ts tk th k5 k6 k7 htl hlen hd ht hl
section
variable {β:Type} [DecidableEq β]
def cI (met:List β) (q:β):List β:=if q∈met then met else met ++ [q]
def kZ (ha th:β→β):Nat→Nat→List β→List β
 | 0,_,met=>met
 | n + 1,at_,met=>match met[at_]? with
  | none=>met
  | some p=>kZ ha th n (at_ + 1) (cI (cI met (ha p)) (th p))
def cb (met:List β) (g:β→β):List Nat:=met.map fun p=>met.idxOf (g p)
structure Code (c:β→D):Prop where
 eq:∀p q,aY (c p) (c q)=decide (p=q)
 dp:∀p,dep (c p)≤8
def Look (x:D) (g:β→β) (c:β→D) (P:β→Prop):Prop:=∀p,P p→∀Q:D→Prop,Q (c (g p))→Gb x (c p) Q
structure Sy (ha th:β→β) (f:β) (P:β→Prop) (all:List β):Prop where
 f0:P f
 cl:∀p,P p→P (ha p)∧P (th p)
 al:∀p,P p→p∈all
 few:all.length≤500
structure Me (P:β→Prop) (met:List β):Prop where
 nd:met.Nodup
 inn:∀p∈met,P p
theorem Me.add {P:β→Prop} {met:List β} (m:Me P met) {q:β} (hq:P q):Me P (cI met q):=by
 unfold cI
 by_cases c:q∈met
 ·rw [Mw c];exact m
 ·rw [Mo c];refine⟨Nu.mpr ⟨m.nd,by simp,fun a ha b hb e=>c (by rw [MG] at hb;rw [← hb,← e];exact ha)⟩,fun p hp=>?_⟩;rcases MR.mp hp with z | z
  ·exact m.inn p z
  ·rw [MG] at z;rw [z];exact hq
theorem cW {met:List β} {q p:β} {i:Nat} (h:met[i]?=some p):(cI met q)[i]?=some p:=by
 unfold cI
 by_cases c:q∈met
 ·rw [Mw c];exact h
 ·rw [Mo c,MC (Mi.mp h).1];exact h
theorem mX {met:List β} {q:β}:q∈cI met q:=by
 unfold cI
 by_cases c:q∈met
 ·rw [Mw c];exact c
 ·rw [Mo c];simp
theorem fY {met:List β} {q p:β} (h:p∈met):p∈cI met q:=by
 unfold cI
 by_cases c:q∈met
 ·rw [Mw c];exact h
 ·rw [Mo c];exact MR.mpr (.inl h)
theorem Me.len {ha th:β→β} {f:β} {P:β→Prop} {all met:List β} (s:Sy ha th f P all) (m:Me P met):met.length≤all.length:=iV met all m.nd fun p hp=>s.al p (m.inn p hp)
theorem Jh {c:β→D} (k:Code c) (met:List β) (q:β):((met.map c).any fun e=>aY e (c q))=decide (q∈met):=by
 rw [Bool.eq_iff_iff,List.any_eq_true,MU]
 constructor
 ·rintro⟨e,h1,h2⟩;obtain⟨z,hz,rfl⟩:=MT.mp h1;rw [k.eq,MU] at h2;exact h2▸hz
 ·exact fun h=>⟨_,MT.mpr ⟨q,h,rfl⟩,by rw [k.eq];simp⟩
theorem yy {c:β→D} (k:Code c):∀met:List β,cB (met.map c)≤8
 | []=>by simp [cB]
 | a :: l=>by
  have:=yy k l;have:=k.dp a;simp only [MP,cB];omega
theorem fe {met:List β} {q:β} (h:q∈met):met[met.idxOf q]?=some q:=by
 rw [Mm (List.idxOf_lt_length_iff.mpr h),List.getElem_idxOf]
theorem zy {met:List β} {x:D} {g:β→β} {c:β→D} {P:β→Prop} (k:Code c) (lk:Look x g c P) (m:Me P met) (cl:∀p∈met,g p∈met) (hl:met.length≤500) {Q:List D→Prop} (h:Q (aF (cb met g))) :
  comps cU (r9 (af 2) (aG Gb (af 1) (af 0))) [none,some (.d x),some (.d (.lst (met.map c)))] Q (met.map c) []:=by
 refine kA (fun x y=>∀p,x=c p→p∈met→y=.int ((met.idxOf (g p):Nat):Int)) _ _ (fun x' hx N hN=>?_) (by simp [MK];omega) (fun ys hy hR=>?_)
 ·obtain⟨p,hp,rfl⟩:=MT.mp hx;have mq:=cl p hp;have dl:=yy k met;have kq:=k.dp (g p)
  have at_:∀j,(((met.map c)[j]?).map fun d=>aY d (c (g p)))=(met[j]?).map fun z=>decide (z=g p):=fun j=>by
   rw [Ms,Option.map_map]
   congr 1
   funext z;exact k.eq z (g p)
  simp_arith only [r9]
  refine⟨by omega,lk p (m.inn p hp) _ ⟨by omega,met.idxOf (g p),?_,fun j hj=>?_,hN _ fun p' ep mp=>?_⟩⟩
  ·rw [at_,fe mq];simp
  ·have hkl:j < met.length:=Nat.lt_trans hj (List.idxOf_lt_length_iff.mpr mq);rw [at_,Mm hkl];simp only [Option.map_some,Option.some.injEq,decide_eq_false_iff_not];intro z;have:=(List.getElem?_inj hkl m.nd).mp (show met[j]?=met[met.idxOf (g p)]? by rw [fe mq,Mm hkl,z]);omega
  ·have e:=k.eq p p';rw [← ep,k.eq] at e;have:p=p':=by simpa using e
   subst this;rfl
 ·have:[] ++ ys=aF (cb met g):=by
   rw [List.nil_append];unfold aF cb;rw [List.map_map];apply List.ext_getElem?
   intro i;rw [My] at hy;rw [Ms]
   by_cases cc:i < met.length
   ·have h1:ys[i]?=some (ys[i]'(by omega)):=Mm _;have h2:met[i]?=some met[i]:=Mm cc;rw [h1,h2];have:=hR i (c met[i]) _ (by rw [Ms,h2];rfl) h1 met[i] rfl (Na cc);rw [this];rfl
   ·rw [MI (by omega),MI (by omega)];rfl
  rw [this];exact h
end
def fE {β:Type} [DecidableEq β] (ha th:β→β) (f:β) (n:Nat):List β:=kZ ha th (n + 1) 0 [f]
def JV (x y z:D) (Q:D→Prop):Prop:=∃(β:Type) (_:DecidableEq β) (c:β→D) (ha th:β→β) (f:β) (P:β→Prop) (all:List β),Code c∧Look x ha c P∧Look y th c P∧z=c f∧Sy ha th f P all ∧
 Q (.tup [.tup (aF (cb (fE ha th f all.length) ha)),.tup (aF (cb (fE ha th f all.length) th))])
def eF:Fw:=F3 JV
def j3:bS:=(bY 4 (aG fu (af 4) (cC (.int 1))))
def nC:bS:=(ef 3 (ck (bQ (ae (az gb (ae (cS (gP [0,3] (af 3) cU (r9 (af 2) (aG Gb (af 1) (af 0))))) av)) (ae (az gb (ae (cS (gP [1,3] (af 3) cU (r9 (af 2) (aG Gb (af 1) (af 0))))) av)) av)))))
def mj:bS:=(aJ (cV 3 (o3 (ae (af 2) av))) (aJ (bY 4 (cC (.int 0))) (aJ (js (aL (aG Eg (af 4) (eu 3))) (aJ (oM (jZ (ae (aG Gb (af 0) (dq 3 (af 4))) (ae (aG Gb (af 1) (dq 3 (af 4))) av))) (aV 5) (iW (ye true 3 (af 5)) (dE 3 (af 5)) bN)) j3)) nC)))
theorem uP:∀ds Q,eF ds Q→ds.length=3:=ud
theorem v8:∀ds (Q:D→Prop),eF ds Q→mj { nx:=fun _=>Q .non,rt:=Q } (aD ["_law_halves","_law_thirds","_law_first","_law_met","_law_at","_law_behind"] ds):=by
 rintro ds Q ⟨x,y,z,rfl,β,inst,c,ha,th,f,P,all,k,lx,ly,rfl,sy,h⟩;have sz:=MK;have few:=sy.few
 simp_arith only [mj,js]
 refine⟨fun e=>∃(met:List β) (at_:Nat) (k5:Option Lo),e=[some (.d x),some (.d y),some (.d (c f)),some (.own (met.map c)),some (.d (.int at_)),k5]∧Me P met∧at_≤met.length∧(∀i p,i < at_→met[i]?=some p→ha p∈met∧th p∈met)∧kZ ha th (all.length + 1 - at_) at_ met=fE ha th f all.length,
  fun e=>all.length - Ff 4 e,⟨[f],0,none,rfl,⟨by simp,fun p hp=>by rw [MG] at hp;rw [hp];exact sy.f0⟩,Nc _,fun i p hi=>absurd hi (Nr _),rfl⟩,?_⟩
 rintro env ⟨met,at_,k5,rfl,m,mle,cl,hb⟩;have ml:=m.len sy
 simp_arith only [My]
 by_cases cc:at_ < met.length
 ·rw [Mw (by omega)];obtain⟨p,hp⟩:∃p,met[at_]?=some p:=⟨met[at_],Mm cc⟩;have ip:=m.inn p (Mu hp);obtain⟨i1,i2⟩:=sy.cl p ip;have ai:lD (met.map c) (at_:Int)=some (c p):=gF _ _ _ _ hp;refine⟨_,_,rfl,ai,lx p ip _ ⟨_,_,rfl,ai,ly p ip _ ?_⟩⟩;show turns _ _ _ [c (ha p),c (th p)] _
  have m1:=m.add i1;have m2:=m1.add i2
  let mm:Nat→List β:=fun i=>match i with
   | 0=>met
   | 1=>cI met (ha p)
   | _=>cI (cI met (ha p)) (th p)
  have hmm:∀i,Me P (mm i):=fun i=>match i with
   | 0=>m
   | 1=>m1
   | _ + 2=>m2
  refine dg (fun i e=>i≤2∧∃k5,e=[some (.d x),some (.d y),some (.d (c f)),some (.own ((mm i).map c)),some (.d (.int at_)),k5]) ?_ ?_ ⟨by omega,k5,rfl⟩
  ·rintro i x' env N hx ⟨hi2,k5,rfl⟩ hN
   obtain⟨q,rfl,eq⟩:∃q,x'=c q∧mm (i + 1)=cI (mm i) q:=by
    match i,hx with
    | 0,hx=>cases hx;exact⟨_,rfl,rfl⟩
    | 1,hx=>cases hx;exact⟨_,rfl,rfl⟩
   have hi:i < 2:=by have:=(Mi.mp hx).1;simpa using this
   have ml':=(hmm i).len sy;have kq:=k.dp q;have dl:=yy k (mm i)
   simp_arith only [ye,My]
   refine⟨by omega,by omega,?_⟩;rw [Jh k];unfold cI at eq
   by_cases c2:q∈mm i
   ·rw [Mw c2] at eq;rw [decide_eq_true c2];refine hN _ ⟨by omega,some (.d (c q)),?_⟩;rw [eq]
   ·rw [Mo c2] at eq;rw [decide_eq_false c2];refine⟨by omega,hN _ ⟨by omega,some (.d (c q)),?_⟩⟩;rw [eq,List.map_append];rfl
  ·rintro env ⟨_,k5,rfl⟩
   simp_arith only [j3]
   refine⟨⟨cI (cI met (ha p)) (th p),at_ + 1,k5,rfl,by omega,rfl,m2,?_,fun i q hi hq=>?_,?_⟩,by simp only [Ff,MV,MS];omega⟩
   ·have:=(Mi.mp (cW (q:=th p) (cW (q:=ha p) hp))).1;omega
   ·by_cases e:i=at_
    ·subst e;rw [cW (cW hp)] at hq;cases hq;exact⟨fY mX,mX⟩
    ·have hi':i < met.length:=by omega
     have o:met[i]?=some met[i]:=Mm hi';rw [cW (cW o)] at hq;cases hq;obtain⟨a1,a2⟩:=cl i _ (by omega) o;exact⟨fY (fY a1),fY (fY a2)⟩
   ·rw [← hb,show all.length + 1 - at_=(all.length - at_) + 1 by omega,kZ,hp];rw [show all.length + 1 - (at_ + 1)=all.length - at_ by omega]
 ·rw [Mo (by omega)];have ea:at_=met.length:=by omega
  subst ea
  have eM:fE ha th f all.length=met:=by
   rw [← hb,show all.length + 1 - met.length=(all.length - met.length) + 1 by omega,kZ,MI (Mv _)]
  rw [eM] at h
  simp_arith only [nC,cp]
  refine zy k lx m (fun p hp=>?_) (by omega) (zy k ly m (fun p hp=>?_) (by omega) h)
  ·obtain⟨i,hi⟩:=MJ hp;exact (cl i p (Mi.mp hi).1 hi).1
  ·obtain⟨i,hi⟩:=MJ hp;exact (cl i p (Mi.mp hi).1 hi).2
section
variable {β:Type} [DecidableEq β] {ha th:β→β} {f:β} {P:β→Prop} {all:List β}
structure Full (ha th:β→β) (f:β) (P:β→Prop) (met:List β):Prop where
 me:Me P met
 cl:∀p∈met,ha p∈met∧th p∈met
 head:met[0]?=some f
 num:∀j q,0 < j→met[j]?=some q→∃i p,i < j∧met[i]?=some p∧(ha p=q∨th p=q)
structure Part (ha th:β→β) (f:β) (P:β→Prop) (met:List β) (at_:Nat):Prop where
 me:Me P met
 le:at_≤met.length
 cl:∀i p,i < at_→met[i]?=some p→ha p∈met∧th p∈met
 head:met[0]?=some f
 num:∀j q,0 < j→met[j]?=some q→∃i p,i < j∧i≤at_∧met[i]?=some p∧(ha p=q∨th p=q)
theorem Part.add {met:List β} {at_:Nat} (m:Part ha th f P met at_) {p q:β} (hp:met[at_]?=some p) (hq:P q) (e:ha p=q∨th p=q):Part ha th f P (cI met q) at_:=by
 have hl:=(Mi.mp hp).1;refine⟨m.me.add hq,?_,fun i x hi hx=>?_,cW m.head,fun j x hj hx=>?_⟩
 ·have:=(Mi.mp (cW (q:=q) hp)).1;omega
 ·have o:met[i]?=some (met[i]'(by omega)):=Mm _;rw [cW o] at hx;cases hx;obtain⟨a,b⟩:=m.cl i _ hi o;exact⟨fY a,fY b⟩
 ·by_cases c:j < met.length
  ·have o:met[j]?=some met[j]:=Mm c;rw [cW o] at hx;cases hx;obtain⟨i,y,h1,h2,h3,h4⟩:=m.num j _ hj o;exact⟨i,y,h1,h2,cW h3,h4⟩
  ·have hx':=hx;unfold cI at hx
   by_cases cq:q∈met
   ·rw [Mw cq,MI (by omega)] at hx;cases hx
   ·rw [Mo cq,MF (by omega)] at hx
    have hj0:j - met.length=0:=by
     have:=(Mi.mp hx).1
     simpa using this
    rw [hj0] at hx;have:q=x:=by simpa using hx
    subst this;exact⟨at_,p,by omega,Mv _,cW hp,e⟩
theorem xw (sy:Sy ha th f P all):∀n at_ met,Part ha th f P met at_→n + at_=all.length + 1→Full ha th f P (kZ ha th n at_ met)
 | 0,at_,met,m,e=>by
  have:=m.me.len sy;have:=m.le
  omega
 | n + 1,at_,met,m,e=>by
  rw [kZ]
  cases hp:met[at_]? with
  | none =>
   have:=m.le
   have ea:at_=met.length:=by
    have:=List.getElem?_eq_none_iff.mp hp;omega
   refine⟨m.me,fun p hp=>?_,m.head,fun j q hj hq=>?_⟩
   ·obtain⟨i,hi⟩:=MJ hp;exact m.cl i p (by rw [ea];exact (Mi.mp hi).1) hi
   ·obtain⟨i,p,h1,_,h3,h4⟩:=m.num j q hj hq
    exact⟨i,p,h1,h3,h4⟩
  | some p =>
   have ip:=m.me.inn p (Mu hp);obtain⟨c1,c2⟩:=sy.cl p ip;have m1:=m.add hp c1 (.inl rfl);have hp1:=cW (q:=ha p) hp;have m2:=m1.add hp1 c2 (.inr rfl);have hp2:=cW (q:=th p) hp1;refine xw sy n (at_ + 1) _ ⟨m2.me,?_,fun i x hi hx=>?_,m2.head,fun j q hj hq=>?_⟩ (by omega)
   ·have:=(Mi.mp hp2).1;omega
   ·by_cases e:i=at_
    ·subst e;rw [hp2] at hx;cases hx;exact⟨fY mX,mX⟩
    ·exact m2.cl i x (by omega) hx
   ·obtain⟨i,y,h1,h2,h3,h4⟩:=m2.num j q hj hq;exact⟨i,y,h1,by omega,h3,h4⟩
theorem j5 (sy:Sy ha th f P all):Full ha th f P (fE ha th f all.length):=by
 refine xw sy (all.length + 1) 0 [f] ⟨⟨by simp,fun p hp=>by rw [MG] at hp;rw [hp];exact sy.f0⟩,Nc _,fun i p hi=>absurd hi (Nr _),rfl,fun j q hj hq=>?_⟩ rfl;have:=(Mi.mp hq).1;simp at this;omega
end
structure qE (a b:List Nat):Prop where
 ok:J4 a b
 pos:0 < a.length
 num:∀j,0 < j→j < a.length→∃i,i < j∧(a[i]?=some j∨b[i]?=some j)
theorem i8 {β:Type} [DecidableEq β] {met:List β} {g:β→β} {i:Nat} {p:β} (h:met[i]?=some p):(cb met g)[i]?=some (met.idxOf (g p)):=by
 unfold cb;rw [Ms,h];rfl
theorem gI {β:Type} [DecidableEq β] {met:List β} (nd:met.Nodup) {i:Nat} {p:β} (h:met[i]?=some p):met.idxOf p=i:=by
 have h2:=fe (Mu h);exact (List.getElem?_inj (Mi.mp h2).1 nd).mp (h2.trans h.symm)
theorem Full.AA {β:Type} [DecidableEq β] {ha th:β→β} {f:β} {P:β→Prop} {met:List β} (m:Full ha th f P met) (hh:∀p,P p→ha (ha p)=p) (t3:∀p,P p→th (th (th p))=p):qE (cb met ha) (cb met th):=by
 have l1:∀g:β→β,(cb met g).length=met.length:=fun g=>by unfold cb;rw [My]
 have inv:∀(g:β→β) (i x:Nat),(cb met g)[i]?=some x→∃p,met[i]?=some p∧x=met.idxOf (g p):=fun g i x h=>by
  unfold cb at h;rw [Ms] at h;obtain⟨p,hp,e⟩:=Nh.mp h;exact⟨p,hp,e.symm⟩
 have nd:=m.me.nd;refine⟨⟨by rw [l1,l1],fun i x h=>?_,fun i x h=>?_,fun i x h=>?_,fun i x y h1 h2=>?_⟩,?_,fun j hj hl=>?_⟩
 ·obtain⟨p,hp,rfl⟩:=inv _ _ _ h;rw [l1];exact List.idxOf_lt_length_iff.mpr (m.cl p (Mu hp)).1
 ·obtain⟨p,hp,rfl⟩:=inv _ _ _ h;rw [l1];exact List.idxOf_lt_length_iff.mpr (m.cl p (Mu hp)).2
 ·obtain⟨p,hp,rfl⟩:=inv _ _ _ h;have pm:=Mu hp;rw [i8 (fe (m.cl p pm).1),hh p (m.me.inn p pm),gI nd hp]
 ·obtain⟨p,hp,rfl⟩:=inv _ _ _ h1;have pm:=Mu hp;have q1:=(m.cl p pm).2;rw [i8 (fe q1)] at h2;cases h2;rw [i8 (fe (m.cl _ q1).2),t3 p (m.me.inn p pm),gI nd hp]
 ·rw [l1];exact List.length_pos_of_mem (Mu m.head)
 ·rw [l1] at hl;obtain⟨i,p,h1,h2,h3⟩:=m.num j met[j] hj (Mm hl);refine⟨i,h1,?_⟩;have ij:met.idxOf met[j]=j:=gI nd (Mm hl);rcases h3 with e | e
  ·left;rw [i8 h2,e,ij]
  ·right;rw [i8 h2,e,ij]
theorem xa {kvs:List (D×D)} {g:bF→Option bF} (e:gw kvs g) {P:bF→Prop} (t:∀p,P p→∃q,g p=some q):Look (.obj (iw kvs)) (fun p=>(g p).getD p) dM P:=fun p hp Q q=>by
 obtain⟨r,hr⟩:=t p hp;have k:=bZ p;have q:Q (dM ((g p).getD p)):=q;rw [hr] at q;exact .inl ⟨kvs,dM r,rfl,k.1,k.2,e.ok,by rw [e.get,hr];rfl,q⟩
theorem E7:Code dM:=⟨x8,fun p=>(bZ p).2⟩
def cE (a:List Nat) (i:Nat):Nat:=a.getD i 0
theorem bW {a:List Nat} {i:Nat} (h:i < a.length):a[i]?=some (cE a i):=by unfold cE;rw [Nt,Mm h];rfl
theorem iF:Code (fun i:Nat=>D.int (i:Int)):=⟨fun p q=>by
 show aY (.int (p:Int)) (.int (q:Int))=_
 rw [Bool.eq_iff_iff,MU];simp [aY]
 omega,fun p=>by simp [dep]⟩
theorem qE.sy {a b:List Nat} (t:qE a b) (hl:a.length≤500) {k:Nat} (hk:k < a.length):Sy (cE a) (cE b) k (fun i=>i < a.length) (List.range a.length):=by
 have e:=t.ok.len;refine⟨hk,fun p hp=>⟨t.ok.al _ _ (bW hp),t.ok.bl _ _ (bW (by omega))⟩,fun p hp=>Nq.mpr hp,by simpa using hl⟩
theorem qE.hh {a b:List Nat} (t:qE a b) (p:Nat) (hp:p < a.length):cE a (cE a p)=p:=by
 have h1:=bW hp;have h2:=t.ok.aa _ _ h1;rw [bW (t.ok.al _ _ h1)] at h2;exact Mq h2
theorem qE.t3 {a b:List Nat} (t:qE a b) (p:Nat) (hp:p < a.length):cE b (cE b (cE b p))=p:=by
 have e:=t.ok.len;have h1:=bW (a:=b) (i:=p) (by omega);have l1:=t.ok.bl _ _ h1;have h2:=bW (a:=b) (i:=cE b p) (by omega);have l2:=t.ok.bl _ _ h2;have h3:=t.ok.bbb _ _ _ h1 h2;rw [bW (a:=b) (by omega)] at h3;exact Mq h3
def kc (a b:List Nat) (k:Nat):List Nat:=cb (fE (cE a) (cE b) k a.length) (cE a)
def jJ (a b:List Nat) (k:Nat):List Nat:=cb (fE (cE a) (cE b) k a.length) (cE b)
theorem xQ {β γ:Type} [DecidableEq β] [DecidableEq γ] {φ:β→γ} {P:β→Prop} (inj:∀p q,P p→P q→φ p=φ q→p=q) {met:List β} {q:β} (hm:∀p∈met,P p) (hq:P q):cI (met.map φ) (φ q)=(cI met q).map φ:=by
 unfold cI
 by_cases c:q∈met
 ·rw [Mw c,Mw (MT.mpr ⟨q,c,rfl⟩)]
 ·rw [Mo c,Mo,List.map_append];rfl;intro z;obtain⟨p,hp,e⟩:=MT.mp z;exact c (inj p q (hm p hp) hq e▸hp)
theorem zo {β:Type} [DecidableEq β] {P:β→Prop} {met:List β} {q:β} (hm:∀p∈met,P p) (hq:P q):∀p∈cI met q,P p:=by
 intro p hp;unfold cI at hp
 by_cases c:q∈met
 ·rw [Mw c] at hp;exact hm p hp
 ·rw [Mo c] at hp;rcases MR.mp hp with z | z
  ·exact hm p z
  ·rw [MG] at z;rw [z];exact hq
theorem zZ {β γ:Type} [DecidableEq β] [DecidableEq γ] {ha th:β→β} {ha' th':γ→γ} {φ:β→γ} {P:β→Prop} (cl:∀p,P p→P (ha p)∧P (th p)) (e1:∀p,P p→ha' (φ p)=φ (ha p)) (e2:∀p,P p→th' (φ p)=φ (th p))
  (inj:∀p q,P p→P q→φ p=φ q→p=q):∀n at_ met,(∀p∈met,P p)→kZ ha' th' n at_ (met.map φ)=(kZ ha th n at_ met).map φ
 | 0,_,_,_=>rfl
 | n + 1,at_,met,hm=>by
  rw [kZ,kZ,Ms]
  cases hp:met[at_]? with
  | none=>rfl
  | some p =>
   have ip:=hm p (Mu hp);have i1:=zo hm (cl p ip).1;show kZ ha' th' n (at_ + 1) (cI (cI (met.map φ) (ha' (φ p))) (th' (φ p)))=_
   rw [e1 p ip,e2 p ip,xQ inj hm (cl p ip).1,xQ inj i1 (cl p ip).2];exact zZ cl e1 e2 inj n (at_ + 1) _ (zo i1 (cl p ip).2)
theorem xl {β:Type} [DecidableEq β] {ha th:β→β}:∀n k at_ met,(kZ ha th n at_ met).length < n + at_→kZ ha th (n + k) at_ met=kZ ha th n at_ met
 | 0,k,at_,met,h=>by
  have h':met.length < 0 + at_:=h
  cases k with
  | zero=>rfl
  | succ k =>
   show kZ ha th (0 + (k + 1)) at_ met=met
   rw [Nat.zero_add,kZ,MI (by omega)]
 | n + 1,k,at_,met,h=>by
  rw [show n + 1 + k=(n + k) + 1 by omega,kZ,kZ];rw [kZ] at h
  cases hp:met[at_]? with
  | none=>rfl
  | some p =>
   rw [hp] at h;exact xl n k (at_ + 1) _ (by have:(kZ ha th n (at_ + 1) (cI (cI met (ha p)) (th p))).length < n + 1 + at_:=h;omega)
def xU (a b:List Nat):Prop:=fE (cE a) (cE b) 0 a.length=List.range a.length
theorem Cq {β:Type} [DecidableEq β] {ha th:β→β} {f:β} {P:β→Prop} {all:List β} (sy:Sy ha th f P all) (tb:qE (cb (fE ha th f all.length) ha) (cb (fE ha th f all.length) th)):xU (cb (fE ha th f all.length) ha) (cb (fE ha th f all.length) th):=by
 have F:=j5 sy;have l1:=F.me.len sy;have few:=sy.few;unfold xU;generalize hm:fE ha th f all.length=met at *;have la:(cb met ha).length=met.length:=by unfold cb;rw [My]
 have i0:met.idxOf f=0:=gI F.me.nd F.head
 have nat:∀(g:β→β) (p:β),p∈met→cE (cb met g) (met.idxOf p)=met.idxOf (g p):=fun g p hp=>by
  have h1:=i8 (g:=g) (fe hp);rw [bW (Mi.mp h1).1] at h1;exact Mq h1
 have e:=zZ (ha:=ha) (th:=th) (ha':=cE (cb met ha)) (th':=cE (cb met th)) (φ:=met.idxOf) (P:=fun p=>p∈met) (fun p hp=>F.cl p hp) (nat ha) (nat th) (fun p q hp hq z=>by
  have h1:=fe hp;rw [z,fe hq] at h1
  exact (Mq h1).symm) (all.length + 1) 0 [f] (fun p hp=>by rw [MG] at hp;rw [hp];exact Mu F.head)
 have hm':kZ ha th (all.length + 1) 0 [f]=met:=hm;rw [hm',MP,List.map_nil,i0] at e
 have hr:met.map (fun p=>met.idxOf p)=List.range met.length:=by
  apply List.ext_getElem?
  intro i;rw [Ms]
  by_cases c:i < met.length
  ·rw [MZ c,Mm c];show some (met.idxOf met[i])=_
   rw [gI F.me.nd (Mm c)]
  ·rw [MI (by omega),MI (by simp;omega)];rfl
 have e':kZ (cE (cb met ha)) (cE (cb met th)) (all.length + 1) 0 [0]=List.range met.length:=by rw [e];exact hr
 have sy':=tb.sy (by rw [la];omega) tb.pos;have F':=j5 sy';have l2:=F'.me.len sy';rw [List.length_range,la] at l2
 have m:=xl (ha:=cE (cb met ha)) (th:=cE (cb met th)) (met.length + 1) (all.length - met.length) 0 [0] (by
  have l3:(kZ (cE (cb met ha)) (cE (cb met th)) (met.length + 1) 0 [0]).length≤met.length:=l2
  omega)
 rw [show met.length + 1 + (all.length - met.length)=all.length + 1 by omega,e'] at m;rw [la];exact m.symm
theorem yt {row:List Z2} {ts:List e7} (t:b4 row ts):ts.length + 2=row.length:=by
 induction t with
 | done h=>simpa using h.symm
 | cut h e _ ih =>
  have:=e.il;rw [List.length_eraseIdx_of_lt (by omega)] at ih;simp;omega
theorem Fq {fs:List Z2} {ms:List Mk} {ha th:bF→Option bF} {isP:bF→Prop} (hf:bh fs ms) (src:uR fs ms ha th isP) {met:List bF} (nd:met.Nodup) (inn:∀p∈met,isP p):met.length + 6≤4 * fs.length:=by
 rcases src with ⟨hn,ts,_,tl,_,hp⟩ | ⟨c,_,hp⟩
 ·have:=iV met ((eR ts).map .edge ++ (List.range fs.length).map .gap) nd fun p h=>by
   have q:=(hp p).mp (inn p h)
   cases p with
   | edge e=>exact MR.mpr (.inl (MT.mpr ⟨e,q,rfl⟩))
   | gap i=>exact MR.mpr (.inr (MT.mpr ⟨i,Nq.mpr (bL hf.mar q),rfl⟩))
  rw [MW,My,My,uE,List.length_range] at this;have:=yt tl;omega
 ·have ml:=hf.mar.len
  have:=iV met [.gap 0,.gap 1] nd fun p h=>by
   obtain⟨i,hi,rfl⟩:=(hp p).mp (inn p h);have:=(Mi.mp hi).1;have:i=0∨i=1:=by omega
   rcases this with rfl | rfl <;> simp
  simp at this;omega
def pN:bS:=(aJ (l7 (az dF (ae (af 0) av)) (iC 3 (bO (aV 1) (bO (aV 2) (bO (aV 3) iU))))) (ck (az eF (ae (af 1) (ae (af 2) (ae (af 3) av))))))
abbrev cN:Nat→D:=fun i=>.int (i:Int)
structure Kn (kvs:List (D×D)) (met:List Nat):Prop where
 ok:bg kvs
 le:kvs.length≤met.length + 1
 any:∀q:Nat,(kvs.any fun kv=>aY kv.1 (cN q))=decide (q∈met)
theorem Dm (f:Nat):Kn [(cN f,.bl true),(.non,.bl true)] [f]:=by
 have e:[(cN f,D.bl true),(D.non,D.bl true)]=putN (putN [] (cN f) (.bl true)) .non (.bl true):=by
  simp [putN,aY]
 refine⟨?_,by simp,fun q=>?_⟩
 ·rw [e];exact (bg.nil.put rfl (by simp [dep])).put rfl (by simp [dep])
 ·have h:=iF.eq f q;simp only [List.any_cons,List.any_nil,Bool.or_false];rw [show aY (cN f) (cN q)=decide (f=q) from h,show aY D.non (cN q)=false by simp [aY]];rw [Bool.or_false,Bool.eq_iff_iff,MU,MU,MG];exact⟨Eq.symm,Eq.symm⟩
theorem Kn.put {kvs:List (D×D)} {met:List Nat} (k:Kn kvs met) {q:Nat} (h:q∉met):Kn (putN kvs (cN q) (.bl true)) (met ++ [q]):=by
 have e:putN kvs (cN q) (.bl true)=kvs ++ [(cN q,.bl true)]:=by
  unfold putN;rw [Mo (by rw [k.any,MU];exact h)]
 refine⟨k.ok.put rfl (by simp [dep]),by rw [e];have:=k.le;simp;omega,fun r=>?_⟩;rw [e,List.any_append,k.any];simp only [List.any_cons,List.any_nil,Bool.or_false];rw [show aY (cN q) (cN r)=decide (q=r) from iF.eq q r,Bool.eq_iff_iff,Bool.or_eq_true,MU,MU,MU,MR,MG];exact or_congr Iff.rfl ⟨Eq.symm,Eq.symm⟩
structure Rw (x:D) (a:List Nat):Prop where
 ix:∀{i v:Nat} {Q:D→Prop},a[i]?=some v→cX x (.int (i:Int)) Q=Q (.int (v:Int))
 ln:∀{Q:D→Prop},gy [x] Q=Q (.int ((a.length:Nat):Int))
theorem Rw.lst {a:List Nat}:Rw (.lst (aF a)) a:=⟨fun {i v Q} h=>by
 have hi:i < a.length:=(Mi.mp h).1
 have e:lD (aF a) (i:Int)=some (.int (v:Int)):=by
  have e1:vT a.length (i:Int)=some i:=by unfold vT;rw [Mw (by omega),Mw (by omega)];simp
  unfold lD aF;rw [My,e1];simp [h]
 exact propext ⟨fun⟨v,ev,q⟩=>by rw [e] at ev;cases ev;exact q,fun q=>⟨_,e,q⟩⟩,fun {Q}=>by rw [kh];simp [aF]⟩
def LS (x y z:D) (Q:D→Prop):Prop:=∃(a b:List Nat) (f:Nat),Rw x a∧Rw y b∧z=.int (f:Int)∧qE a b∧a.length≤500∧f < a.length∧Q (.lst (aF (fE (cE a) (cE b) f a.length)))
def fL:Fw:=F3 LS
def jV:bS:=(DC 5 (cC (.int 1)))
def m8:bS:=(ef 3 (ck (af 3)))
def lZ:bS:=(aJ (cV 3 (o3 (ae (af 2) av))) (aJ (vh 4 (af 2) (cC (.bl true)) (cC (.bl true))) (aJ (bY 5 (cC (.int 0))) (aJ (js (aL (aG Eg (af 5) (eu 3))) (aJ (bY 6 (dq 3 (af 5))) (aJ (oM (bQ (ae (aG cX (af 0) (af 6)) (ae (aG cX (af 1) (af 6)) av))) (aV 7) (iW (yY true 4 (af 7)) (aJ (aZ 4 (af 7) (cC (.bl true))) (dE 3 (af 7))) bN)) jV))) m8))))
theorem vk:∀ds Q,fL ds Q→ds.length=3:=ud
theorem xR:∀ds (Q:D→Prop),fL ds Q→lZ { nx:=fun _=>Q .non,rt:=Q } (aD ["halves","thirds","first","met","known","at","here","behind"] ds):=by
 rintro ds Q ⟨x,y,z,rfl,a,b,f,rx,ry,rfl,tb,few,hf,h⟩;have sz:=MK;have sy:=tb.sy few hf;have le:=tb.ok.len
 simp_arith only [lZ,vh,js]
 refine⟨fun e=>∃(met:List Nat) (kvs:List (D×D)) (at_:Nat) (k6 k7:Option Lo),e=[some (.d x),some (.d y),some (.d (cN f)),some (.own (met.map cN)),some (.dic kvs),some (.d (.int at_)),k6,k7]∧Me (fun i=>i < a.length) met∧Kn kvs met∧at_≤met.length∧kZ (cE a) (cE b) (a.length + 1 - at_) at_ met=fE (cE a) (cE b) f a.length,
  fun e=>a.length - Ff 5 e,⟨[f],_,0,none,none,rfl,⟨by simp,fun p hp=>by rw [MG] at hp;rw [hp];exact hf⟩,Dm f,Nc _,rfl⟩,?_⟩
 rintro env ⟨met,kvs,at_,k6,k7,rfl,m,kn,mle,hb⟩;have ml:=m.len sy;rw [List.length_range] at ml
 simp_arith only [My]
 by_cases cc:at_ < met.length
 ·rw [Mw (by omega)];obtain⟨p,hp⟩:∃p,met[at_]?=some p:=⟨met[at_],Mm cc⟩;have ip:=m.inn p (Mu hp);obtain⟨i1,i2⟩:=sy.cl p ip;have ai:lD (met.map cN) (at_:Int)=some (cN p):=gF _ _ _ _ hp;refine⟨_,_,rfl,ai,?_⟩;show cX x (.int (p:Int)) _
  rw [rx.ix (bW ip)];show cX y (.int (p:Int)) _
  rw [ry.ix (bW (by omega))];have m1:=m.add i1;have m2:=m1.add i2
  let mm:Nat→List Nat:=fun i=>match i with
   | 0=>met
   | 1=>cI met (cE a p)
   | _=>cI (cI met (cE a p)) (cE b p)
  have hmm:∀i,Me (fun i=>i < a.length) (mm i):=fun i=>match i with
   | 0=>m
   | 1=>m1
   | _ + 2=>m2
  refine dg (fun i e=>i≤2∧∃kvs k7,e=[some (.d x),some (.d y),some (.d (cN f)),some (.own ((mm i).map cN)),some (.dic kvs),some (.d (.int at_)),some (.d (cN p)),k7]∧Kn kvs (mm i)) ?_ ?_ ⟨by omega,kvs,k7,rfl,kn⟩
  ·rintro i x' env N hx ⟨hi2,kvs,k7,rfl,kn⟩ hN
   obtain⟨q,rfl,eq⟩:∃q:Nat,x'=cN q∧mm (i + 1)=cI (mm i) q:=by
    match i,hx with
    | 0,hx=>cases hx;exact⟨_,rfl,rfl⟩
    | 1,hx=>cases hx;exact⟨_,rfl,rfl⟩
   have hi:i < 2:=by have:=(Mi.mp hx).1;simpa using this
   have ml':=(hmm i).len sy;rw [List.length_range] at ml';have kl:=kn.le
   simp_arith only [yY,aZ,Lo.dic.injEq]
   refine⟨rfl,by simp [dep],kn.ok,?_⟩;rw [kn.any];unfold cI at eq
   by_cases c2:q∈mm i
   ·rw [Mw c2] at eq;rw [decide_eq_true c2];refine hN _ ⟨by omega,kvs,some (.d (cN q)),?_,by rw [eq];exact kn⟩;rw [eq]
   ·rw [Mo c2] at eq;rw [decide_eq_false c2];refine⟨rfl,by simp [dep],kn.ok,by omega,?_⟩;refine⟨by simp;omega,hN _ ⟨by omega,_,some (.d (cN q)),?_,by rw [eq];exact kn.put c2⟩⟩;rw [eq,List.map_append];rfl
  ·rintro env ⟨_,kvs,k7,rfl,kn⟩
   simp_arith only [jV,DC]
   refine⟨⟨cI (cI met (cE a p)) (cE b p),kvs,at_ + 1,some (.d (cN p)),k7,rfl,rfl,by omega,rfl,rfl,m2,kn,?_,?_⟩,by simp only [Ff,MV,MS];omega⟩
   ·have:=(Mi.mp (cW (q:=cE b p) (cW (q:=cE a p) hp))).1;omega
   ·rw [← hb,show a.length + 1 - at_=(a.length - at_) + 1 by omega,kZ,hp];rw [show a.length + 1 - (at_ + 1)=a.length - at_ by omega]
 ·rw [Mo (by omega)];have ea:at_=met.length:=by omega
  subst ea
  have eM:fE (cE a) (cE b) f a.length=met:=by
   rw [← hb,show a.length + 1 - met.length=(a.length - met.length) + 1 by omega,kZ,MI (Mv _)]
  rw [eM] at h
  simp_arith only [m8]
  exact h
structure Nm (kvs:List (D×D)) (l:List Nat):Prop where
 ok:bg kvs
 le:kvs.length≤l.length
 get:∀q:Nat,dH kvs (cN q)=if q∈l then some (cN (l.idxOf q)) else none
theorem Hd:Nm [] []:=⟨bg.nil,Mv _,fun q=>by simp [dH]⟩
theorem Nm.put {kvs:List (D×D)} {l:List Nat} (n:Nm kvs l) {q:Nat} (h:q∉l):Nm (putN kvs (cN q) (cN l.length)) (l ++ [q]):=by
 refine⟨n.ok.put rfl (by simp [dep]),?_,fun r=>?_⟩
 ·have:(putN kvs (cN q) (cN l.length)).length≤kvs.length + 1:=by
   unfold putN
   split <;> simp
  have:=n.le;simp;omega
 ·rw [nH n.ok rfl rfl,n.get,show aY (cN q) (cN r)=decide (q=r) from iF.eq q r]
  by_cases c:q=r
  ·subst c;rw [decide_eq_true rfl,Mw rfl,Mw (by simp),List.idxOf_append,Mo h];simp
  ·rw [decide_eq_false c,Mo (by simp)]
   by_cases m:r∈l
   ·rw [Mw m,Mw (by simp [m]),List.idxOf_append,Mw m]
   ·rw [Mo m,Mo (by simp [m];exact fun e=>c e.symm)]
theorem xh {Q:List (D×D)→Prop}:∀(rest done:List Nat) (kvs:List (D×D)),(done ++ rest).Nodup→(done ++ rest).length≤500→Nm kvs done→(∀kvs,Nm kvs (done ++ rest)→Q kvs) →
  jt cU (af 1) (af 0) [none,none] Q (rest.mapIdx fun i x=>D.tup [cN (done.length + i),cN x]) kvs
 | [],done,kvs,_,_,n,h=>by rw [Nf] at h;exact h kvs n
 | x :: rest,done,kvs,nd,hl,n,h=>by
  have sz:=MK;have e:done ++ x :: rest=(done ++ [x]) ++ rest:=by simp
  have hx:x∉done:=fun c=>(Nu.mp nd).2.2 x c x (by simp) rfl;have ih:=xh (Q:=Q) rest (done ++ [x]) (putN kvs (cN x) (cN done.length)) (by rw [← e];exact nd) (by rw [← e];exact hl) (n.put hx) (by rw [← e];exact h);rw [List.mapIdx_cons];have le:=n.le;simp only [MW,MQ] at hl;refine⟨_,_,rfl,?_⟩
  simp_arith only [and_true]
  refine⟨rfl,by simp [dep],n.ok,by omega,?_⟩;rw [Nat.add_zero]
  have f:(fun i x=>D.tup [cN (done.length + (i + 1)),cN x])=fun i x=>D.tup [cN ((done ++ [x]).length + i),cN x]:=by
   funext i y;simp only [MW,List.length_singleton];rw [show done.length + (i + 1)=done.length + 1 + i by omega]
  first | (rw [f];exact ih) | (simp only [MW,List.length_singleton] at ih;simp only [Nat.add_assoc,Nat.add_comm 1] at ih ⊢;exact ih)
theorem wq {kvs:List (D×D)} {a met:List Nat} {x:D} (rx:Rw x a) (ok:bg kvs) (hg:∀q∈met,dH kvs (cN q)=some (cN (met.idxOf q))) (few:met.length≤500) (cl:∀p∈met,p < a.length∧cE a p∈met) {Q:List D→Prop} (h:Q (aF (cb met (cE a)))) :
  comps cU (aG FQ (af 2) (aG cX (af 1) (af 0))) [none,some (.d x),some (.d (.obj (iw kvs)))] Q (aF met) []:=by
 refine kA (fun x y=>∀p,x=cN p→p∈met→y=cN (met.idxOf (cE a p))) _ _ (fun x' hx N hN=>?_) (by simp [aF,MK];omega) (fun ys hy hR=>?_)
 ·obtain⟨p,hp,rfl⟩:=MT.mp hx;obtain⟨c1,c2⟩:=cl p hp
  simp_arith only [and_true]
  show cX x (.int (p:Int)) _
  rw [rx.ix (bW c1)];refine⟨kvs,_,rfl,rfl,by simp [dep],ok,hg _ c2,hN _ fun p' ep _=>?_⟩;have e:=iF.eq p p';have ep':cN p=cN p':=ep;rw [show (D.int (p:Int))=D.int (p':Int) from ep',iF.eq] at e;have:p=p':=by simpa using e.symm
  rw [this]
 ·have:[] ++ ys=aF (cb met (cE a)):=by
   rw [List.nil_append];unfold aF cb;rw [List.map_map];apply List.ext_getElem?
   intro i;have hy':ys.length=met.length:=by simpa [aF] using hy
   rw [Ms]
   by_cases cc:i < met.length
   ·have h1:ys[i]?=some (ys[i]'(by omega)):=Mm _;have h2:met[i]?=some met[i]:=Mm cc;rw [h1,h2];have:=hR i (cN met[i]) _ (by unfold aF;rw [Ms,h2];rfl) h1 met[i] rfl (Na cc);rw [this];rfl
   ·rw [MI (by omega),MI (by omega)];rfl
  rw [this];exact h
def LM (x y z:D) (Q:D→Prop):Prop:=∃a b met:List Nat,Rw x a∧Rw y b∧z=.lst (aF met)∧met.Nodup∧met.length≤500∧(∀p∈met,p < a.length∧p < b.length∧cE a p∈met∧cE b p∈met)∧Q (.tup [.tup (aF (cb met (cE a))),.tup (aF (cb met (cE b)))])
def dN:Fw:=F3 LM
def jM:bS:=(aJ (aZ 3 (cC .non) (cC .non)) (dJ 3 (ck (bQ (ae (az gb (ae (cS (gP [0,3] (af 2) cU (aG FQ (af 2) (aG cX (af 1) (af 0))))) av)) (ae (az gb (ae (cS (gP [1,3] (af 2) cU (aG FQ (af 2) (aG cX (af 1) (af 0))))) av)) av))))))
def jm:bS:=(aJ (nT 3 [] (ae (af 2) av) cU (af 1) (af 0)) jM)
theorem rW:∀ds Q,dN ds Q→ds.length=3:=ud
theorem sU:∀ds (Q:D→Prop),dN ds Q→jm { nx:=fun _=>Q .non,rt:=Q } (aD ["halves","thirds","met","numbers"] ds):=by
 rintro ds Q ⟨x,y,z,rfl,a,b,met,rx,ry,rfl,nd,few,cl,h⟩;have sz:=MK
 simp_arith only [jm,nT,cp]
 refine⟨_,_,rfl,rfl,?_⟩
 have e:jI (aF met)=met.mapIdx fun i x=>D.tup [cN (([]:List Nat).length + i),cN x]:=by
  apply List.ext_getElem?
  intro i;unfold jI aF;rw [List.getElem?_mapIdx,List.getElem?_mapIdx,Ms]
  cases met[i]? with
  | none=>rfl
  | some p=>simp
 rw [e];refine xh met [] [] (by simpa using nd) (by simpa using few) Hd fun kvs nm=>?_;rw [List.nil_append] at nm;have le:=nm.le
 simp_arith only [jM,aZ,dJ,Lo.dic.injEq]
 refine⟨rfl,by simp [dep],nm.ok,by omega,?_⟩;have ok:=nm.ok.put (k:=.non) (v:=.non) rfl (by simp [dep])
 have hg:∀q∈met,dH (putN kvs .non .non) (cN q)=some (cN (met.idxOf q)):=fun q hq=>by
  rw [nH nm.ok rfl rfl,show aY D.non (cN q)=false by simp [aY],Mo (by simp),nm.get,Mw hq]
 refine wq rx ok hg few (fun p hp=>⟨(cl p hp).1,(cl p hp).2.2.1⟩) ?_;refine wq ry ok hg few (fun p hp=>⟨(cl p hp).2.1,(cl p hp).2.2.2⟩) ?_;exact h
theorem qE.low {a b:List Nat} (t:qE a b) {met:List Nat} (cl:∀p∈met,cE a p∈met∧cE b p∈met) (inn:∀p∈met,p < a.length):∀n q,q≤n→q∈met→0∈met
 | 0,q,h,m=>by rw [show q=0 by omega] at m;exact m
 | n + 1,q,h,m=>by
  by_cases c:q=0
  ·rw [c] at m;exact m
  ·have hq:=inn q m;have le:=t.ok.len;obtain⟨i,hi,e⟩:=t.num q (by omega) hq;refine qE.low t cl inn n i (by omega) ?_;rcases e with e | e
   ·have:=t.ok.aa _ _ e;rw [bW hq] at this;rw [← Mq this];exact (cl q m).1
   ·have h1:=bW (a:=b) (i:=q) (by omega);have h2:=t.ok.bbb _ _ _ e h1;have l1:=t.ok.bl _ _ h1;rw [bW (a:=b) (by omega)] at h2;rw [← Mq h2];exact (cl _ (cl q m).2).2
theorem qE.high {a b:List Nat} (t:qE a b) {met:List Nat} (cl:∀p∈met,cE a p∈met∧cE b p∈met) (h0:0∈met):∀n j,j≤n→j < a.length→j∈met
 | 0,j,h,_=>by rw [show j=0 by omega];exact h0
 | n + 1,j,h,hj=>by
  by_cases c:j=0
  ·rw [c];exact h0
  ·have le:=t.ok.len;obtain⟨i,hi,e⟩:=t.num j (by omega) hj;have ih:=qE.high t cl h0 n i (by omega) (by omega);rcases e with e | e
   ·rw [bW (by omega)] at e;rw [← Mq e];exact (cl i ih).1
   ·rw [bW (by omega)] at e;rw [← Mq e];exact (cl i ih).2
theorem qE.GU {a b:List Nat} (t:qE a b) (hl:a.length≤500) {k:Nat} (hk:k < a.length):Full (cE a) (cE b) k (fun i=>i < a.length) (fE (cE a) (cE b) k a.length)∧(fE (cE a) (cE b) k a.length).length=a.length:=by
 have f:=j5 (t.sy hl hk);have l1:=f.me.len (t.sy hl hk);rw [List.length_range] at f l1;have h0:=t.low f.cl f.me.inn k k (Mv _) (Mu f.head);have l2:=iV (List.range a.length) _ List.nodup_range fun p hp=>t.high f.cl h0 p p (Mv _) (Nq.mp hp);rw [List.length_range] at l2;exact⟨f,by omega⟩
def IX (x y:D) (Q:D→Prop):Prop:=∃a b:List Nat,Rw x a∧Rw y b∧qE a b∧a.length≤500∧Q (.bl true)
def eL:Fw:=F2 IX
def lI:bS:=(ck (cC (.bl true)))
def jK:bS:=(aJ (hU iH (ae (az gy (ae (af 0) av)) av) (aV 2) (iW (CB (aL (aG vS (aG cX (af 0) (aG cX (af 0) (af 2))) (af 2))) (aL (aG vS (aG cX (af 1) (aG cX (af 1) (aG cX (af 1) (af 2)))) (af 2)))) (ck (cC (.bl false))) bN)) lI)
theorem tE:∀ds Q,eL ds Q→ds.length=2:=kr
theorem vy:∀ds (Q:D→Prop),eL ds Q→jK { nx:=fun _=>Q .non,rt:=Q } (aD ["halves","thirds","place"] ds):=by
 rintro ds Q ⟨x,y,rfl,a,b,rx,ry,t,hl,h⟩;have sz:=MK;have le:=t.ok.len
 simp_arith only [jK]
 rw [rx.ln]
 simp_arith only [and_true]
 refine⟨by omega,by omega,?_⟩;refine dg (fun i e=>∃k2,e=[some (.d x),some (.d y),k2]) ?_ ?_ ⟨none,rfl⟩
 ·rintro i x' env N hx ⟨k2,rfl⟩ hN
  obtain⟨hi,rfl⟩:i < a.length∧x'=.int (i:Int):=by
   simp only [aN,Ms] at hx;obtain⟨j,hj,rfl⟩:=Nh.mp hx;have hl':=(Mi.mp hj).1;rw [List.length_range] at hl';rw [MZ hl'] at hj;cases hj;exact⟨by omega,by rw [Int.zero_add]⟩
  simp_arith only [and_true]
  rw [rx.ix (bW hi),rx.ix (bW (t.ok.al _ _ (bW hi))),t.hh i hi];have b1:=bW (a:=b) (i:=i) (by omega);have l1:=t.ok.bl _ _ b1;have b2:=bW (a:=b) (i:=cE b i) (by omega);have l2:=t.ok.bl _ _ b2;have b3:=bW (a:=b) (i:=cE b (cE b i)) (by omega);rw [sx];refine⟨_,rfl,?_⟩;rw [Mo (by simp),ry.ix b1,ry.ix b2,ry.ix b3,t.t3 i hi,sx];refine⟨_,rfl,?_⟩;rw [Mo (by simp)];exact hN _ ⟨_,rfl⟩
 ·rintro env ⟨k2,rfl⟩
  simp_arith only [lI]
  exact h
def pNum (x y z:D) (Q:D→Prop):Prop:=∃(a b:List Nat) (k:Nat),Rw x a∧Rw y b∧z=.int (k:Int)∧qE a b∧a.length≤500∧k < a.length∧Q (.tup [.tup (aF (kc a b k)),.tup (aF (jJ a b k))])
def fK:Fw:=F3 pNum
def lX:bS:=(aJ (iW (pZ (aL (az eL (ae (af 0) (ae (af 1) av))))) ia bN) (aJ (bY 3 (az fL (ae (af 0) (ae (af 1) (ae (af 2) av))))) (aJ (iW (aL (aG Eg (az gy (ae (af 3) av)) (az gy (ae (af 0) av)))) ia bN) (ck (az dN (ae (af 0) (ae (af 1) (ae (af 3) av))))))))
theorem ur:∀ds Q,fK ds Q→ds.length=3:=ud
theorem xE:∀ds (Q:D→Prop),fK ds Q→lX { nx:=fun _=>Q .non,rt:=Q } (aD ["halves","thirds","first","met"] ds):=by
 rintro ds Q ⟨x,y,z,rfl,a,b,k,rx,ry,rfl,t,hl,hk,h⟩;obtain⟨f,fl⟩:=t.GU hl hk;have le:=t.ok.len
 simp_arith only [lX,eL,fL,dN,fX,xt]
 refine⟨a,b,rx,ry,t,hl,true,rfl,?_⟩;rw [Mo (by simp)];refine⟨a,b,k,rx,ry,rfl,t,hl,hk,?_⟩;have lm:(aF (fE (cE a) (cE b) k a.length)).length=a.length:=by simp [aF,fl]
 show gy [D.lst (aF (fE (cE a) (cE b) k a.length))] _
 rw [kh,lm,rx.ln]
 simp_arith only [and_true]
 rw [Mo (by omega)];exact⟨a,b,_,rx,ry,rfl,f.me.nd,by omega,fun p hp=>⟨f.me.inn p hp,by have:=f.me.inn p hp;omega,f.cl p hp⟩,h⟩
abbrev lU (a b:List Nat):D:=.tup [.tup (aF a),.tup (aF b)]
theorem ug:∀a b:List Nat,dY (aF a) (aF b)=decide (a=b)
 | [],[]=>by simp [aF,dY]
 | [],_ :: _=>by simp [aF,dY]
 | _ :: _,[]=>by simp [aF,dY]
 | x :: a,y :: b=>by
  have e:dY (aF (x :: a)) (aF (y :: b))=(aY (cN x) (cN y) && dY (aF a) (aF b)):=by simp only [aF,MP,dY]
  rw [e,ug a b,show aY (cN x) (cN y)=decide (x=y) from iF.eq x y,Bool.eq_iff_iff];simp
theorem jR:∀a:List Nat,cB (aF a)≤8
 | []=>by simp [aF,cB]
 | x :: a=>by
  have:=jR a;simp only [aF,MP,cB,dep] at this ⊢;omega
theorem FI {a b c d:List Nat} {Q:D→Prop}:lh (lU a b) (lU c d) Q=Q (.bl (decide (a=c∧b=d))):=by
 have d1:=jR a;have d2:=jR b;have d3:=jR c;have d4:=jR d
 have e:aY (lU a b) (lU c d)=decide (a=c∧b=d):=by
  simp only [lU,aY,dY,ug,Bool.and_true];rw [Bool.eq_iff_iff];simp
 unfold lh;rw [e];refine propext ⟨fun h=>h.2,fun h=>⟨?_,h⟩⟩;simp only [jB,lU,dep,cB];omega
def fst (a b c d:List Nat):Option Nat:=(List.range a.length).find? fun k=>decide (kc a b k=c∧jJ a b k=d)
theorem FH {α:Type} {l:List α} {p:α→Bool} {i:Nat} {x:α} (h:l[i]?=some x) (hp:p x=true) (hn:∀j y,j < i→l[j]?=some y→p y=false):l.find? p=some x:=by
 rw [List.find?_eq_some_iff_getElem];obtain⟨hi,e⟩:=Mi.mp h;exact⟨hp,i,hi,e,fun j hj=>by have:=hn j (l[j]'(by omega)) hj (Mm _);simp [this]⟩
theorem Ag {n i:Nat} {x:D} (hx:(aN 0 ((n:Nat):Int).toNat)[i]?=some x):i < n∧x=.int (i:Int):=by
 simp only [aN,Ms] at hx;obtain⟨j,hj,rfl⟩:=Nh.mp hx;have hl':=(Mi.mp hj).1;rw [List.length_range] at hl';rw [MZ hl'] at hj;cases hj;exact⟨by omega,by rw [Int.zero_add]⟩
theorem B6 {a b c d:List Nat} {i:Nat} (hi:i < a.length) (h:kc a b i=c∧jJ a b i=d) (no:∀j,j < i→¬ (kc a b j=c∧jJ a b j=d)):fst a b c d=some i:=by
 refine FH (i:=i) (by rw [MZ hi]) (by simpa using h) fun j y hj hy=>?_;rw [MZ (by omega)] at hy;cases hy
 simpa using no j hj
end KR
namespace K55
open PySem L2 L2.L3
end K55
namespace KR
open PySem L2 L2.L3 K55
section
variable {α β:Type} [DecidableEq α] [DecidableEq β] {φ:α→β}
theorem tQ {met:List α} {q:α} (inj:∀p∈met,φ p=φ q→p=q):(cI met q).map φ=cI (met.map φ) (φ q):=by
 unfold cI
 by_cases c:q∈met
 ·rw [Mw c,Mw (MT.mpr ⟨q,c,rfl⟩)]
 ·rw [Mo c,Mo (fun h=>by
   obtain⟨p,hp,e⟩:=MT.mp h
   exact c (inj p hp e▸hp))]
  simp
theorem xO {P:α→Prop} {h1 t1:α→α} {h2 t2:β→β} (inj:∀p q,P p→P q→φ p=φ q→p=q) (cl:∀p,P p→P (h1 p)∧P (t1 p)) (eh:∀p,P p→φ (h1 p)=h2 (φ p)) (et:∀p,P p→φ (t1 p)=t2 (φ p)) :
  ∀(n at_:Nat) (met:List α),(∀p∈met,P p)→(kZ h1 t1 n at_ met).map φ=kZ h2 t2 n at_ (met.map φ)∧∀p∈kZ h1 t1 n at_ met,P p
 | 0,_,met,hm=>⟨rfl,hm⟩
 | n + 1,at_,met,hm=>by
  unfold kZ;rw [Ms]
  cases e:met[at_]? with
  | none=>exact⟨rfl,hm⟩
  | some p =>
   have hp:=hm p (Mu e)
   have ad:∀(l:List α) (q:α),(∀x∈l,P x)→P q→∀x∈cI l q,P x:=fun l q hl hq x hx=>by
    unfold cI at hx
    split at hx
    ·exact hl x hx
    ·rcases MR.mp hx with hx | hx
     ·exact hl x hx
     ·rw [MG.mp hx];exact hq
   have m1:=ad met (h1 p) hm (cl p hp).1;have m2:=ad _ (t1 p) m1 (cl p hp).2;have ih:=xO inj cl eh et n (at_ + 1) _ m2;refine⟨?_,ih.2⟩;show (kZ h1 t1 n (at_ + 1) (cI (cI met (h1 p)) (t1 p))).map φ=kZ h2 t2 n (at_ + 1) (cI (cI (met.map φ) (h2 (φ p))) (t2 (φ p)))
   rw [ih.1,tQ (fun x hx=>inj x _ (m1 x hx) (cl p hp).2),tQ (fun x hx=>inj x _ (hm x hx) (cl p hp).1),eh p hp,et p hp]
theorem Bg {met:List α} {x:α} (hx:x∈met) (inj:∀p∈met,∀q∈met,φ p=φ q→p=q):(met.map φ).idxOf (φ x)=met.idxOf x:=by
 induction met with
 | nil=>cases hx
 | cons y r ih =>
  rw [MP,List.idxOf_cons,List.idxOf_cons]
  by_cases c:y=x
  ·subst c;simp
  ·have c':¬ φ y=φ x:=fun e=>c (inj y MO x hx e);have hx':x∈r:=(MA.mp hx).resolve_left fun e=>c e.symm;simp only [M7.mpr c,M7.mpr c',cond_false];rw [ih hx' fun p hp q hq=>inj p (MB _ hp) q (MB _ hq)]
theorem wI {met:List α} {g1:α→α} {g2:β→β} (cl:∀p∈met,g1 p∈met) (inj:∀p∈met,∀q∈met,φ p=φ q→p=q) (e:∀p∈met,φ (g1 p)=g2 (φ p)):cb (met.map φ) g2=cb met g1:=by
 unfold cb;rw [List.map_map];refine List.map_congr_left fun p hp=>?_;show (met.map φ).idxOf (g2 (φ p))=met.idxOf (g1 p)
 rw [← e p hp,Bg (cl p hp) inj]
end
structure Lq (a b c d:List Nat) (φ:Nat→Nat):Prop where
 len:c.length=a.length
 lt:∀i,i < a.length→φ i < c.length
 inj:∀i j,i < a.length→j < a.length→φ i=φ j→i=j
 h:∀i,i < a.length→φ (cE a i)=cE c (φ i)
 t:∀i,i < a.length→φ (cE b i)=cE d (φ i)
theorem Lq.anew {a b c d:List Nat} {φ:Nat→Nat} (s:Lq a b c d φ) (ta:qE a b) (hl:a.length≤500) {k:Nat} (hk:k < a.length):kc a b k=kc c d (φ k)∧jJ a b k=jJ c d (φ k):=by
 have le:=ta.ok.len;have cl:∀p,p < a.length→cE a p < a.length∧cE b p < a.length:=fun p hp=>⟨ta.ok.al _ _ (bW hp),ta.ok.bl _ _ (bW (by omega))⟩;have m:=xO (P:=fun i=>i < a.length) (φ:=φ) (h2:=cE c) (t2:=cE d) s.inj cl s.h s.t (a.length + 1) 0 [k] (fun p hp=>by rw [MG.mp hp];exact hk);have f:=j5 (ta.sy hl hk);rw [List.length_range] at f;have em:(fE (cE a) (cE b) k a.length).map φ=fE (cE c) (cE d) (φ k) c.length:=by rw [s.len];exact m.1
 unfold kc jJ;rw [← em]
 exact⟨(wI (fun p hp=>(f.cl p hp).1) (fun p hp q hq=>s.inj p q (f.me.inn p hp) (f.me.inn q hq)) fun p hp=>s.h p (f.me.inn p hp)).symm,
  (wI (fun p hp=>(f.cl p hp).2) (fun p hp q hq=>s.inj p q (f.me.inn p hp) (f.me.inn q hq)) fun p hp=>s.t p (f.me.inn p hp)).symm⟩
theorem Ay {a b:List Nat} (t:qE a b) (s:xU a b):fst a b a b=some 0:=by
 have le:=t.ok.len;have nw:∀l:List Nat,l.length=a.length→cb (List.range a.length) (cE l)=l→True:=fun _ _ _=>trivial
 have e:∀l:List Nat,l.length=a.length→(∀i x,l[i]?=some x→x < a.length)→cb (List.range a.length) (cE l)=l:=fun l hl hx=>by
  apply List.ext_getElem?
  intro i;unfold cb;rw [Ms]
  by_cases c:i < a.length
  ·have h1:=bW (a:=l) (i:=i) (by omega);rw [MZ c,h1];show some ((List.range a.length).idxOf (cE l i))=_
   rw [gI List.nodup_range (MZ (hx _ _ h1))]
  ·rw [MI (by simp;omega),MI (by omega)];rfl
 refine B6 t.pos ⟨?_,?_⟩ fun j hj=>absurd hj (Nr _)
 ·unfold kc;rw [show fE (cE a) (cE b) 0 a.length=_ from s];exact e a rfl t.ok.al
 ·unfold jJ;rw [show fE (cE a) (cE b) 0 a.length=_ from s];exact e b le t.ok.bl
theorem uc {a b:List Nat} (t:qE a b) (s:xU a b):kc a b 0=a∧jJ a b 0=b:=by
 have:=Ay t s;unfold fst at this;have h:=List.find?_some this
 simpa using h
def LN (x y:D) (Q:D→Prop):Prop:=∃a b c d:List Nat,x=lU a b∧y=lU c d∧a.length≤500∧b.length≤500∧Q (.bl (decide (a=c∧b=d)))
def cf:Fw:=F2 LN
def fO:bS:=(aJ (iW (CB (pZ (aL (o6 "tuple" (af 0)))) (aL (aG vS (az gy (ae (af 0) av)) (cC (.int 2))))) (ck (cC (.bl false))) bN) (aJ (oM (af 0) (aV 2) (iW (CB (pZ (aL (o6 "tuple" (af 2)))) (pZ (aL (az ED (ae (cS (gP [] (af 2) cU (az eO (ae (af 0) av)))) av))))) (ck (cC (.bl false))) bN)) (ck (aG lh (af 0) (af 1)))))
theorem lR:∀ds Q,cf ds Q→ds.length=2:=kr
theorem m4:∀ds (Q:D→Prop),cf ds Q→fO { nx:=fun _=>Q .non,rt:=Q } (aD ["_law_found","_law_due","_law_row"] ds):=by
 rintro ds Q ⟨x,y,rfl,a,b,c,d,rfl,rfl,la,lb,h⟩;have sz:=MK
 simp_arith only [fO]
 refine Ad (by simp [Pl,lU,Ga]) ⟨_,rfl,?_⟩;rw [Mo (by simp [isTup,lU])]
 simp_arith only [lU]
 refine dg (fun i e=>∃k,e=[some (.d (lU a b)),some (.d (lU c d)),k]) ?_ ?_ ⟨_,rfl⟩
 ·rintro i x env N hx ⟨k,rfl⟩ hN
  have hx':∃l:List Nat,l.length≤500∧x=.tup (aF l):=by
   match i,hx with
   | 0,hx=>cases hx;exact⟨a,la,rfl⟩
   | 1,hx=>cases hx;exact⟨b,lb,rfl⟩
   | _ + 2,hx=>simp at hx
  obtain⟨l,ll,rfl⟩:=hx'
  simp_arith only [and_true]
  refine Ad (by simp [Pl,Ga]) ⟨_,rfl,?_⟩;rw [Mo (by simp [isTup])];refine fC (fun _=>.bl true) _ _ (fun x hx N2 hN2=>?_) (by simp [aF];omega) ?_
  ·obtain⟨j,_,rfl⟩:=MT.mp hx
   simp_arith only [cp,eO,pF,rP]
   exact⟨by simp [Pl,Ga],hN2⟩
  ·have e:([] ++ List.map (fun x=>D.bl true) (aF l))=((aF l).map fun _=>true).map D.bl:=by simp
   rw [e];refine⟨_,AO _,_,rfl,?_⟩;rw [Mo (by simp)];exact hN _ ⟨_,rfl⟩
 ·rintro env ⟨k,rfl⟩
  simp_arith only [and_true]
  rw [FI];exact h
def W1 (P:D→S2→(S2→D→Prop)→Prop):Ee:=fun ds S R=>∃x,ds=[x]∧P x S R
def W3 (P:D→D→D→S2→(S2→D→Prop)→Prop):Ee:=fun ds S R=>∃x y z,ds=[x,y,z]∧P x y z S R
def I1 (P:D→(S2→Prop)→Prop):FR:=fun ds R=>∃x,ds=[x]∧P x R
theorem JJ {P}:∀ds S (R:S2→D→Prop),W1 P ds S R→ds.length + 1=2:=by rintro ds S R ⟨x,rfl,_⟩;rfl
theorem Jr {P}:∀ds S (R:S2→D→Prop),W3 P ds S R→ds.length + 1=4:=by rintro ds S R ⟨x,y,z,rfl,_⟩;rfl
theorem JW {P}:∀ds (R:S2→Prop),I1 P ds R→ds.length + 1=2:=by rintro ds R ⟨x,rfl,_⟩;rfl
theorem JZ {P x S R}:W1 P [x] S R=P x S R:=by
 unfold W1;apply propext;constructor
 ·rintro⟨x',e,h⟩;cases e;exact h
 ·intro h;exact⟨_,rfl,h⟩
theorem J0 {P x y z S R}:W3 P [x,y,z] S R=P x y z S R:=by
 unfold W3;apply propext;constructor
 ·rintro⟨x',y',z',e,h⟩;cases e;exact h
 ·intro h;exact⟨_,_,_,rfl,h⟩
theorem Jy {P x R}:I1 P [x] R=P x R:=by
 unfold I1;apply propext;constructor
 ·rintro⟨x',e,h⟩;cases e;exact h
 ·intro h;exact⟨_,rfl,h⟩
theorem bK (m:M4):aX m.toD=true∧dep m.toD≤8:=⟨by simp [M4.toD,aX,iA],by simp [M4.toD,dep,cB]⟩
theorem yq {m k:M4} (h:m.toD=k.toD):m=k:=by
 obtain⟨a,b,c,d⟩:=m;obtain⟨e,f,g,i⟩:=k;simp only [M4.toD,D.tup.injEq,List.cons.injEq,D.int.injEq,and_true] at h;obtain⟨rfl,rfl,rfl,rfl⟩:=h;rfl
theorem qN {m k:M4}:aY m.toD k.toD=true↔m=k:=(zW (bK m).1 (bK k).1).trans ⟨yq,fun e=>e▸rfl⟩
def lF (L:List M4):List (D×D):=L.zipIdx.map fun x=>(x.1.toD,.int (x.2:Int))
theorem kL (L:List M4):(lF L).length=L.length:=by simp [lF]
theorem oW {L:List M4} {i:Nat} {x:D×D} (h:(lF L)[i]?=some x):∃m,L[i]?=some m∧x=(m.toD,.int (i:Int)):=by
 unfold lF at h;rw [Ms,List.getElem?_zipIdx] at h
 cases hm:L[i]? with
 | none=>rw [hm] at h;cases h
 | some m=>rw [hm] at h;cases h;exact⟨m,rfl,by simp⟩
theorem qC (L:List M4) (m:M4):((lF L).any fun kv=>aY kv.1 m.toD)=decide (m∈L):=by
 rw [Bool.eq_iff_iff,List.any_eq_true,MU]
 constructor
 ·rintro⟨x,hx,e⟩;obtain⟨i,hi⟩:=MJ hx;obtain⟨k,hk,rfl⟩:=oW hi;rw [qN] at e;subst e;exact Mu hk
 ·intro hm;obtain⟨i,hi⟩:=MJ hm;have hl:=(Mi.mp hi).1;have h2:i < (lF L).length:=by rw [kL];exact hl
  refine⟨(lF L)[i],Na _,?_⟩;obtain⟨k,hk,e⟩:=oW (Mm h2);rw [hi] at hk;cases hk;rw [e];exact qN.mpr rfl
theorem u6 {L:List M4} (nd:L.Nodup):bg (lF L):=by
 refine⟨fun kv h=>?_,fun i j x y hx hy e=>?_⟩
 ·obtain⟨i,hi⟩:=MJ h;obtain⟨m,_,rfl⟩:=oW hi;exact bK m
 ·obtain⟨m,hm,rfl⟩:=oW hx;obtain⟨k,hk,rfl⟩:=oW hy;have:=yq e;subst this;exact (List.getElem?_inj (Mi.mp hm).1 nd).mp (hm.trans hk.symm)
theorem Am {L:List M4} {m:M4} (h:m∉L):putN (lF L) m.toD (.int ((lF L).length:Int))=lF (L ++ [m]):=by
 unfold putN;rw [Mo (by rw [qC];simp [h]),kL];unfold lF;rw [List.zipIdx_append,List.map_append];simp
theorem zQ {L:List M4} (nd:L.Nodup) {i:Nat} {m:M4} (h:L[i]?=some m):dH (lF L) m.toD=some (.int (i:Int)):=by
 have hany:((lF L).any fun kv=>aY kv.1 m.toD)=true:=by rw [qC];simpa using Mu h
 unfold dH
 cases hf:(lF L).find? fun kv=>aY kv.1 m.toD with
 | none =>
  rw [List.find?_eq_none] at hf;obtain⟨x,hx,e⟩:=List.any_eq_true.mp hany
  exact absurd e (hf x hx)
 | some x =>
  have e:=List.find?_some hf;obtain⟨j,hj⟩:=MJ (List.mem_of_find?_eq_some hf);obtain⟨k,hk,rfl⟩:=oW hj;have:=qN.mp e;subst this;have:=(List.getElem?_inj (Mi.mp hk).1 nd).mp (hk.trans h.symm);subst this;rfl
def xT (fs:List Z2):D:=.lst ((List.range fs.length).map fun g=>(aK fs g).toD)
def Ez (fs:List Z2) (m:M4):Prop:=∃g,g < fs.length∧m=aK fs g
structure zO (L:List M4):Prop where
 nd:L.Nodup
 num:∀j m,0 < j→L[j]?=some m→∃i p,i < j∧L[i]?=some p∧(m=(p.mul hR).up∨m=(p.mul hS).up)
structure Ic (fs:List Z2) (L:List M4):Prop where
 gr:zO L
 all:∀m,m∈L↔Wi fs m
theorem nD {fs:List Z2} {m:M4} (h:¬ Ez fs m):∀g,g < fs.length→m≠aK fs g:=fun g hg e=>h ⟨g,hg,e⟩
theorem JM {fs:List Z2} {m:M4} (hf:aw fs.length fs) (h:Wi fs m):m.B 30:=by
 obtain⟨i,hi,e⟩:=h.v0;obtain⟨j,hj,f⟩:=h.v1;rw [jw] at e;rw [iu] at f;have bi:=u9 hf hi;have bj:=u9 hf hj
 have e':bR 30 m.a∧bR 30 m.c:=by
  rcases e with e | e
  ·have e1:=M0 Prod.fst e;have e2:=M0 Prod.snd e;simp only at e1 e2;rw [e1,e2];exact bi
  ·have e1:=M0 Prod.fst e;have e2:=M0 Prod.snd e;simp only [aT] at e1 e2;rw [e1,e2];exact⟨bits_neg bi.1,bits_neg bi.2⟩
 have f':bR 30 m.b∧bR 30 m.d:=by
  rcases f with e | e
  ·have e1:=M0 Prod.fst e;have e2:=M0 Prod.snd e;simp only at e1 e2;rw [e1,e2];exact bj
  ·have e1:=M0 Prod.fst e;have e2:=M0 Prod.snd e;simp only [aT] at e1 e2;rw [e1,e2];exact⟨bits_neg bj.1,bits_neg bj.2⟩
 exact⟨e'.1,f'.1,e'.2,f'.2⟩
theorem Ck:hS.B 1:=⟨show bR 1 0 by unfold bR;decide,show bR 1 (-1) by unfold bR;decide,show bR 1 1 by unfold bR;decide,show bR 1 0 by unfold bR;decide⟩
theorem GJ:hR.B 1:=⟨show bR 1 0 by unfold bR;decide,show bR 1 (-1) by unfold bR;decide,show bR 1 1 by unfold bR;decide,show bR 1 (-1) by unfold bR;decide⟩
theorem CI {fs:List Z2} {m:M4}:(((List.range fs.length).map fun g=>(aK fs g).toD).any fun e=>aY e m.toD)=true↔Ez fs m:=by
 rw [List.any_eq_true]
 constructor
 ·rintro⟨x,hx,e⟩;obtain⟨g,hg,rfl⟩:=MT.mp hx;exact⟨g,Nq.mp hg,(qN.mp e).symm⟩
 ·rintro⟨g,hg,rfl⟩;exact⟨_,MT.mpr ⟨g,Nq.mpr hg,rfl⟩,qN.mpr rfl⟩
theorem zk (fs:List Z2):∀l:List Nat,cB (l.map fun g=>(aK fs g).toD)≤60
 | []=>by simp [cB]
 | g :: r=>by
  have:=zk fs r;simp only [MP,cB,M4.toD,dep] at this ⊢;omega
structure lG (fs:List Z2) (L W:List M4):Prop where
 nd:L.Nodup
 num:∀j m,0 < j→L[j]?=some m→∃i p,i < j∧L[i]?=some p∧(m=(p.mul hR).up∨m=(p.mul hS).up)
 wiL:∀m∈L,Wi fs m
 wiW:∀m∈W,Wi fs m
 par:∀m∈W,(L=[]∧W=[m])∨∃p∈L,m=(p.mul hR).up∨m=(p.mul hS).up
 clR:∀m∈L,(m.mul hR).up∈L∨(m.mul hR).up∈W
 clS:∀m∈L,¬ Ez fs m→(m.mul hS).up∈L∨(m.mul hS).up∈W
 ini:aK fs 0∈L∨aK fs 0∈W
theorem lG.fin {fs:List Z2} {L:List M4} (h:lG fs L []) (hf:aw fs.length fs) (h3:3≤fs.length):Ic fs L:=by
 refine⟨⟨h.nd,h.num⟩,fun m=>⟨h.wiL m,fun hm=>?_⟩⟩;refine Co hf h3 (fun m=>m∈L) (h.ini.resolve_right (by simp)) (fun m hm=>(h.clR m hm).resolve_right (by simp)) (fun m hm hr=>(h.clS m hm (fun⟨g,hg,e⟩=>hr g hg e)).resolve_right (by simp)) h.wiL m hm
theorem lG.old {fs:List Z2} {L W:List M4} {m:M4} (h:lG fs L (W ++ [m])) (hm:m∈L):lG fs L W:=by
 have mv:∀k,k∈L∨k∈W ++ [m]→k∈L∨k∈W:=fun k hk=>by
  rcases hk with z | z
  ·exact .inl z
  ·rcases MR.mp z with z | z
   ·exact .inr z
   ·rw [MG] at z;rw [z];exact .inl hm
 refine⟨h.nd,h.num,h.wiL,fun k hk=>h.wiW k (Np _ hk),fun k hk=>?_,fun k hk=>mv _ (h.clR k hk),fun k hk hr=>mv _ (h.clS k hk hr),mv _ h.ini⟩;rcases h.par k (Np _ hk) with ⟨e,_⟩ | z
 ·rw [e] at hm;cases hm
 ·exact .inr z
theorem lG.new {fs:List Z2} {L W:List M4} {m:M4} (hf:aw fs.length fs) (h:lG fs L (W ++ [m])) (hm:m∉L) (W':List M4) (hW:∀k,k∈W'↔k∈W∨k=(m.mul hR).up∨(k=(m.mul hS).up∧¬ Ez fs m)):lG fs (L ++ [m]) W':=by
 have wm:Wi fs m:=h.wiW m (by simp)
 have inW:∀k,k∈L∨k∈W ++ [m]→k∈L ++ [m]∨k∈W':=fun k hk=>by
  rcases hk with z | z
  ·exact .inl (Np _ z)
  ·rcases MR.mp z with z | z
   ·exact .inr ((hW k).mpr (.inl z))
   ·exact .inl (MX _ z)
 refine⟨?_,fun j k hj hk=>?_,fun k hk=>?_,fun k hk=>?_,fun k hk=>?_,fun k hk=>?_,fun k hk hr=>?_,inW _ h.ini⟩
 ·rw [Nu];exact⟨h.nd,by simp,fun a ha b hb e=>hm (by rw [MG] at hb;rw [← hb,← e];exact ha)⟩
 ·by_cases c:j < L.length
  ·rw [MC c] at hk;obtain⟨i,p,hi,hp,e⟩:=h.num j k hj hk;exact⟨i,p,hi,by rw [MC (by omega)];exact hp,e⟩
  ·have hl:=(Mi.mp hk).1;have ej:j=L.length:=by simp at hl;omega
   subst ej;rw [MF (Mv _),Nat.sub_self] at hk;cases hk;rcases h.par m (by simp) with ⟨e,_⟩ | ⟨p,hp,e⟩
   ·rw [e] at hj;simp at hj
   ·obtain⟨i,hi⟩:=MJ hp;have hil:=(Mi.mp hi).1;exact⟨i,p,hil,by rw [MC hil];exact hi,e⟩
 ·rcases MR.mp hk with z | z
  ·exact h.wiL k z
  ·rw [MG] at z;rw [z];exact wm
 ·rcases (hW k).mp hk with z | z | ⟨z,hr⟩
  ·exact h.wiW k (Np _ z)
  ·rw [z];exact fb wm
  ·rw [z];exact kU hf wm (nD hr)
 ·rcases (hW k).mp hk with z | z | ⟨z,hr⟩
  ·rcases h.par k (Np _ z) with ⟨_,e⟩ | ⟨p,hp,e⟩
   ·have:=M0 List.length e;have hz:=List.length_pos_of_mem z;rw [MW] at this;simp only [MQ,Nj] at this;omega
   ·exact .inr ⟨p,Np _ hp,e⟩
  ·exact .inr ⟨m,by simp,.inl z⟩
  ·exact .inr ⟨m,by simp,.inr z⟩
 ·rcases MR.mp hk with z | z
  ·exact inW _ (h.clR k z)
  ·rw [MG] at z;rw [z];exact .inr ((hW _).mpr (.inr (.inl rfl)))
 ·rcases MR.mp hk with z | z
  ·exact inW _ (h.clS k z hr)
  ·rw [MG] at z;subst z;exact .inr ((hW _).mpr (.inr (.inr ⟨rfl,hr⟩)))
def Lb (x:D) (S:S2) (R:S2→D→Prop):Prop:=∃fs:List Z2,x=xT fs∧aw fs.length fs∧S.st=[]∧∀L,(3≤fs.length∧Ic fs L∨fs.length=2∧L=[])→R ⟨lF L,S.cr⟩ .non
def br:Ee:=W1 Lb
def dm (p:P4):oJ S2:=(jH (vE (cV 2 (Iy (aL (aG KI (az gy (ae (af 1) av)) (cC (.int 2)))) (o3 (ae (aG cX (af 1) (cC (.int 0))) av)) (o3 av)))) (yd (qK 2) (jH (vE (xS (C4 2) (aV 3))) (uB 0 p.x false (af 3) (jH (kF 0 p.x false (af 3)) (jH (vE (dE 2 (az cO (ae (af 3) (ae (cC (.tup [.int 0,.int (-1),.int 1,.int (-1)])) av))))) (vE (iW (aL (aG (DU true) (af 3) (af 1))) (dE 2 (az cO (ae (af 3) (ae (cC (.tup [.int 0,.int (-1),.int 1,.int 0])) av)))) bN)))) (vE bN)))))
theorem iP:∀ds S (R:S2→D→Prop),br ds S R→ds.length + 1=2:=JJ
theorem jh:∀(p:P4) ds S (R:S2→D→Prop),br ds S R→dm p { nx:=fun S' _=>R S' .non,rt:=R } S (aD ["self","rim","waiting","one"] (.obj (og p.x) :: ds)):=by
 rintro p ds S R ⟨x,rfl,fs,rfl,hf,hst,h⟩;have hn:=hf.two;have most:=hf.most;have sz:=MK;have rl:((List.range fs.length).map fun g=>(aK fs g).toD).length=fs.length:=by simp
 have loop:∀(W:List M4),(W=[]∧fs.length=2∨W=[aK fs 0]∧3≤fs.length)→yd (qK 2) (jH (vE (xS (C4 2) (aV 3))) (uB 0 p.x false (af 3) (jH (kF 0 p.x false (af 3)) (jH (vE (dE 2 (az cO (ae (af 3) (ae (cC (.tup [.int 0,.int (-1),.int 1,.int (-1)])) av))))) (vE (iW (aL (aG (DU true) (af 3) (af 1))) (dE 2 (az cO (ae (af 3) (ae (cC (.tup [.int 0,.int (-1),.int 1,.int 0])) av)))) bN)))) (vE bN))) { nx:=fun S' _=>R S' .non,rt:=R } S [some (.d (.obj (og p.x))),some (.d (xT fs)),some (.own (W.map M4.toD)),none]:=by
  intro W hW
  refine⟨fun S' e=>∃(L W:List M4) (k3:Option Lo),S'=⟨lF L,S.cr⟩∧W.length≤2 * L.length + 1∧(3≤fs.length∧lG fs L W∨fs.length=2∧L=[]∧W=[])∧e=[some (.d (.obj (og p.x))),some (.d (xT fs)),some (.own (W.map M4.toD)),k3],
   fun S' e=>3 * (fs.length * fs.length + 1 - S'.st.length) + y8 2 e,⟨[],W,_,?_,?_,?_,rfl⟩,?_⟩
  ·cases S;simp only at hst;subst hst;rfl
  ·rcases hW with ⟨rfl,e⟩ | ⟨rfl,e⟩ <;> simp
  ·rcases hW with ⟨rfl,e⟩ | ⟨rfl,e⟩
   ·exact .inr ⟨e,rfl,rfl⟩
   ·exact .inl ⟨e,⟨List.nodup_nil,fun j m _ h=>by simp at h,fun m h=>absurd h MN,fun m hm=>by rw [MG] at hm;rw [hm];exact vq hf e (by omega),fun m hm=>.inl ⟨rfl,by rw [MG] at hm;rw [hm]⟩,fun m h=>absurd h MN,fun m h=>absurd h MN,.inr (by simp)⟩⟩
  rintro S' env ⟨L,W,k3,rfl,wl,hg,rfl⟩
  simp_arith only [and_true]
  rcases List.eq_nil_or_concat W with e | ⟨W0,m,e⟩
  ·subst e;rw [Mo (by simp)];refine h L ?_;rcases hg with ⟨h3,hg⟩ | ⟨h2,e,_⟩
   ·exact .inl ⟨h3,hg.fin hf h3⟩
   ·exact .inr ⟨h2,e⟩
  rw [List.concat_eq_append] at e;subst e
  have hg:3≤fs.length∧lG fs L (W0 ++ [m]):=by
   rcases hg with z | ⟨_,_,e⟩
   ·exact z
   ·simp at e
  obtain⟨h3,hg⟩:=hg;have wm:Wi fs m:=hg.wiW m (by simp);have cnt:=xB L hg.nd hg.wiL;have sq:fs.length * fs.length≤22 * 22:=Nat.mul_le_mul most most;have mB:=JM hf wm;rw [MW] at wl;simp only [MQ,Nj] at wl;rw [Mw (by simp)]
  simp_arith only [jH,vE,gq.at]
  refine⟨W0.map M4.toD,m.toD,by rw [List.map_append];rfl,?_⟩;unfold uB
  simp_arith only [jH,vE,gq.at,kF,S2.get,qC,MU]
  refine⟨(bK m).1,(bK m).2,u6 hg.nd,?_⟩
  by_cases c:m∈L
  ·rw [Mw c];refine⟨⟨L,W0,_,rfl,by omega,.inl ⟨h3,hg.old c⟩,rfl,rfl⟩,?_⟩;simp only [y8,MS,MV,My,MW];simp
  ·rw [Mo c];rw [Am c,kL];refine⟨(bK m).1,(bK m).2,u6 hg.nd,by omega,?_⟩;simp only [cO,fX,S2.put];refine⟨by rw [My];omega,m,hR,30,1,rfl,rfl,mB,GJ,by decide,wm.T.1,by decide,?_⟩;refine⟨_,rfl,zk fs _,by have:=(bK m).2;omega,_,rfl,?_⟩;rw [Mw rfl]
   have nl:(L ++ [m]).length≤fs.length * fs.length:=xB (L ++ [m]) (by
    rw [Nu]
    exact⟨hg.nd,by simp,fun a ha b hb e=>c (by rw [MG] at hb;rw [← hb,← e];exact ha)⟩) (fun k hk=>by
    rcases MR.mp hk with z | z
    ·exact hg.wiL k z
    ·rw [MG] at z;rw [z];exact wm)
   rw [MW] at nl;simp only [MQ,Nj] at nl
   by_cases r:Ez fs m
   ·have e:=CI.mpr r;rw [e,Mo (by decide)];refine⟨⟨L ++ [m],W0 ++ [(m.mul hR).up],_,rfl,by simp;omega,.inl ⟨h3,hg.new hf c _ fun k=>?_⟩,by simp,rfl⟩,?_⟩
    ·simp [r]
    ·simp only [y8,MS,MV,My,MW,kL,MQ,Nj];omega
   ·have e:(((List.range fs.length).map fun g=>(aK fs g).toD).any fun e=>aY e m.toD)=false:=by
     cases hh:((List.range fs.length).map fun g=>(aK fs g).toD).any fun e=>aY e m.toD with
     | true=>exact absurd (CI.mp hh) r
     | false=>rfl
    rw [e,Mw (by decide)];refine⟨by simp;omega,m,hS,30,1,rfl,rfl,mB,Ck,by decide,wm.T.1,by decide,?_⟩;refine⟨⟨L ++ [m],W0 ++ [(m.mul hR).up] ++ [(m.mul hS).up],_,rfl,by simp;omega,.inl ⟨h3,hg.new hf c _ fun k=>?_⟩,by simp,rfl⟩,?_⟩
    ·simp [r,or_assoc]
    ·simp only [y8,MS,MV,My,MW,kL,MQ,Nj];omega
 simp_arith only [dm,jH,vE,gq.at,xT,Iy]
 rw [rl]
 by_cases c:(2:Int) < (fs.length:Int)
 ·rw [Mw c]
  have e0:lD ((List.range fs.length).map fun g=>(aK fs g).toD) 0=some (aK fs 0).toD:=by
   have h0:0 < fs.length:=by omega
   rw [qq (by decide) (by rw [rl];omega),Ms,show (0:Int).toNat=0 from rfl,MZ h0];rfl
  exact⟨_,e0,loop [aK fs 0] (.inr ⟨rfl,by omega⟩)⟩
 ·rw [Mo c];exact loop [] (.inl ⟨rfl,by omega⟩)
def gj (fs:List Z2) (g:Nat):M4:=((aK fs g).mul hS).up
def Cs (fs:List Z2) (g:Nat):M4:=((gj fs g).mul hR).up
theorem zK {fs:List Z2} {g:Nat} (h:aw fs.length fs) (hg:g < fs.length):(gj fs g).T:=M4.nF (by rw [M4.cL,(ib h hg).1];decide)
theorem zi {m:M4} (h:m.T):((m.mul hS).up.mul hS).up=m:=by
 refine f7 (M4.nF (by rw [M4.cL,M4.nR,M4.cL,h.1];decide)) h ?_;exact (Eqv.up _).trans (((Eqv.up _).mul (.refl _)).trans (Lj m))
theorem Dj {m k:M4} (hm:m.T) (hk:k.T) (e:(m.mul hS).up=(k.mul hS).up):m=k:=by
 rw [← zi hm,e,zi hk]
theorem thirdT {m:M4} (h:m.T):((((m.mul hR).up.mul hR).up).mul hR).up=m:=by
 refine f7 (M4.nF (by rw [M4.cL,M4.nR,M4.cL,M4.nR,M4.cL,h.1];decide)) h ?_;exact (Eqv.up _).trans (((Eqv.up _).mul (.refl _)).trans ((((Eqv.up _).mul (.refl _)).mul (.refl _)).trans (Ka m)))
theorem BC {m k:M4} (hm:m.T) (hk:k.T) (e:(m.mul hR).up=(k.mul hR).up):m=k:=by
 rw [← thirdT hm,e,thirdT hk]
theorem C2 {fs:List Z2} (h:aw fs.length fs) {g k:Nat} (hg:g < fs.length) (hk:k < fs.length) (e:aK fs g=aK fs k):g=k:=by
 have h1:=uJ fs g;have h2:=uJ fs k;rw [e] at h1;refine lQ h hg hk ?_;rcases h1 with a | a <;> rcases h2 with b | b
 ·exact .inl (a.symm.trans b)
 ·exact .inr (a.symm.trans b)
 ·right
  have:aT (aP fs g)=aP fs k:=a.symm.trans b;rw [← this];simp [aT]
 ·left
  have:aT (aP fs g)=aT (aP fs k):=a.symm.trans b;have e1:=M0 Prod.fst this;have e2:=M0 Prod.snd this;simp only [aT] at e1 e2;exact Nk (by omega) (by omega)
theorem kB {fs:List Z2} (h:aw fs.length fs) {g k:Nat} (hg:g < fs.length) (hk:k < fs.length) (e:gj fs g=gj fs k):g=k:=C2 h hg hk (Dj (ib h hg) (ib h hk) e)
theorem Fh {fs:List Z2} (h:aw fs.length fs) {g k:Nat} (hg:g < fs.length) (hk:k < fs.length) (e:Cs fs g=Cs fs k):g=k:=kB h hg hk (BC (zK h hg) (zK h hk) e)
theorem nh {fs:List Z2} (h:aw fs.length fs) {g:Nat} (hg:g < fs.length):((gj fs g).mul hS).up=aK fs g:=zi (ib h hg)
theorem kS {fs:List Z2} (h:aw fs.length fs) {g:Nat} (hg:g < fs.length):¬ Wi fs (gj fs g):=fun w=>jc h w hg (nh h hg)
theorem HR {fs:List Z2} (h:aw fs.length fs) {g:Nat} (hg:g < fs.length):qi fs (act (gj fs g) (0,1)):=by
 refine dQ (Eqv.up _) ?_;rw [bp,show act hS (0,1)=aT (1,0) by decide];exact iy rfl (uF hg)
theorem Ac {fs:List Z2} (h:aw fs.length fs) {g:Nat} (hg:g < fs.length):¬ qi fs (act (Cs fs g) (0,1)):=fun w=>by
 have e:Eqv (((aK fs g).mul hS).mul hR) (Cs fs g):=(((Eqv.up _).mul (.refl _)).symm.trans (Eqv.up _).symm);have w2:=dQ e w;rw [bp,bp,show act hS (act hR (0,1))=(1,-1) by decide] at w2;have:=kQ h w2 hg;rw [rf h hg] at this;simp at this
theorem yf {fs:List Z2} (h:aw fs.length fs) {g k:Nat} (hg:g < fs.length) (hk:k < fs.length):Cs fs g≠gj fs k:=fun e=>Ac h hg (by rw [e];exact HR h hk)
theorem AD {fs:List Z2} (h:aw fs.length fs) {g:Nat} (hg:g < fs.length):¬ Wi fs (Cs fs g):=fun w=>Ac h hg w.v1
theorem Ce {fs:List Z2} (h:aw fs.length fs) (h2:fs.length=2):fs=[(1,0),(0,1)]:=by
 match fs,h2,h with
 | [a,b],_,h =>
  have ha:a=(1,0):=by simpa using h.first
  have hb:=h.nought;rw [ha] at hb ⊢;simp only [MA,Prod.mk.injEq,MN,or_false] at hb;rcases hb with ⟨z,_⟩ | z
  ·exact absurd z (by decide)
  ·rw [z]
def xX:Mk→Nat→Nat
 | .gap j,_=>j
 | .half,g=>g
 | .aB,g=>g
def jS (fs:List Z2) (g:Nat):Mk→M4
 | .aB=>Cs fs g
 | .half=>gj fs g
 | .gap _=>gj fs g
def pR (fs:List Z2) (g:Nat):Mk→M4
 | .aB=>gj fs g
 | .gap j=>aK fs j
 | .half=>aK fs g
def fc (g:Nat) (s:M4):D:=.tup [.tup [.int (g:Int),.int 1],s.toD]
theorem C1 {fs:List Z2} {g:Nat} (hg:g < fs.length) {Q:D→Prop} (q:Q (aK fs g).toD):cX (xT fs) (.int (g:Int)) Q:=by
 refine⟨_,?_,q⟩;rw [qq (by omega) (by simp;omega),Ms,Int.toNat_natCast,MZ hg];rfl
def LR (x y z:D) (S:S2) (R:S2→D→Prop):Prop:=∃(fs:List Z2) (ms:List Mk) (g:Nat) (mk:Mk),x=xT fs∧y=.int (g:Int)∧z=jx mk∧bh fs ms∧g < fs.length∧ms[g]?=some mk∧bg S.cr∧S.cr.length < 10000 ∧
 (mk=.aB→∃L,S.st=lF L∧L.Nodup∧L.length < 10000∧gj fs g∉L∧R ⟨lF (L ++ [gj fs g]),putN S.cr (Cs fs g).toD (fc g (gj fs g))⟩ .non) ∧
 (mk≠.aB→R ⟨S.st,putN S.cr (gj fs g).toD (fc (xX mk g) (aK fs (xX mk g)))⟩ .non)
def bz:Ee:=W3 LR
def dA (p:P4):oJ S2:=(jH (vE (bY 4 (az cO (ae (aG cX (af 1) (af 2)) (ae (cC (.tup [.int 0,.int (-1),.int 1,.int 0])) av))))) (Lp (aL (aG lh (af 3) (cC (.str "third")))) (jH (kF 0 p.x false (af 4)) (Be 0 p.x true (az cO (ae (af 4) (ae (cC (.tup [.int 0,.int (-1),.int 1,.int (-1)])) av))) (bQ (ae (bQ (ae (af 2) (ae (cC (.int 1)) av))) (ae (af 4) av))))) (jH (vE (bY 5 (FE (aL (az eG (ae (af 3) av))) (af 3) (af 2)))) (Be 0 p.x true (af 4) (bQ (ae (bQ (ae (af 5) (ae (cC (.int 1)) av))) (ae (aG cX (af 1) (af 5)) av)))))))
theorem iL:∀ds S (R:S2→D→Prop),bz ds S R→ds.length + 1=4:=Jr
theorem ja:∀(p:P4) ds S (R:S2→D→Prop),bz ds S R→dA p { nx:=fun S' _=>R S' .non,rt:=R } S (aD ["self","rim","gap","mark","beyond","there"] (.obj (og p.x) :: ds)):=by
 rintro p ds S R ⟨x,y,z,rfl,fs,ms,g,mk,rfl,rfl,rfl,hf,hg,hm,ok,few,h1,h2⟩;have sz:=MK;have gB:=Dr hf.fr hg;have gT:=ib hf.fr hg;have bB:(gj fs g).B 32:=((gB.mul Ck).up);have bT:=zK hf.fr hg
 simp_arith only [dA,jH,vE,gq.at,Lp,cO,fX]
 refine C1 hg ⟨_,hS,30,1,rfl,rfl,gB,Ck,by decide,gT.1,by decide,?_⟩
 have fin:∀j:Nat,j < fs.length→mk≠.aB→xX mk g=j→Be 0 p.x true (af 4) (bQ (ae (bQ (ae (af 5) (ae (cC (.int 1)) av))) (ae (aG cX (af 1) (af 5)) av))) { nx:=fun S' _=>R S' .non,rt:=R } S [some (.d (.obj (og p.x))),some (.d (xT fs)),some (.d (.int (g:Int))),some (.d (jx mk)),some (.d (gj fs g).toD),some (.d (.int (j:Int)))]:=fun j hj h3 ht=>by
  unfold Be
  simp_arith only [and_true]
  refine C1 hj ?_;refine⟨(bK _).1,(bK _).2,ok,by show S.cr.length < _;omega,?_⟩;have:=h2 h3;rw [ht] at this;exact this
 cases mk with
 | aB =>
  obtain⟨L,hst,nd,few2,hn,hr⟩:=h1 rfl
  simp_arith only [jx,kF,Be,cO,fX]
  rw [Mw (by rfl)];have hl:S.get false=lF L:=hst;rw [hl];refine⟨(bK _).1,(bK _).2,u6 nd,by rw [kL];omega,?_⟩;refine⟨gj fs g,hR,32,1,rfl,rfl,bB,GJ,by decide,bT.1,by decide,?_⟩;refine⟨(bK _).1,(bK _).2,ok,by show S.cr.length < _;omega,?_⟩;have e:putN (lF L) (gj fs g).toD (.int ((lF L).length:Int))=lF (L ++ [gj fs g]):=Am hn;rw [show (S.put false (putN (lF L) ((aK fs g).mul hS).up.toD (.int ((lF L).length:Int))))=⟨lF (L ++ [gj fs g]),S.cr⟩ from by rw [show ((aK fs g).mul hS).up=gj fs g from rfl,e];rfl]
  exact hr
 | half =>
  simp_arith only [jx]
  rw [Mo (by decide)];simp only [eG,pF,rP];refine⟨by simp [Pl,Ga],_,rfl,?_⟩;rw [Mo (by simp [x5])]
  exact fin g hg (by decide) rfl
 | gap j =>
  have hj:=qD hf hm
  simp_arith only [jx]
  unfold lh jB;refine⟨⟨by simp [dep],by simp [dep]⟩,_,rfl,?_⟩;rw [Mo (by simp [aY])];simp only [eG,pF,rP];refine⟨by simp [Pl,Ga],_,rfl,?_⟩;rw [Mw (by simp [x5])];exact fin j hj (by simp) rfl
abbrev wD (S:S2):D:=KD "Walk" "stands" "crossings" S
abbrev IQ (S:S2):List (Str×D):=[(Str.ofString "stands",D.obj (iw S.st)),(Str.ofString "crossings",D.obj (iw S.cr))]
theorem qy (S:S2):(IQ S).lookup (Str.ofString "stands")=some (D.obj (iw S.st)):=rfl
theorem EZ (S:S2):(IQ S).lookup (Str.ofString "crossings")=some (D.obj (iw S.cr)):=rfl
def Av (S:S2) (m:M4) (Q:D→Prop):Prop:=(((S.st.any fun kv=>aY kv.1 m.toD)=true→Q (.tup [.tup [],m.toD]))∧((S.st.any fun kv=>aY kv.1 m.toD)=false→∃d s,dH S.cr m.toD=some (.tup [d,s])∧Q (.tup [.tup [d],s])))
def Ko (x y:D) (Q:D→Prop):Prop:=∃(S:S2) (m:M4),x=wD S∧y=m.toD∧bg S.st∧bg S.cr∧Av S m Q
def bC:Fw:=F2 Ko
def gn:bS:=(aJ (iW (aL (aG (DZ false) (af 1) (jF "Walk" "stands" (af 0)))) (ck (bQ (ae (bQ av) (ae (af 1) av)))) bN) (aJ (l7 (aG FQ (jF "Walk" "crossings" (af 0)) (af 1)) (iC 2 (bO (aV 2) (bO (aV 3) iU)))) (ck (bQ (ae (bQ (ae (af 2) av)) (ae (af 3) av))))))
theorem mH:∀ds Q,bC ds Q→ds.length=2:=kr
theorem oX:∀ds (Q:D→Prop),bC ds Q→gn { nx:=fun _=>Q .non,rt:=Q } (aD ["self","one","crossed","stand"] ds):=by
 rintro ds Q ⟨x,y,rfl,S,m,rfl,rfl,ok1,ok2,h1,h2⟩
 simp_arith only [gn,jF]
 refine⟨_,_,rfl,qy S,S.st,rfl,(bK m).1,(bK m).2,ok1,_,rfl,?_⟩
 cases c:S.st.any fun kv=>aY kv.1 m.toD with
 | true =>
  rw [Mw (by rfl)]
  exact h1 c
 | false =>
  rw [Mo (by decide)];obtain⟨d,s,hd,q⟩:=h2 c;refine⟨_,_,rfl,EZ S,S.cr,_,rfl,(bK m).1,(bK m).2,ok2,hd,?_⟩
  simp_arith only [and_true]
  exact q
def Ja (x y z:D) (Q:D→Prop):Prop:=∃(S:S2) (m l:M4) (n:Nat),x=wD S∧y=m.toD∧z=l.toD∧bg S.st∧bg S.cr∧m.B n∧l.B 1∧n≤1000∧m.det=1∧l.det=1∧∃s:M4,(∀R:D→Prop,(∀d,R (.tup [d,s.toD]))→Av S (m.mul l).up R)∧∃v,dH S.st s.toD=some v∧Q v
def aR:Fw:=F3 Ja
def dB:bS:=(ck (aG FQ (jF "Walk" "stands" (af 0)) (aG cX (jj "Walk" "settled" bC (af 0) (ae (az cO (ae (af 1) (ae (af 2) av))) av)) (cC (.int 1)))))
theorem iK:∀ds Q,aR ds Q→ds.length=3:=ud
theorem ji:∀ds (Q:D→Prop),aR ds Q→dB { nx:=fun _=>Q .non,rt:=Q } (aD ["self","one","letter"] ds):=by
 rintro ds Q ⟨x,y,z,rfl,S,m,l,n,rfl,rfl,rfl,ok1,ok2,mB,lB,hn,md,ld,s,hs,v,hv,q⟩
 simp_arith only [dB,jF,jj,cO,bC,fX]
 refine⟨_,_,rfl,qy S,_,rfl,rfl,m,l,n,1,rfl,rfl,mB,lB,by omega,md,ld,S,_,rfl,rfl,ok1,ok2,hs _ fun d=>?_⟩;refine⟨_,rfl,S.st,v,rfl,(bK s).1,(bK s).2,ok1,hv,q⟩
theorem A8 {fs:List Z2} (L:List M4) (nd:L.Nodup) (hw:∀m∈L,Wi fs m):L.length + fs.length≤fs.length * fs.length:=by
 by_cases c:L.length + fs.length≤fs.length * fs.length
 ·exact c
 exfalso
 have ch:∀t:Nat,∃ij:Nat×Nat,(t < L.length→ij.1 < fs.length∧ij.2 < fs.length∧∀m,L[t]?=some m→(act m (1,0)=aP fs ij.1∨act m (1,0)=aT (aP fs ij.1))∧(act m (0,1)=aP fs ij.2∨act m (0,1)=aT (aP fs ij.2)))∧(L.length≤t→ij=(t - L.length,t - L.length)):=fun t=>by
  by_cases ht:t < L.length
  ·have w:=hw L[t] (Na _);obtain⟨i,hi,ei⟩:=w.v0;obtain⟨j,hj,ej⟩:=w.v1;refine⟨(i,j),fun _=>⟨hi,hj,fun m hm=>?_⟩,fun z=>by omega⟩;rw [Mm ht] at hm;cases hm;exact⟨ei,ej⟩
  ·exact⟨(t - L.length,t - L.length),fun z=>absurd z ht,fun _=>rfl⟩
 let f:Nat→Nat×Nat:=fun t=>Classical.choose (ch t)
 have hf:∀t,(t < L.length→(f t).1 < fs.length∧(f t).2 < fs.length∧∀m,L[t]?=some m→(act m (1,0)=aP fs (f t).1∨act m (1,0)=aT (aP fs (f t).1))∧(act m (0,1)=aP fs (f t).2∨act m (0,1)=aT (aP fs (f t).2)))∧(L.length≤t→f t=(t - L.length,t - L.length)):=fun t=>Classical.choose_spec (ch t);generalize f=f at hf
 have lt:∀t,t≤fs.length * fs.length→(f t).1 < fs.length∧(f t).2 < fs.length:=fun t ht=>by
  rcases Nn t L.length with h | h
  ·have:=(hf t).1 h;exact⟨this.1,this.2.1⟩
  ·rw [(hf t).2 h];simp only;omega
 obtain⟨s,t,st,tn,e⟩:=sI (fs.length * fs.length) (fun t=>(f t).1 * fs.length + (f t).2) fun t ht=>by
  obtain⟨a,b⟩:=lt t ht;have:((f t).1 + 1) * fs.length≤fs.length * fs.length:=Nw _ a;rw [Nat.add_mul,Nat.one_mul] at this;show (f t).1 * fs.length + (f t).2 < _
  omega
 obtain⟨as',bs'⟩:=lt s (by omega);obtain⟨at',bt'⟩:=lt t (by omega);have e':(f s).1 * fs.length + (f s).2=(f t).1 * fs.length + (f t).2:=e
 have e1:(f s).1=(f t).1:=by
  have d1:((f s).1 * fs.length + (f s).2) / fs.length=((f t).1 * fs.length + (f t).2) / fs.length:=by rw [e']
  rw [Nat.mul_comm (f s).1,Nat.mul_comm (f t).1,Nat.mul_add_div (by omega),Nat.mul_add_div (by omega),Nat.div_eq_of_lt bs',Nat.div_eq_of_lt bt'] at d1;omega
 have e2:(f s).2=(f t).2:=by rw [e1] at e';omega
 have both:∀{p q r:Z2},(p=r∨p=aT r)→(q=r∨q=aT r)→(p=q∨p=aT q):=fun {p q r} a b=>by
  rcases a with rfl | rfl <;> rcases b with rfl | rfl
  ·exact .inl rfl
  ·right;rw [aU]
  ·exact .inr rfl
  ·exact .inl rfl
 rcases Nn t L.length with ht | ht
 ·have hs:s < L.length:=by omega
  obtain⟨x0,x1⟩:=((hf s).1 hs).2.2 L[s] (Mm hs);obtain⟨y0,y1⟩:=((hf t).1 ht).2.2 L[t] (Mm ht);rw [e1] at x0;rw [e2] at x1;have ws:=hw L[s] (Na _);have wt':=hw L[t] (Na _);have:=f7 ws.T wt'.T (oC ws.T.1 wt'.T.1 (both x0 y0) (both x1 y1));have:=(List.getElem_inj (h₀:=hs) (h₁:=ht) nd).mp this;omega
 ·have et:=(hf t).2 ht;rcases Nn s L.length with hs | hs
  ·obtain⟨x0,x1⟩:=((hf s).1 hs).2.2 L[s] (Mm hs);have ws:=hw L[s] (Na _);rw [e1,et] at x0;rw [e2,et] at x1;have d:=ws.T.1;have:=both x0 x1;generalize L[s]=m at *;rw [jw,iu] at this;unfold M4.det at d;rcases this with z | z
   ·injection z with z1 z2
    rw [z1,z2,Int.mul_comm] at d;omega
   ·have z1:=M0 Prod.fst z;have z2:=M0 Prod.snd z;simp only [aT] at z1 z2;rw [z1,z2] at d;have:-m.b * m.d - m.b * -m.d=0:=by rw [Int.neg_mul,Ny];omega
    omega
  ·have es:=(hf s).2 hs;rw [es,et] at e1;simp only at e1;omega
structure LG (fs:List Z2) (ms:List Mk) (L:List M4) (S:S2):Prop where
 st:S.st=lF L
 gr:zO L
 all:∀m,m∈L↔Sd fs ms m
 few:L.length≤484
 ok:bg S.cr
 cr:∀g mk,ms[g]?=some mk→dH S.cr (jS fs g mk).toD=some (fc (xX mk g) (pR fs g mk))
 on:∀m d,dH S.cr m.toD=some d→∃g mk,ms[g]?=some mk∧m=jS fs g mk∧d=fc (xX mk g) (pR fs g mk)
structure lz (fs:List Z2) (ms:List Mk) (i:Nat) (L:List M4) (S:S2):Prop where
 st:S.st=lF L
 gr:zO L
 all:∀m,m∈L↔(3≤fs.length∧Wi fs m)∨∃g,g < i∧ms[g]?=some .aB∧m=gj fs g
 few:L.length≤462 + i
 ok:bg S.cr
 len:S.cr.length≤i
 cr:∀g mk,g < i→ms[g]?=some mk→dH S.cr (jS fs g mk).toD=some (fc (xX mk g) (pR fs g mk))
 on:∀m d,dH S.cr m.toD=some d→∃g mk,g < i∧ms[g]?=some mk∧m=jS fs g mk∧d=fc (xX mk g) (pR fs g mk)
theorem wt {fs:List Z2} (h:aw fs.length fs) {g k:Nat} {a b:Mk} (hg:g < fs.length) (hk:k < fs.length) (e:jS fs g a=jS fs k b):g=k:=by
 have k1:∀x:Mk,(x=.aB∧∀n,jS fs n x=Cs fs n)∨(x≠.aB∧∀n,jS fs n x=gj fs n):=fun x=>by
  cases x with
  | aB=>exact .inl ⟨rfl,fun _=>rfl⟩
  | half=>exact .inr ⟨by decide,fun _=>rfl⟩
  | gap j=>exact .inr ⟨by simp,fun _=>rfl⟩
 rcases k1 a with ⟨_,ea⟩ | ⟨_,ea⟩ <;> rcases k1 b with ⟨_,eb⟩ | ⟨_,eb⟩ <;> rw [ea,eb] at e
 ·exact Fh h hg hk e
 ·exact absurd e (yf h hg hk)
 ·exact absurd e.symm (yf h hk hg)
 ·exact kB h hg hk e
theorem lz.nil {fs:List Z2} {ms:List Mk} {L:List M4} (hf:aw fs.length fs) (h:3≤fs.length∧Ic fs L∨fs.length=2∧L=[]):lz fs ms 0 L ⟨lF L,[]⟩:=by
 refine⟨rfl,?_,fun m=>?_,?_,bg.nil,Mv _,fun g mk h=>absurd h (Nr _),fun m d h=>by cases h⟩
 ·rcases h with ⟨_,h⟩ | ⟨_,rfl⟩
  ·exact h.gr
  ·exact⟨List.nodup_nil,fun j m _ h=>by simp at h⟩
 ·rcases h with ⟨h3,h⟩ | ⟨h2,rfl⟩
  ·rw [h.all]
   exact⟨fun w=>.inl ⟨h3,w⟩,fun w=>by
    rcases w with w | ⟨g,hg,_⟩
    ·exact w.2
    ·omega⟩
  ·refine⟨fun w=>absurd w MN,fun w=>?_⟩;rcases w with w | ⟨g,hg,_⟩ <;> omega
 ·rcases h with ⟨h3,h⟩ | ⟨_,rfl⟩
  ·have:=A8 L h.gr.nd fun m hm=>(h.all m).mp hm
   have sq:∀n:Nat,n≤22→n * n≤462 + n:=fun n hn=>by
    have h1:n * n≤22 * n:=Nw _ hn;have h2:21 * n≤462:=by omega
    have h3:22 * n=21 * n + n:=by omega
    omega
   have:=sq fs.length hf.most;omega
  ·simp
theorem tW {kvs:List (D×D)} {m k:M4} {v:D} (h:bg kvs):dH (putN kvs m.toD v) k.toD=if m=k then some v else dH kvs k.toD:=by
 rw [nH h (bK m).1 (bK k).1]
 by_cases c:m=k
 ·rw [Mw c,Mw (qN.mpr c)]
 ·rw [Mo c,Mo (fun e=>c (qN.mp e))]
theorem zx {kvs:List (D×D)} {k v:D}:(putN kvs k v).length≤kvs.length + 1:=by
 unfold putN;split <;> simp
theorem EU {fs:List Z2} {ms:List Mk} {i:Nat} {cr:List (D×D)} {mk:Mk} (hf:bh fs ms) (hi:i < fs.length) (hm:ms[i]?=some mk) (ok:bg cr)
  (h1:∀g mk,g < i→ms[g]?=some mk→dH cr (jS fs g mk).toD=some (fc (xX mk g) (pR fs g mk)))
  (h2:∀m d,dH cr m.toD=some d→∃g mk,g < i∧ms[g]?=some mk∧m=jS fs g mk∧d=fc (xX mk g) (pR fs g mk)) :
  (∀g b,g < i + 1→ms[g]?=some b→dH (putN cr (jS fs i mk).toD (fc (xX mk i) (pR fs i mk))) (jS fs g b).toD=some (fc (xX b g) (pR fs g b))) ∧
  ∀m d,dH (putN cr (jS fs i mk).toD (fc (xX mk i) (pR fs i mk))) m.toD=some d→∃g b,g < i + 1∧ms[g]?=some b∧m=jS fs g b∧d=fc (xX b g) (pR fs g b):=by
 refine⟨fun g b hg hb=>?_,fun m d hd=>?_⟩
 ·rw [tW ok]
  by_cases c:g=i
  ·subst c;rw [hm] at hb;cases hb;rw [Mw rfl]
  ·have hgl:g < fs.length:=by omega
   rw [Mo (fun e=>c (wt hf.fr hi hgl e).symm)];exact h1 g b (by omega) hb
 ·rw [tW ok] at hd
  by_cases c:jS fs i mk=m
  ·rw [Mw c] at hd;cases hd;exact⟨i,mk,by omega,hm,c.symm,rfl⟩
  ·rw [Mo c] at hd;obtain⟨g,b,hg,hb,e1,e2⟩:=h2 m d hd;exact⟨g,b,by omega,hb,e1,e2⟩
theorem lz.step {fs:List Z2} {ms:List Mk} {i:Nat} {L:List M4} {S:S2} {mk:Mk} (hf:bh fs ms) (hi:i < fs.length) (hm:ms[i]?=some mk) (h:lz fs ms i L S) :
  (mk=.aB→gj fs i∉L∧lz fs ms (i + 1) (L ++ [gj fs i]) ⟨lF (L ++ [gj fs i]),putN S.cr (Cs fs i).toD (fc i (gj fs i))⟩) ∧
  (mk≠.aB→lz fs ms (i + 1) L ⟨S.st,putN S.cr (gj fs i).toD (fc (xX mk i) (aK fs (xX mk i)))⟩):=by
 have cs:=EU hf hi hm h.ok h.cr h.on;refine⟨fun e=>?_,fun e=>?_⟩
 ·subst e
  have hn:gj fs i∉L:=fun hh=>by
   rcases (h.all _).mp hh with ⟨_,w⟩ | ⟨g,hg,_,e⟩
   ·exact kS hf.fr hi w
   ·have:=kB hf.fr hi (by omega) e;omega
  refine⟨hn,rfl,⟨?_,fun j m hj hm'=>?_⟩,fun m=>?_,?_,h.ok.put (bK _).1 (bK _).2,?_,cs.1,cs.2⟩
  ·rw [Nu];exact⟨h.gr.nd,by simp,fun a ha b hb e=>hn (by rw [MG] at hb;rw [← hb,← e];exact ha)⟩
  ·by_cases c:j < L.length
   ·rw [MC c] at hm';obtain⟨k,p,hk,hp,e⟩:=h.gr.num j m hj hm';exact⟨k,p,hk,by rw [MC (by omega)];exact hp,e⟩
   ·have hl:=(Mi.mp hm').1;have ej:j=L.length:=by simp at hl;omega
    subst ej;rw [MF (Mv _),Nat.sub_self] at hm';cases hm';have two:=hf.fr.two;rcases Nn fs.length 3 with c2 | c3
    ·have f2:=Ce hf.fr (by omega);obtain⟨m0,h0⟩:∃m0,L[0]?=some m0:=⟨L[0],Mm hj⟩;have w0:=(h.all m0).mp (Mu h0);rcases w0 with ⟨z,_⟩ | ⟨g,hg,_,e0⟩
     ·omega
     ·have:i=1∧g=0:=by omega
      obtain⟨rfl,rfl⟩:=this;refine⟨0,m0,hj,by rw [MC hj];exact h0,.inr ?_⟩;rw [e0,f2];decide
    ·have wr:aK fs i∈L:=(h.all _).mpr (.inl ⟨c3,vq hf.fr c3 hi⟩);obtain⟨k,hk⟩:=MJ wr;have hkl:=(Mi.mp hk).1;exact⟨k,_,hkl,by rw [MC hkl];exact hk,.inr rfl⟩
  ·rw [MR,MG,h.all]
   constructor
   ·rintro ((w | ⟨g,hg,a,b⟩) | w)
    ·exact .inl w
    ·exact .inr ⟨g,by omega,a,b⟩
    ·exact .inr ⟨i,by omega,hm,w⟩
   ·rintro (w | ⟨g,hg,a,b⟩)
    ·exact .inl (.inl w)
    ·by_cases c:g=i
     ·subst c;exact .inr b
     ·exact .inl (.inr ⟨g,by omega,a,b⟩)
  ·have:=h.few;rw [MW];simp only [MQ,Nj];omega
  ·have:=h.len;exact Ni zx (by omega)
 ·have ek:jS fs i mk=gj fs i∧pR fs i mk=aK fs (xX mk i):=by
   cases mk with
   | aB=>exact absurd rfl e
   | half=>exact⟨rfl,rfl⟩
   | gap j=>exact⟨rfl,rfl⟩
  rw [ek.1,ek.2] at cs;refine⟨h.st,h.gr,fun m=>?_,by have:=h.few;omega,h.ok.put (bK _).1 (bK _).2,?_,cs.1,cs.2⟩
  ·rw [h.all]
   constructor
   ·rintro (w | ⟨g,hg,a,b⟩)
    ·exact .inl w
    ·exact .inr ⟨g,by omega,a,b⟩
   ·rintro (w | ⟨g,hg,a,b⟩)
    ·exact .inl w
    ·by_cases c:g=i
     ·subst c;rw [hm] at a;cases a;exact absurd rfl e
     ·exact .inr ⟨g,by omega,a,b⟩
  ·have:=h.len;exact Ni zx (by omega)
theorem lz.fin {fs:List Z2} {ms:List Mk} {L:List M4} {S:S2} (hf:bh fs ms) (h:lz fs ms fs.length L S):LG fs ms L S:=by
 have ml:=hf.mar.len;have lt:∀g mk,ms[g]?=some mk→g < fs.length:=fun g mk hg=>by have:=(Mi.mp hg).1;omega
 refine⟨h.st,h.gr,fun m=>?_,by have:=h.few;have:=hf.fr.most;omega,h.ok,fun g mk hg=>h.cr g mk (lt g mk hg) hg,fun m d hd=>?_⟩
 ·rw [h.all];exact Iff.rfl
 ·obtain⟨g,mk,_,a,b,c⟩:=h.on m d hd;exact⟨g,mk,a,b,c⟩
def Jt (x:D) (R:S2→Prop):Prop:=∃fs ms,x=iz fs ms∧bh fs ms∧∀L S,LG fs ms L S→R S
def dk:FR:=I1 Jt
def ic (p:P4):oJ S2:=(jH (vE (bY 2 (cS (gp iH [1] (ae (az gy (ae (aG cX (af 1) (cC (.int 0))) av)) av) cU (az di (ae (af 1) (ae (af 0) av))))))) (jH (uH 0 p.x br (ae (af 2) av)) (CL iH (ae (az gy (ae (af 2) av)) av) (aV 3) (uH 0 p.x bz (ae (af 2) (ae (af 3) (ae (aG cX (aG cX (af 1) (cC (.int 1))) (af 3)) av)))))))
theorem qa:∀ds (R:S2→Prop),dk ds R→ds.length + 1=2:=JW
theorem rV:∀(p:P4) ds (R:S2→Prop),dk ds R→ic p { nx:=fun S' _=>R S',rt:=fun S' d=>d=.non∧R S' } ⟨[],[]⟩ (aD ["self","fan","rim","gap"] (.obj (og p.x) :: ds)):=by
 rintro p ds R ⟨x,rfl,fs,ms,rfl,hf,h⟩;have two:=hf.fr.two;have most:=hf.fr.most;have ml:=hf.mar.len;have sz:=MK
 simp_arith only [ic,jH,vE,gq.at,CH,My]
 refine⟨by omega,by omega,?_⟩;refine fC (fun d=>match d with | .int i=>(aK fs i.toNat).toD | d=>d) _ _ ?_ (by simp [aN];omega) ?_
 ·intro x hx N hN;obtain⟨j,hj⟩:=MJ hx;obtain⟨hl,rfl⟩:=Ag hj
  simp_arith only [cp,di,fX]
  refine⟨fs,ms,j,rfl,rfl,hf.fr,hl,?_⟩;exact hN
 ·have er:((aN 0 ((fs.length:Nat):Int).toNat).map fun d=>match d with | .int i=>(aK fs i.toNat).toD | d=>d)=(List.range fs.length).map fun g=>(aK fs g).toD:=by
   unfold aN;rw [List.map_map,Int.toNat_natCast];refine List.map_congr_left fun g _=>?_;show (aK fs (0 + (g:Int)).toNat).toD=_
   rw [Int.zero_add,Int.toNat_natCast]
  rw [List.nil_append,er];unfold uH
  simp_arith only [br,JZ]
  refine⟨fs,rfl,hf.fr,rfl,fun L hL=>?_⟩;unfold CL
  simp_arith only [My,List.length_range]
  refine⟨by omega,by omega,?_⟩;refine Bk (fun i S e=>∃L k3,lz fs ms i L S∧e=[some (.d (.obj (og p.x))),some (.d (iz fs ms)),some (.d (xT fs)),k3]) ?_ ?_ ⟨L,none,lz.nil hf.fr hL,rfl⟩
  ·rintro i x S env N hx ⟨L,k3,wp,rfl⟩ hN;obtain⟨hi,rfl⟩:=Ag hx;obtain⟨mk,hm⟩:∃mk,ms[i]?=some mk:=⟨ms[i],Mm (by omega)⟩;have st:=wp.step hf hi hm
   simp_arith only [bz,J0,HQ]
   refine rm hm ?_;refine⟨fs,ms,i,mk,rfl,rfl,rfl,hf,hi,hm,wp.ok,by have:=wp.len;omega,fun e=>?_,fun e=>?_⟩
   ·obtain⟨a,b⟩:=st.1 e;exact⟨L,wp.st,wp.gr.nd,by have:=wp.few;omega,a,hN _ _ ⟨_,_,b,rfl⟩⟩
   ·exact hN _ _ ⟨_,_,st.2 e,rfl⟩
  ·rintro S env ⟨L,k3,wp,rfl⟩;have hl:(aN 0 ((fs.length:Nat):Int).toNat).length=fs.length:=by simp [aN]
   rw [hl] at wp;exact h L S (wp.fin hf)
def xZ (fs:List Z2) (ms:List Mk) (m s:M4):Prop:=(Sd fs ms m∧s=m)∨(¬ Sd fs ms m∧∃g mk,ms[g]?=some mk∧m=jS fs g mk∧s=pR fs g mk)
theorem xZ.one {fs:List Z2} {ms:List Mk} (hf:bh fs ms) {m s s':M4} (h:xZ fs ms m s) (h':xZ fs ms m s'):s=s':=by
 have ml:=hf.mar.len;rcases h with ⟨a,b⟩ | ⟨a,g,mk,b,c,d⟩ <;> rcases h' with ⟨a',b'⟩ | ⟨a',g',mk',b',c',d'⟩
 ·rw [b,b']
 ·exact absurd a a'
 ·exact absurd a' a
 ·have l1:=(Mi.mp b).1;have l2:=(Mi.mp b').1;have:=wt hf.fr (by omega) (by omega) (c.symm.trans c');subst this;rw [b] at b';cases b';rw [d,d']
theorem xZ.self {fs:List Z2} {ms:List Mk} {m:M4} (h:Sd fs ms m):xZ fs ms m m:=.inl ⟨h,rfl⟩
theorem xZ.Jo {fs:List Z2} {ms:List Mk} {L:List M4} {S:S2} {m s:M4} (w:LG fs ms L S) (h:xZ fs ms m s) (R:D→Prop) (hR:∀d,R (.tup [d,s.toD])):Av S m R:=by
 unfold Av;rw [w.st,qC];refine⟨fun c=>?_,fun c=>?_⟩
 ·have hm:=(w.all m).mp (by simpa using c);rcases h with ⟨_,rfl⟩ | ⟨a,_⟩
  ·exact hR _
  ·exact absurd hm a
 ·have hm:¬ Sd fs ms m:=fun z=>by
   have:=(w.all m).mpr z;simp [this] at c
  rcases h with ⟨a,_⟩ | ⟨_,g,mk,b,c,d⟩
  ·exact absurd a hm
  ·refine⟨_,_,by rw [c];exact w.cr g mk b,?_⟩;rw [d] at hR;exact hR _
inductive cM (fs:List Z2) (ms:List Mk):M4→M4→Prop
 | inn {p:M4}:3≤fs.length→Wi fs p→¬ Ez fs p→cM fs ms p (p.mul hS).up
 | out {g:Nat}:3≤fs.length→g < fs.length→ms[g]?=some .aB→cM fs ms (aK fs g) (gj fs g)
 | bck {g:Nat}:3≤fs.length→g < fs.length→ms[g]?=some .aB→cM fs ms (gj fs g) (aK fs g)
 | hlf {g:Nat}:3≤fs.length→g < fs.length→ms[g]?=some .half→cM fs ms (aK fs g) (aK fs g)
 | par {g j:Nat}:3≤fs.length→g < fs.length→ms[g]?=some (.gap j)→cM fs ms (aK fs g) (aK fs j)
 | two {g:Nat}:fs.length=2→g < 2→ms[g]?=some .aB→ms[1 - g]?=some .aB→cM fs ms (gj fs g) (gj fs (1 - g))
 | one {g:Nat}:fs.length=2→g < 2→ms[g]?=some .aB→ms[1 - g]?=some .half→cM fs ms (gj fs g) (gj fs g)
inductive c8 (fs:List Z2) (ms:List Mk):M4→M4→Prop
 | inn {p:M4}:3≤fs.length→Wi fs p→c8 fs ms p (p.mul hR).up
 | fix {g:Nat}:g < fs.length→ms[g]?=some .aB→c8 fs ms (gj fs g) (gj fs g)
section
variable {fs:List Z2} {ms:List Mk}
theorem jr (hf:bh fs ms) (h3:3≤fs.length) {g:Nat} (hg:g < fs.length):Sd fs ms (aK fs g):=.inl ⟨h3,vq hf.fr h3 hg⟩
theorem fB {g:Nat} (hg:g < fs.length) (hm:ms[g]?=some .aB):Sd fs ms (gj fs g):=.inr ⟨g,hg,hm,rfl⟩
theorem l6 (hf:bh fs ms) {g:Nat} (hg:g < fs.length) (hm:ms[g]?≠some .aB):¬ Sd fs ms (gj fs g):=fun h=>by
 rcases h with ⟨_,w⟩ | ⟨k,hk,hm',e⟩
 ·exact kS hf.fr hg w
 ·have:=kB hf.fr hg hk e;subst this;exact hm hm'
theorem Ii (hf:bh fs ms) {g:Nat} (hg:g < fs.length):¬ Sd fs ms (Cs fs g):=fun h=>by
 rcases h with ⟨_,w⟩ | ⟨k,hk,hm',e⟩
 ·exact AD hf.fr hg w
 ·exact yf hf.fr hg hk e
theorem uD (hf:aw fs.length fs) (h2:fs.length=2):aK fs 0=gj fs 1∧aK fs 1=gj fs 0∧gj fs 1=M4.one:=by
 rw [Ce hf h2];decide
theorem uM (hf:aw fs.length fs) (h2:fs.length=2) {g:Nat} (hg:g < 2):aK fs g=gj fs (1 - g):=by
 have:=uD hf h2;rcases g with _ | _ | g
 ·exact this.1
 ·exact this.2.1
 ·omega
theorem jU (hf:bh fs ms) (h2:fs.length=2) {g:Nat} (hg:g < 2):ms[g]?=some .aB∨ms[g]?=some .half:=by
 have ml:=hf.mar.len;have h:g < ms.length:=by omega
 cases e:ms[g] with
 | aB=>exact .inl (by rw [Mm h,e])
 | half=>exact .inr (by rw [Mm h,e])
 | gap j=>exact absurd (by rw [Mm h,e]) ((hf.mar.few h2).2 g j)
theorem cM.KQ (hf:bh fs ms) {p s:M4} (h:cM fs ms p s):Sd fs ms p∧Sd fs ms s:=by
 cases h with
 | inn h3 w r=>exact⟨.inl ⟨h3,w⟩,.inl ⟨h3,kU hf.fr w (nD r)⟩⟩
 | out h3 hg hm=>exact⟨jr hf h3 hg,fB hg hm⟩
 | bck h3 hg hm=>exact⟨fB hg hm,jr hf h3 hg⟩
 | hlf h3 hg hm=>exact⟨jr hf h3 hg,jr hf h3 hg⟩
 | par h3 hg hm=>exact⟨jr hf h3 hg,jr hf h3 (qD hf hm)⟩
 | two h2 hg hm hm'=>exact⟨fB (by omega) hm,fB (by omega) hm'⟩
 | one h2 hg hm hm'=>exact⟨fB (by omega) hm,fB (by omega) hm⟩
theorem cM.symm (hf:bh fs ms) {p s:M4} (h:cM fs ms p s):cM fs ms s p:=by
 cases h with
 | inn h3 w r =>
  have e:=zi w.T;have:=cM.inn (ms:=ms) h3 (kU hf.fr w (nD r)) (fun⟨k,hk,e⟩=>jc hf.fr w hk e)
  rw [e] at this;exact this
 | out h3 hg hm=>exact .bck h3 hg hm
 | bck h3 hg hm=>exact .out h3 hg hm
 | hlf h3 hg hm=>exact .hlf h3 hg hm
 | par h3 hg hm=>exact .par h3 (qD hf hm) (hf.mar.pair _ _ hm).2
 | @two g h2 hg hm hm' =>
  have:=cM.two (fs:=fs) h2 (g:=1 - g) (by omega) hm' (by rw [show 1 - (1 - g)=g by omega];exact hm)
  rw [show 1 - (1 - g)=g by omega] at this;exact this
 | one h2 hg hm hm'=>exact .one h2 hg hm hm'
theorem cM.D0 (hf:bh fs ms) {p s:M4} (h:cM fs ms p s):xZ fs ms (p.mul hS).up s:=by
 have two:=hf.fr.two
 cases h with
 | inn h3 w r=>exact .self (.inl ⟨h3,kU hf.fr w (nD r)⟩)
 | out h3 hg hm=>exact .self (fB hg hm)
 | bck h3 hg hm=>rw [nh hf.fr hg];exact .self (jr hf h3 hg)
 | hlf h3 hg hm=>exact .inr ⟨l6 hf hg (by rw [hm];simp),_,_,hm,rfl,rfl⟩
 | par h3 hg hm=>exact .inr ⟨l6 hf hg (by rw [hm];simp),_,_,hm,rfl,rfl⟩
 | @two g h2 hg hm hm' =>
  rw [nh hf.fr (by omega),uM hf.fr h2 hg]
  exact .self (fB (by omega) hm')
 | @one g h2 hg hm hm' =>
  rw [nh hf.fr (by omega),uM hf.fr h2 hg];refine .inr ⟨l6 hf (by omega) (by rw [hm'];simp),_,_,hm',rfl,?_⟩;have:=uM hf.fr h2 (g:=1 - g) (by omega);rw [show 1 - (1 - g)=g by omega] at this;exact this.symm
theorem Cf (hf:bh fs ms) {p:M4} (h:Sd fs ms p):∃s,cM fs ms p s:=by
 have two:=hf.fr.two;have ml:=hf.mar.len;rcases h with ⟨h3,w⟩ | ⟨g,hg,hm,rfl⟩
 ·by_cases r:Ez fs p
  ·obtain⟨g,hg,rfl⟩:=r;have hl:g < ms.length:=by omega
   have e:=Mm hl
   cases hm:ms[g] with
   | aB=>exact⟨_,.out h3 hg (by rw [e,hm])⟩
   | half=>exact⟨_,.hlf h3 hg (by rw [e,hm])⟩
   | gap j=>exact⟨_,.par h3 hg (by rw [e,hm])⟩
  ·exact⟨_,.inn h3 w r⟩
 ·rcases Nn fs.length 3 with c | c
  ·have h2:fs.length=2:=by omega
   rcases jU hf h2 (g:=1 - g) (by omega) with z | z
   ·exact⟨_,.two h2 (by omega) hm z⟩
   ·exact⟨_,.one h2 (by omega) hm z⟩
  ·exact⟨_,.bck c hg hm⟩
theorem c8.KQ (hf:bh fs ms) {p s:M4} (h:c8 fs ms p s):Sd fs ms p∧Sd fs ms s:=by
 cases h with
 | inn h3 w=>exact⟨.inl ⟨h3,w⟩,.inl ⟨h3,fb w⟩⟩
 | fix hg hm=>exact⟨fB hg hm,fB hg hm⟩
theorem c8.D0 (hf:bh fs ms) {p s:M4} (h:c8 fs ms p s):xZ fs ms (p.mul hR).up s:=by
 cases h with
 | inn h3 w=>exact .self (.inl ⟨h3,fb w⟩)
 | fix hg hm=>exact .inr ⟨Ii hf hg,_,_,hm,rfl,rfl⟩
theorem AX (hf:bh fs ms) {p:M4} (h:Sd fs ms p):∃s,c8 fs ms p s:=by
 rcases h with ⟨h3,w⟩ | ⟨g,hg,hm,rfl⟩
 ·exact⟨_,.inn h3 w⟩
 ·exact⟨_,.fix hg hm⟩
theorem cM.fn (hf:bh fs ms) {p s s':M4} (h:cM fs ms p s) (h':cM fs ms p s'):s=s':=(h.D0 hf).one hf (h'.D0 hf)
theorem c8.fn (hf:bh fs ms) {p s s':M4} (h:c8 fs ms p s) (h':c8 fs ms p s'):s=s':=(h.D0 hf).one hf (h'.D0 hf)
theorem c8.three (hf:bh fs ms) {p s t u:M4} (h1:c8 fs ms p s) (h2:c8 fs ms s t) (h3:c8 fs ms t u):u=p:=by
 cases h1 with
 | inn n3 w =>
  have e2:=h2.fn hf (.inn n3 (fb w));subst e2;have e3:=h3.fn hf (.inn n3 (fb (fb w)));subst e3
  exact thirdT w.T
 | fix hg hm =>
  have e2:=h2.fn hf (.fix hg hm);subst e2;exact h3.fn hf (.fix hg hm)
theorem Bj (hf:bh fs ms):∃s,xZ fs ms M4.one s∧Sd fs ms s:=by
 have two:=hf.fr.two;have ml:=hf.mar.len;rcases Nn fs.length 3 with c | c
 ·have h2:fs.length=2:=by omega
  have e:=(uD hf.fr h2).2.2;have e2:=(uD hf.fr h2).2.1;rw [← e];rcases jU hf h2 (g:=1) (by omega) with z | z
  ·exact⟨_,.self (fB (by omega) z),fB (by omega) z⟩
  ·refine⟨_,.inr ⟨l6 hf (by omega) (by rw [z];simp),1,_,z,rfl,rfl⟩,?_⟩;show Sd fs ms (aK fs 1)
   rw [e2];rcases jU hf h2 (g:=0) (by omega) with w | w
   ·exact fB (by omega) w
   ·obtain⟨i,hi⟩:=MJ (hf.mar.few h2).1;have hil:=(Mi.mp hi).1;rcases i with _ | _ | i
    ·rw [w] at hi;cases hi
    ·rw [z] at hi;cases hi
    ·omega
 ·have on0:qi fs (1,0):=⟨0,by omega,.inl (Mq (hf.fr.first.symm.trans (de (by omega))))⟩
  have on1:qi fs (0,1):=by
   obtain⟨i,hi⟩:=MJ hf.fr.nought;have hil:=(Mi.mp hi).1;exact⟨i,hil,.inl (Mq (hi.symm.trans (de hil)))⟩
  by_cases r:Ez fs hS
  ·obtain⟨g,hg,e⟩:=r;have e1:M4.one=gj fs g:=by unfold gj;rw [← e];decide
   rw [e1];have hl:g < ms.length:=by omega
   have em:=Mm hl
   cases hm:ms[g] with
   | aB=>exact⟨_,.self (fB hg (by rw [em,hm])),fB hg (by rw [em,hm])⟩
   | half=>exact⟨_,.inr ⟨l6 hf hg (by rw [em,hm];simp),g,.half,by rw [em,hm],rfl,rfl⟩,jr hf c hg⟩
   | gap j=>exact⟨_,.inr ⟨l6 hf hg (by rw [em,hm];simp),g,.gap j,by rw [em,hm],rfl,rfl⟩,jr hf c (qD hf (by rw [em,hm]))⟩
  ·have:=oo hf.fr (m:=hS) ⟨by decide,by decide⟩ (by rw [show act hS (1,0)=(0,1) by decide];exact on1) (by rw [show act hS (0,1)=aT (1,0) by decide];exact mz on0) (nD r);rw [show act hS (1,-1)=(1,1) by decide] at this;have w:Wi fs M4.one:=⟨⟨by decide,by decide⟩,by rw [show act M4.one (1,0)=(1,0) by decide];exact on0,by rw [show act M4.one (0,1)=(0,1) by decide];exact on1,by rw [show act M4.one (1,1)=(1,1) by decide];exact this⟩
   exact⟨_,.self (.inl ⟨c,w⟩),.inl ⟨c,w⟩⟩
end
structure Raw (fs:List Z2) (ms:List Mk) (L:List M4) (a b:List Nat) (k:Nat):Prop where
 gr:zO L
 all:∀m,m∈L↔Sd fs ms m
 few:L.length≤484
 la:a.length=L.length
 lb:b.length=L.length
 ha:∀(i:Nat) (p:M4),L[i]?=some p→∃j s,cM fs ms p s∧L[j]?=some s∧a[i]?=some j
 hb:∀(i:Nat) (p:M4),L[i]?=some p→∃j s,c8 fs ms p s∧L[j]?=some s∧b[i]?=some j
 hk:∃s,xZ fs ms M4.one s∧L[k]?=some s
theorem Raw.AA {fs:List Z2} {ms:List Mk} {L:List M4} {a b:List Nat} {k:Nat} (hf:bh fs ms) (h:Raw fs ms L a b k):qE a b∧k < a.length:=by
 have nd:=h.gr.nd;have inj:∀{i j:Nat} {m:M4},L[i]?=some m→L[j]?=some m→i=j:=fun {i j m} x y=>(List.getElem?_inj (Mi.mp x).1 nd).mp (x.trans y.symm);have atL:∀{i x:Nat} {l:List Nat},l.length=L.length→l[i]?=some x→∃p,L[i]?=some p:=fun {i x l} e hx=>⟨L[i]'(by have:=(Mi.mp hx).1;omega),Mm _⟩;obtain⟨s,hs,hks⟩:=h.hk;have kl:=(Mi.mp hks).1;refine⟨⟨⟨by rw [h.la,h.lb],fun i x hx=>?_,fun i x hx=>?_,fun i x hx=>?_,fun i x y hx hy=>?_⟩,by rw [h.la];omega,fun j hj hjl=>?_⟩,by rw [h.la];exact kl⟩
 ·obtain⟨p,hp⟩:=atL h.la hx;obtain⟨j,s,_,hj,e⟩:=h.ha i p hp;rw [hx] at e;cases e;rw [h.la];exact (Mi.mp hj).1
 ·obtain⟨p,hp⟩:=atL h.lb hx;obtain⟨j,s,_,hj,e⟩:=h.hb i p hp;rw [hx] at e;cases e;rw [h.la];exact (Mi.mp hj).1
 ·obtain⟨p,hp⟩:=atL h.la hx;obtain⟨j,s,r,hj,e⟩:=h.ha i p hp;rw [hx] at e;cases e;obtain⟨j',s',r',hj',e'⟩:=h.ha x s hj;have:=r'.fn hf (r.symm hf);subst this;rw [e',inj hj' hp]
 ·obtain⟨p,hp⟩:=atL h.lb hx;obtain⟨j,s,r,hj,e⟩:=h.hb i p hp;rw [hx] at e;cases e;obtain⟨j',s',r',hj',e'⟩:=h.hb x s hj;rw [hy] at e';cases e';obtain⟨j2,s2,r2,hj2,e2⟩:=h.hb y s' hj';have:=r.three hf r' r2;subst this;rw [e2,inj hj2 hp]
 ·rw [h.la] at hjl;obtain⟨i,p,hi,hp,e⟩:=h.gr.num j L[j] hj (Mm hjl);have hm:Sd fs ms L[j]:=(h.all _).mp (Na _);refine⟨i,hi,?_⟩;rcases e with e | e
  ·right
   obtain⟨j',s,r,hj',e'⟩:=h.hb i p hp;have:=(r.D0 hf).one hf (by rw [← e];exact xZ.self hm);subst this;rw [e',inj hj' (Mm hjl)]
  ·left
   obtain⟨j',s,r,hj',e'⟩:=h.ha i p hp;have:=(r.D0 hf).one hf (by rw [← e];exact xZ.self hm);subst this;rw [e',inj hj' (Mm hjl)]
def Pm (x y:Z2):Prop:=x=y∨x=aT y
theorem Pm.symm {x y:Z2} (h:Pm x y):Pm y x:=by
 rcases h with rfl | rfl
 ·exact .inl rfl
 ·exact .inr (by rw [aU])
theorem Pm.trans {x y z:Z2} (h:Pm x y) (h':Pm y z):Pm x z:=by
 rcases h with rfl | rfl <;> rcases h' with rfl | rfl
 ·exact .inl rfl
 ·exact .inr rfl
 ·exact .inr rfl
 ·exact .inl (aU _)
theorem Pm.neg {x y:Z2} (h:Pm x y):Pm (aT x) y:=by
 rcases h with rfl | rfl
 ·exact .inr rfl
 ·exact .inl (aU _)
def ir (e:oy):M4:=(eV e.1 e.2).up
theorem ju (e:oy):Pm (act (ir e) (1,0)) e.1:=by
 have h:act (eV e.1 e.2) (1,0)=e.1:=by rw [jw];unfold eV;split <;> rfl
 unfold ir;rcases gX (eV e.1 e.2) (1,0) with z | z
 ·left;rw [z,h]
 ·right;rw [z,h]
theorem jd (e:oy):Pm (act (ir e) (0,1)) e.2:=by
 have h:Pm (act (eV e.1 e.2) (0,1)) e.2:=by
  rw [iu];unfold eV;split
  ·right;rfl
  ·left;rfl
 unfold ir;rcases gX (eV e.1 e.2) (0,1) with z | z
 ·rw [z];exact h
 ·rw [z];exact h.neg
theorem wx {e:oy} (h:sD e.1 e.2):(ir e).T:=M4.nF (ux h)
theorem As {m:M4} (hm:m.T) {x y:Z2} (h0:Pm (act m (1,0)) x) (h1:Pm (act m (0,1)) y):sD x y:=by
 have d:=hm.1;rw [jw] at h0;rw [iu] at h1;unfold M4.det at d;unfold sD;rcases h0 with e | e <;> rcases h1 with f | f
 ·rw [← e,← f];simp only;left;rw [Int.mul_comm m.c];exact d
 ·have e1:=M0 Prod.fst f;have e2:=M0 Prod.snd f;simp only [aT] at e1 e2;rw [← e];simp only
  right
  have a1:y.1 = -m.b:=by omega
  have a2:y.2 = -m.d:=by omega
  rw [a1,a2,Ny,Ny,Int.mul_comm m.c];omega
 ·have e1:=M0 Prod.fst e;have e2:=M0 Prod.snd e;simp only [aT] at e1 e2;rw [← f];simp only
  right
  have a1:x.1 = -m.a:=by omega
  have a2:x.2 = -m.c:=by omega
  rw [a1,a2,Int.neg_mul,Int.neg_mul,Int.mul_comm m.c];omega
 ·have e1:=M0 Prod.fst e;have e2:=M0 Prod.snd e;have f1:=M0 Prod.fst f;have f2:=M0 Prod.snd f;simp only [aT] at e1 e2 f1 f2
  left
  have a1:x.1 = -m.a:=by omega
  have a2:x.2 = -m.c:=by omega
  have b1:y.1 = -m.b:=by omega
  have b2:y.2 = -m.d:=by omega
  rw [a1,a2,b1,b2,Int.neg_mul_neg,Int.neg_mul_neg,Int.mul_comm m.c];exact d
theorem BW {m:M4} (hm:m.T) {x y:Z2} (h0:Pm (act m (1,0)) x) (h1:Pm (act m (0,1)) y):m=ir (x,y):=by
 have n:=As hm h0 h1;have T:=wx (e:=(x,y)) n;exact f7 hm T (oC hm.1 T.1 (h0.trans (ju (x,y)).symm) (h1.trans (jd (x,y)).symm))
theorem xc {e:oy} (h:sD e.1 e.2):ir (rv e)=((ir e).mul hS).up:=by
 have T:=wx h;refine (BW (M4.nF (by rw [M4.cL,T.1];decide)) ?_ ?_).symm
 ·rcases gX ((ir e).mul hS) (1,0) with z | z <;> rw [z,bp,show act hS (1,0)=(0,1) by decide]
  ·exact jd e
  ·exact (jd e).neg
 ·rcases gX ((ir e).mul hS) (0,1) with z | z <;> rw [z,bp,show act hS (0,1)=aT (1,0) by decide,jA]
  ·exact (ju e).neg
  ·rw [aU];exact ju e
structure Ef (u v w:Z2):Prop where
 near:sD u v
 top:Pm (act (ir (u,v)) (1,1)) w
theorem Ef.aB {u v w:Z2} (h:Ef u v w):ir (v,w)=((ir (u,v)).mul hR).up:=by
 have T:=wx (e:=(u,v)) h.near;refine (BW (M4.nF (by rw [M4.cL,T.1];decide)) ?_ ?_).symm
 ·rcases gX ((ir (u,v)).mul hR) (1,0) with z | z <;> rw [z,bp,show act hR (1,0)=(0,1) by decide]
  ·exact jd (u,v)
  ·exact (jd (u,v)).neg
 ·rcases gX ((ir (u,v)).mul hR) (0,1) with z | z <;> rw [z,bp,show act hR (0,1)=aT (1,1) by decide,jA]
  ·exact h.top.neg
  ·rw [aU];exact h.top
theorem Ef.turn {u v w:Z2} (h:Ef u v w):Ef v w u:=by
 have T:=wx (e:=(u,v)) h.near;have e:=h.aB;have T2:(ir (v,w)).T:=by rw [e];exact M4.nF (by rw [M4.cL,T.1];decide)
 refine⟨As T2 (ju _) (jd _),?_⟩;rw [e];rcases gX ((ir (u,v)).mul hR) (1,1) with z | z <;> rw [z,bp,show act hR (1,1)=aT (1,0) by decide,jA]
 ·exact (ju (u,v)).neg
 ·rw [aU];exact ju (u,v)
theorem Ef.wi {fs:List Z2} {u v w:Z2} (h:Ef u v w) (hu:u∈fs) (hv:v∈fs) (hw:w∈fs):Wi fs (ir (u,v)):=by
 have on:∀{x y:Z2},y∈fs→Pm x y→qi fs x:=fun {x y} hy e=>by
  obtain⟨i,hi⟩:=MJ hy;have hl:=(Mi.mp hi).1;have:y=aP fs i:=Mq (hi.symm.trans (de hl));rw [this] at e;exact⟨i,hl,e⟩
 exact⟨wx (e:=(u,v)) h.near,on hu (ju (u,v)),on hv (jd (u,v)),on hw h.top⟩
theorem FJ {row:List Z2} (h:aw row.length row) (hn:2 < row.length) {i:Nat} {u v w:Z2} (e:Iu row.length row i u v w):Ef u v w:=by
 have key:∀m:M4,Pm (act m (1,1)) w→m=eV u v→Pm (act (ir (u,v)) (1,1)) w:=fun m hm e=>by
  subst e;unfold ir;rcases gX (eV u v) (1,1) with z | z
  ·rw [z];exact hm
  ·rw [z];exact hm.neg
 have i0:=e.i0;have il:=e.il;have one:=e.one;have nm:=e.near;have md:=e.mid;have fr:=e.far;have act11:∀m:M4,act m (1,1)=(m.a + m.b,m.c + m.d):=fun m=>by unfold act;simp
 unfold eT at one;rcases Nn (i + 1) row.length with c | c
 ·rw [Nat.mod_eq_of_lt c] at fr;have dvw:=h.det i v w i0 md fr;rcases Nat.eq_or_lt_of_le (show 1≤i by omega) with c1 | c1
  ·
   subst c1;have hu:u=(1,0):=Mq (nm.symm.trans h.first);subst hu;have v2:=h.det0 v md;have w2:=h.low 2 w fr (by decide);simp only [Int.one_mul,Int.zero_mul,Int.sub_zero] at one;have w21:w.2=1:=by omega
   rw [v2,w21] at dvw;have nr:sD (1,0) v:=by unfold sD;simp only;left;rw [v2];omega
   refine⟨nr,key ⟨1,v.1,0,v.2⟩ ?_ ?_⟩
   ·left;rw [act11];exact Nk (by simp only;omega) (by simp only;omega)
   ·unfold eV;rw [Mo (by simp only;rw [v2];omega)]
  ·have duv:=h.det (i - 1) u v (by omega) nm (by rw [show i - 1 + 1=i by omega];exact md);have duw:=h.lt 1 (i - 1) u w (by omega) nm (by rw [show i - 1 + 1 + 1=i + 1 by omega];exact fr);unfold eT at duw;have duw':u.1 * w.2 - u.2 * w.1 = -1:=by omega
   have nr:sD u v:=.inr duv;refine⟨nr,key ⟨u.1,-v.1,u.2,-v.2⟩ ?_ ?_⟩
   ·right
    rw [act11]
    have e1:v.1=u.1 + w.1:=by
     have:(u.1 * w.2 - u.2 * w.1) * v.1=(u.1 * v.2 - u.2 * v.1) * w.1 + (v.1 * w.2 - v.2 * w.1) * u.1:=by grind
     rw [duw',duv,dvw] at this;omega
    have e2:v.2=u.2 + w.2:=by
     have:(u.1 * w.2 - u.2 * w.1) * v.2=(u.1 * v.2 - u.2 * v.1) * w.2 + (v.1 * w.2 - v.2 * w.1) * u.2:=by grind
     rw [duw',duv,dvw] at this;omega
    exact Nk (by simp only [aT];omega) (by simp only [aT];omega)
   ·unfold eV;rw [Mw duv]
 ·have ei:i=row.length - 1:=by omega
  rw [show (i + 1) % row.length=0 by rw [show i + 1=row.length by omega,Nat.mod_self]] at fr;have hw:w=(1,0):=Mq (fr.symm.trans h.first);subst hw;have v2:=h.last v (by rw [← ei];exact md);have u2:=h.low (i - 1) u nm (by omega);have duv:=h.det (i - 1) u v (by omega) nm (by rw [show i - 1 + 1=i by omega];exact md);simp only [Int.mul_zero,Int.mul_one,Int.zero_sub] at one;have u21:u.2=1:=by omega
  rw [v2,u21] at duv;have duv':u.1 * v.2 - u.2 * v.1 = -1:=by rw [v2,u21];exact duv
  refine⟨.inr duv',key ⟨u.1,-v.1,u.2,-v.2⟩ ?_ ?_⟩
  ·right
   rw [act11];exact Nk (by simp only [aT];omega) (by simp only [aT];omega)
  ·unfold eV;rw [Mw duv']
theorem nX {row:List Z2} {ts:List e7} (t:b4 row ts):aw row.length row→∀x∈ts,Ef x.1 x.2.1 x.2.2∧x.1∈row∧x.2.1∈row∧x.2.2∈row:=by
 induction t with
 | done _=>intro _ x hx;cases hx
 | @cut row i u v w ts hn er _ ih =>
  intro h x hx;have hl:(row.eraseIdx i).length=row.length - 1:=by rw [List.length_eraseIdx_of_lt er.il]
  rcases MA.mp hx with rfl | hx
  ·exact⟨FJ h hn er,Mu er.near,Mu er.mid,Mu er.far⟩
  ·obtain⟨a,b,c,d⟩:=ih (by rw [hl];exact h.cut hn er) x hx;exact⟨a,List.mem_of_mem_eraseIdx b,List.mem_of_mem_eraseIdx c,List.mem_of_mem_eraseIdx d⟩
def Ao:D→Nat
 | .int i=>i.toNat
 | _=>0
theorem E1 {ys:List D} (h:∀y∈ys,∃j:Nat,y=.int (j:Int)):ys=aF (ys.map Ao):=by
 unfold aF;rw [List.map_map];refine (List.map_id ys).symm.trans (List.map_congr_left fun y hy=>?_);obtain⟨j,rfl⟩:=h y hy;show D.int (j:Int)=D.int ((Ao (D.int (j:Int)):Nat):Int)
 simp [Ao]
theorem EX (L:List M4):(lF L).map (·.1)=L.map M4.toD:=by
 unfold lF;rw [List.map_map];show (L.zipIdx.map fun x=>x.1.toD)=_
 rw [show (fun x:M4×Nat=>x.1.toD)=M4.toD∘Prod.fst from rfl,← List.map_map];simp
def Kk (x:D) (Q:D→Prop):Prop:=∃fs ms,x=iz fs ms∧bh fs ms∧∀L a b k,Raw fs ms L a b k→Q (.tup [.tup (aF (kc a b k)),.tup (aF (jJ a b k))])
def fP:Fw:=F1 Kk
theorem LB {fs:List Z2} {ms:List Mk} (hf:bh fs ms) {m:M4} (h:Sd fs ms m):m.B 40∧m.T:=by
 rcases h with ⟨_,w⟩ | ⟨g,hg,_,rfl⟩
 ·exact⟨(JM hf.fr w).le (by decide),w.T⟩
 ·exact⟨((Dr hf.fr hg).mul Ck).up.le (by decide),zK hf.fr hg⟩
def mD:bS:=(ck (az fK (ae (af 2) (ae (af 3) (ae (aG FQ (jF "Walk" "stands" (af 1)) (aG cX (jj "Walk" "settled" bC (af 1) (ae (cC (.tup [.int 1,.int 0,.int 0,.int 1])) av)) (cC (.int 1)))) av)))))
def lT:bS:=(aJ (bY 1 (Cd "Walk" "stands" "crossings" dk (ae (af 0) av))) (aJ (bY 2 (cS (rE [1] (jF "Walk" "stands" (af 1)) cU (jj "Walk" "number_behind" aR (af 1) (ae (af 0) (ae (cC (.tup [.int 0,.int (-1),.int 1,.int 0])) av)))))) (aJ (bY 3 (cS (rE [1] (jF "Walk" "stands" (af 1)) cU (jj "Walk" "number_behind" aR (af 1) (ae (af 0) (ae (cC (.tup [.int 0,.int (-1),.int 1,.int (-1)])) av)))))) mD)))
theorem vA:∀ds Q,fP ds Q→ds.length=1:=o8
theorem wo:∀ds (Q:D→Prop),fP ds Q→lT { nx:=fun _=>Q .non,rt:=Q } (aD ["fan","walk","halves","thirds"] ds):=by
 rintro ds Q ⟨x,rfl,fs,ms,rfl,hf,h⟩;have sz:=MK
 simp_arith only [lT,Cd,dk,Jy]
 refine⟨fs,ms,rfl,hf,fun L S w=>?_⟩;have few:=w.few;have ok1:bg S.st:=by rw [w.st];exact u6 w.gr.nd
 have row:∀(l:M4) (R:M4→M4→Prop) (P:List D→Prop),l.B 1→l.det=1→(∀p s,R p s→xZ fs ms (p.mul l).up s∧Sd fs ms s)→(∀p,Sd fs ms p→∃s,R p s) →
   (∀a:List Nat,a.length=L.length→(∀(i:Nat) (p:M4),L[i]?=some p→∃j s,R p s∧L[j]?=some s∧a[i]?=some j)→P (aF a)) →
   ∀(k2 k3:Option Lo),rE [1] (jF "Walk" "stands" (af 1)) cU (jj "Walk" "number_behind" aR (af 1) (ae (af 0) (ae (cC l.toD) av))) [some (.d (iz fs ms)),some (.d (KD "Walk" "stands" "crossings" S)),k2,k3] P:=by
  intro l R P lB ld hR tot hP k2 k3
  simp_arith only [rE,jF]
  refine⟨_,_,rfl,qy S,S.st,rfl,?_⟩;rw [w.st,EX];refine kA (fun x y=>∃p s j,x=M4.toD p∧R p s∧L[j]?=some s∧y=.int ((j:Nat):Int)) _ _ ?_ (by simp;omega) ?_
  ·intro x hx N hN;obtain⟨p,hp,rfl⟩:=MT.mp hx;have sp:=(w.all p).mp hp;obtain⟨s,hs⟩:=tot p sp;obtain⟨h1,h2⟩:=hR p s hs;obtain⟨j,hj⟩:=MJ ((w.all s).mpr h2);obtain⟨pB,pT⟩:=LB hf sp
   simp_arith only [cp,jj,aR,xt]
   refine⟨_,rfl,rfl,S,p,l,40,rfl,rfl,rfl,ok1,w.ok,pB,lB,by decide,pT.1,ld,s,fun R' hR'=>h1.Jo w R' hR',.int (j:Int),by rw [w.st];exact zQ w.gr.nd hj,hN _ ⟨p,s,j,rfl,hs,hj,rfl⟩⟩
  ·intro ys hl hr;rw [My] at hl
   rw [List.nil_append,E1 (ys:=ys) fun y hy=>by
    obtain⟨i,hi⟩:=MJ hy;have hil:=(Mi.mp hi).1;have hx:(L.map M4.toD)[i]?=some ((L[i]'(by omega)).toD):=by rw [Ms,Mm (by omega)];rfl
    obtain⟨p,s,j,_,_,_,e⟩:=hr i _ y hx hi
    exact⟨j,e⟩]
   refine hP _ (by rw [My];exact hl) fun i p hp=>?_;have hil:=(Mi.mp hp).1;have hy:ys[i]?=some ys[i]:=Mm (by omega);obtain⟨p',s,j,e1,r,hj,e2⟩:=hr i p.toD ys[i] (by rw [Ms,hp];rfl) hy;have:=yq e1;subst this;refine⟨j,s,r,hj,?_⟩;rw [Ms,hy,e2];simp [Ao]
 refine row hS (cM fs ms) _ Ck (by decide) (fun p s r=>⟨r.D0 hf,(r.KQ hf).2⟩) (fun p hp=>Cf hf hp) (fun a la ha=>?_) none none;refine row hR (c8 fs ms) _ GJ (by decide) (fun p s r=>⟨r.D0 hf,(r.KQ hf).2⟩) (fun p hp=>AX hf hp) (fun b lb hb=>?_) _ none;obtain⟨s,h1,h2⟩:=Bj hf;obtain⟨k,hk⟩:=MJ ((w.all s).mpr h2);have raw:Raw fs ms L a b k:=⟨w.gr,w.all,few,la,lb,ha,hb,s,h1,hk⟩;obtain⟨tb,kl⟩:=raw.AA hf
 simp_arith only [mD,jF,jj,bC,fK,fX,xt]
 refine⟨_,_,rfl,qy S,_,rfl,rfl,S,M4.one,rfl,rfl,ok1,w.ok,h1.Jo w _ fun d=>?_⟩;refine⟨_,rfl,S.st,.int (k:Int),rfl,(bK s).1,(bK s).2,ok1,by rw [w.st];exact zQ w.gr.nd hk,?_⟩;exact⟨a,b,k,Rw.lst,Rw.lst,rfl,tb,by omega,kl,h L a b k raw⟩
def eU (fs:List Z2):bF→M4
 | .gap i=>gj fs i
 | .edge e=>ir e
section
variable {fs:List Z2} {ms:List Mk} {ts:List e7} {ha th:bF→Option bF} {f:bF}
theorem mr (i:Nat) (hi:i < fs.length):ir (bo fs i)=aK fs i:=by
 unfold ir bo aK aP gE;rw [za hi]
theorem km (hf:aw fs.length fs) (tof:b4 fs ts) {e:oy} (he:e∈eR ts):Wi fs (ir e)∧∃w,Ef e.1 e.2 w:=by
 obtain⟨t,ht,h⟩:=gR he;obtain⟨tr,a,b,c⟩:=nX tof hf t ht;simp only [te,MA,MN,or_false] at h;rcases h with rfl | rfl | rfl
 ·exact⟨tr.wi a b c,_,tr⟩
 ·exact⟨tr.turn.wi b c a,_,tr.turn⟩
 ·exact⟨tr.turn.turn.wi c a b,_,tr.turn.turn⟩
theorem Gd (hf:aw fs.length fs) {x y:Z2} (hx:x∈fs) (hy:y∈fs) (e:Pm x y):x=y:=by
 obtain⟨i,hi⟩:=MJ hx;obtain⟨j,hj⟩:=MJ hy;have il:=(Mi.mp hi).1;have jl:=(Mi.mp hj).1;have ex:x=aP fs i:=Mq (hi.symm.trans (de il));have ey:y=aP fs j:=Mq (hj.symm.trans (de jl));rw [ex,ey] at e;have:=lQ hf il jl e;rw [ex,ey,this]
theorem Ar (hf:aw fs.length fs) {e e':oy} (h1:e.1∈fs∧e.2∈fs) (h2:e'.1∈fs∧e'.2∈fs) (h:ir e=ir e'):e=e':=by
 have a:=(ju e).symm;have b:=(jd e).symm;rw [h] at a b;exact Nk (Gd hf h1.1 h2.1 (a.trans (ju e'))) (Gd hf h1.2 h2.2 (b.trans (jd e')))
theorem Hl (hf:bh fs ms) (hn:2 < fs.length) (tof:b4 fs ts) {p:bF} (hp:lu ms ts p):Sd fs ms (eU fs p):=by
 cases p with
 | gap i=>exact fB (bL hf.mar hp) hp
 | edge e=>exact .inl ⟨hn,(km hf.fr tof hp).1⟩
theorem Fu (hf:bh fs ms) (hn:2 < fs.length) (ok:c9 fs ts) (tof:b4 fs ts) {p q:bF} (hp:lu ms ts p) (hq:lu ms ts q) (e:eU fs p=eU fs q):p=q:=by
 cases p with
 | gap i =>
  cases q with
  | gap j=>rw [kB hf.fr (bL hf.mar hp) (bL hf.mar hq) e]
  | edge d=>exact absurd (by rw [show gj fs i=ir d from e];exact (km hf.fr tof hq).1) (kS hf.fr (bL hf.mar hp))
 | edge c =>
  cases q with
  | gap j=>exact absurd (by rw [show gj fs j=ir c from e.symm];exact (km hf.fr tof hp).1) (kS hf.fr (bL hf.mar hq))
  | edge d=>rw [Ar hf.fr (ok.inn c hp) (ok.inn d hq) e]
theorem HL (hf:aw fs.length fs) (ok:c9 fs ts) {e:oy} (he:e∈eR ts) (hb:¬ Bd fs e):¬ Ez fs (ir e):=fun⟨g,hg,h⟩=>by
 rw [← mr g hg] at h;have:=Ar hf (ok.inn e he) ((qF hg).mem) h;rw [this] at hb;exact hb (qF hg)
theorem C5 (hf:bh fs ms) (hn:2 < fs.length) (ok:c9 fs ts) (tof:b4 fs ts) {m:M4} (h:Sd fs ms m):∃p,lu ms ts p∧eU fs p=m:=by
 rcases h with ⟨h3,w⟩ | ⟨g,hg,hm,rfl⟩
 ·have:=Co hf.fr h3 (fun m=>∃e∈eR ts,m=ir e) ⟨_,i9 hf.fr hn ok (i:=0) (by omega),(mr 0 (by omega)).symm⟩
   (fun m ⟨e,he,em⟩=>by
    subst em;obtain⟨t,ht,h⟩:=gR he;obtain⟨tr,_⟩:=nX tof hf.fr t ht;have ins:∀x∈te t,x∈eR ts:=fun x hx=>zc ht hx;simp only [te,MA,MN,or_false] at h;rcases h with rfl | rfl | rfl
    ·exact⟨_,ins _ (by simp [te]),tr.aB.symm⟩
    ·exact⟨(t.2.2,t.1),ins _ (by simp [te]),tr.turn.aB.symm⟩
    ·exact⟨(t.1,t.2.1),ins _ (by simp [te]),tr.turn.turn.aB.symm⟩)
   (fun m ⟨e,he,em⟩ hr=>by
    subst em
    have hb:¬ Bd fs e:=fun hb=>by
     obtain⟨i,hi,ei⟩:=nG hb;exact hr i hi (by rw [ei];exact mr i hi)
    obtain⟨_,w',tr⟩:=km hf.fr tof he
    exact⟨rv e,Gj ok he hb,(xc tr.near).symm⟩)
   (fun m ⟨e,he,em⟩=>by rw [em];exact (km hf.fr tof he).1) m w
  obtain⟨e,he,em⟩:=this;exact⟨.edge e,he,em.symm⟩
 ·exact⟨.gap g,hm,rfl⟩
theorem wC (hf:bh fs ms) (hn:2 < fs.length) (ok:c9 fs ts) (tof:b4 fs ts) (lk:Links fs ms ts ha th) {p q:bF} (hp:lu ms ts p) (hq:ha p=some q):cM fs ms (eU fs p) (eU fs q):=by
 cases p with
 | gap i =>
  have hi:=bL hf.mar hp;rw [(lk.hag i hp).1] at hq;cases hq;show cM fs ms (gj fs i) (ir (bo fs i))
  rw [mr i hi]
  exact .bck hn hi hp
 | edge e =>
  by_cases hb:Bd fs e
  ·obtain⟨i,hi,rfl⟩:=nG hb;show cM fs ms (ir (bo fs i)) _
   rw [mr i hi];rcases rZ hf.mar hi with m | m | ⟨j,hj,m⟩
   ·rw [lk.hah i m] at hq;cases hq;show cM fs ms _ (ir (bo fs i))
    rw [mr i hi];exact .hlf hn hi m
   ·rw [(lk.hag i m).2] at hq;cases hq;exact .out hn hi m
   ·rw [lk.ham i j m] at hq;cases hq;show cM fs ms _ (ir (bo fs j))
    rw [mr j hj];exact .par hn hi m
  ·rw [lk.hai e hp hb] at hq;cases hq;obtain⟨w,w',tr⟩:=km hf.fr tof hp;show cM fs ms (ir e) (ir (rv e))
   rw [xc tr.near];exact .inn hn w (HL hf.fr ok hp hb)
theorem AG (hf:bh fs ms) (hn:2 < fs.length) (tof:b4 fs ts) (lk:Links fs ms ts ha th) {p q:bF} (hp:lu ms ts p) (hq:th p=some q):c8 fs ms (eU fs p) (eU fs q):=by
 cases p with
 | gap i =>
  rw [lk.thg i hp] at hq;cases hq
  exact .fix (bL hf.mar hp) hp
 | edge e =>
  have w:=(km hf.fr tof hp).1;obtain⟨t,ht,h⟩:=gR hp;obtain⟨tr,_⟩:=nX tof hf.fr t ht;obtain⟨r1,r2,r3⟩:=lk.rot t ht;simp only [te,MA,MN,or_false] at h;have go:∀e',((ir e).mul hR).up=ir e'→c8 fs ms (ir e) (ir e'):=fun e' z=>by rw [← z];exact .inn hn w
  rcases h with rfl | rfl | rfl
  ·rw [r1] at hq;cases hq;exact go _ tr.aB.symm
  ·rw [r2] at hq;cases hq;exact go _ tr.turn.aB.symm
  ·rw [r3] at hq;cases hq;exact go _ tr.turn.turn.aB.symm
theorem AN (hf:bh fs ms) (hn:2 < fs.length) (ok:c9 fs ts) (tof:b4 fs ts) (lk:Links fs ms ts ha th) (hF:qr fs ts ha f):xZ fs ms M4.one (eU fs f):=by
 rcases hF with ⟨h1,rfl⟩ | ⟨h1,h2⟩
 ·have e:eU fs (.edge nL)=M4.one:=by show ir nL=_;decide
  rw [e];have w:=(km hf.fr tof h1).1;rw [show ir nL=M4.one by decide] at w;exact .self (.inl ⟨hn,w⟩)
 ·have b2:Bd fs w6:=Classical.byContradiction fun z=>h1 (ok.a.mpr z);have el:=w4 hf.fr b2;have hl:fs.length - 1 < fs.length:=by omega
  have gi:=i9 hf.fr hn ok hl;have r:=wC hf hn ok tof lk (p:=.edge (bo fs (fs.length - 1))) gi h2;have:=r.D0 hf;have e:eU fs (.edge (bo fs (fs.length - 1)))=hS:=by show ir (bo fs (fs.length - 1))=_;rw [el];decide
  rw [e,show (hS.mul hS).up=M4.one by decide] at this;exact this
end
structure Ks (fs:List Z2) (ms:List Mk) (c d:List Nat):Prop where
 ex:∃(ha th:bF→Option bF) (f:bF) (isP:bF→Prop) (met:List bF),kb fs ms ha th f∧(∀p,isP p↔p∈met)∧uR fs ms ha th isP∧met.Nodup∧met[0]?=some f∧(∀p∈met,∃q,ha p=some q∧q∈met)∧(∀p∈met,∃q,th p=some q∧q∈met) ∧
  c=cb met (fun p=>(ha p).getD p)∧d=cb met (fun p=>(th p).getD p)
 tb:qE c d
 sf:xU c d
 few:c.length≤500
structure Keeps (fs:List Z2) (ms:List Mk) (ha th:bF→Option bF) (f:bF) (isP:bF→Prop):Prop where
 sd:∀p,isP p→Sd fs ms (eU fs p)
 inj:∀p q,isP p→isP q→eU fs p=eU fs q→p=q
 onto:∀m,Sd fs ms m→∃p,isP p∧eU fs p=m
 h:∀p q,isP p→ha p=some q→cM fs ms (eU fs p) (eU fs q)
 t:∀p q,isP p→th p=some q→c8 fs ms (eU fs p) (eU fs q)
 f:xZ fs ms M4.one (eU fs f)
theorem DT {fs:List Z2} {ms:List Mk} {ha th:bF→Option bF} {f:bF} {isP:bF→Prop} (hf:bh fs ms) (h:kb fs ms ha th f) (src:uR fs ms ha th isP):Keeps fs ms ha th f isP:=by
 rcases src with ⟨hn,ts,ok,tof,lk,iff⟩ | ⟨h2,hl,iff⟩
 ·refine⟨fun p hp=>Hl hf hn tof ((iff p).mp hp),fun p q hp hq=>Fu hf hn ok tof ((iff p).mp hp) ((iff q).mp hq),fun m hm=>?_,fun p q hp hq=>wC hf hn ok tof lk ((iff p).mp hp) hq,fun p q hp hq=>AG hf hn tof lk ((iff p).mp hp) hq,?_⟩
  ·obtain⟨p,a,b⟩:=C5 hf hn ok tof hm;exact⟨p,(iff p).mpr a,b⟩
  ·rcases h with ⟨_,ts',ok',tof',_,lk',fo⟩ | ⟨h2,_⟩
   ·exact AN hf hn ok' tof' lk' fo
   ·omega
 ·have two:=uD hf.fr h2;have lt:∀i,ms[i]?=some Mk.aB→i < 2:=fun i hi=>by have:=bL hf.mar hi;omega
  refine⟨fun p hp=>?_,fun p q hp hq e=>?_,fun m hm=>?_,fun p q hp hq=>?_,fun p q hp hq=>?_,?_⟩
  ·obtain⟨i,hi,rfl⟩:=(iff p).mp hp;exact fB (bL hf.mar hi) hi
  ·obtain⟨i,hi,rfl⟩:=(iff p).mp hp;obtain⟨j,hj,rfl⟩:=(iff q).mp hq;rw [kB hf.fr (bL hf.mar hi) (bL hf.mar hj) e]
  ·rcases hm with ⟨h3,_⟩ | ⟨g,hg,hm,rfl⟩
   ·omega
   ·exact⟨.gap g,(iff _).mpr ⟨g,hm,rfl⟩,rfl⟩
  ·obtain⟨i,hi,rfl⟩:=(iff p).mp hp;rw [(hl i hi).2] at hq;cases hq;have:=lt i hi;rcases jU hf h2 (g:=1 - i) (by omega) with z | z
   ·rw [Mw z];exact .two h2 (lt i hi) hi z
   ·rw [Mo (by rw [z];simp)];exact .one h2 (lt i hi) hi z
  ·obtain⟨i,hi,rfl⟩:=(iff p).mp hp;rw [(hl i hi).1] at hq;cases hq;exact .fix (bL hf.mar hi) hi
  ·rcases h with ⟨hn,_⟩ | ⟨_,_,rfl⟩
   ·omega
   ·rw [← two.2.2];rcases jU hf h2 (g:=1) (by omega) with z | z
    ·rw [Mw z];exact .self (fB (by omega) z)
    ·rw [Mo (by rw [z];simp)];refine .inr ⟨l6 hf (by omega) (by rw [z];simp),1,_,z,rfl,?_⟩;exact two.2.1.symm
theorem oq {α:Type} [DecidableEq α]:∀{l m:List α},l.Nodup→(∀x∈l,x∈m)→l.length≤m.length
 | [],_,_,_=>Nc _
 | x :: l,m,nd,h=>by
  obtain⟨n1,n2⟩:=M5.mp nd;have hx:=h x MO;have:=oq (m:=m.erase x) n2 fun y hy=>(List.mem_erase_of_ne (fun e=>n1 (by rw [← e];exact hy))).mpr (h y (MB _ hy));rw [List.length_erase_of_mem hx] at this;have:=List.length_pos_of_mem hx;simp only [MQ];omega
theorem Dk {fs:List Z2} {ms:List Mk} {c d:List Nat} {L:List M4} {a b:List Nat} {k:Nat} (hf:bh fs ms) (h:Ks fs ms c d) (r:Raw fs ms L a b k):c=kc a b k∧d=jJ a b k:=by
 obtain⟨ha,th,f,isP,met,lr,al,src,nd,h0,ch,ct,ec,ed⟩:=h.ex;have K:=DT hf lr src;have few:=r.few;have nl:=r.gr.nd;have inP:∀p∈met,isP p:=fun p hp=>(al p).mpr hp;have inL:∀p∈met,eU fs p∈L:=fun p hp=>(r.all _).mpr (K.sd p (inP p hp));have lc:c.length=met.length:=by rw [ec];unfold cb;rw [My]
 have len:L.length=met.length:=by
  have n1:(met.map (eU fs)).Nodup:=by
   rw [List.Nodup,List.pairwise_map];exact List.Pairwise.imp_of_mem (fun {x y} hx hy ne e=>ne (K.inj x y (inP x hx) (inP y hy) e)) nd
  have l1:=oq n1 (m:=L) fun x hx=>by
   obtain⟨p,hp,rfl⟩:=MT.mp hx;exact inL p hp
  have l2:=oq nl (m:=met.map (eU fs)) fun x hx=>by
   obtain⟨p,hp,e⟩:=K.onto x ((r.all x).mp hx);exact MT.mpr ⟨p,(al p).mp hp,e⟩
  rw [My] at l1 l2;omega
 obtain⟨tb,kl⟩:=r.AA hf
 let ψ:Nat→Nat:=fun j=>match met[j]? with
  | some p=>L.idxOf (eU fs p)
  | none=>0
 have ψat:∀{j:Nat} {p:bF},met[j]?=some p→L[ψ j]?=some (eU fs p):=fun {j p} hj=>by
  have e:ψ j=L.idxOf (eU fs p):=by show (match met[j]? with | some p=>L.idxOf (eU fs p) | none=>0)=_;rw [hj]
  rw [e];exact fe (inL p (Mu hj))
 have injL:∀{i j:Nat} {m:M4},L[i]?=some m→L[j]?=some m→i=j:=fun {i j m} x y=>(List.getElem?_inj (Mi.mp x).1 nl).mp (x.trans y.symm);have atM:∀{j:Nat},j < c.length→∃p,met[j]?=some p:=fun {j} hj=>⟨met[j]'(by omega),Mm _⟩
 have step:∀(g:bF→Option bF) (x:List Nat) (y:List Nat) (R:M4→M4→Prop),x=cb met (fun p=>(g p).getD p)→(∀p∈met,∃q,g p=some q∧q∈met)→(∀p q,isP p→g p=some q→R (eU fs p) (eU fs q))→(∀{p s s'},R p s→R p s'→s=s') →
   (∀(i:Nat) (p:M4),L[i]?=some p→∃j s,R p s∧L[j]?=some s∧y[i]?=some j)→∀i,i < c.length→ψ (cE x i)=cE y (ψ i):=by
  intro g x y R ex cg hR fn hy i hi;obtain⟨p,hp⟩:=atM hi;have pm:=Mu hp;obtain⟨q,hq,qm⟩:=cg p pm
  have h1:cE x i=met.idxOf q:=by
   unfold cE;rw [Nt,ex,i8 hp,hq];rfl
  have h2:=ψat (fe qm);have h3:=ψat hp;obtain⟨j,s,rs,hj,ej⟩:=hy _ _ h3;have:=fn rs (hR p q (inP p pm) hq);subst this;rw [h1,injL h2 hj];unfold cE;rw [Nt,ej];rfl
 have iso:Lq c d a b ψ:=by
  refine⟨by rw [r.la,len,lc],fun i hi=>?_,fun i j hi hj e=>?_,step ha c a _ ec ch K.h (fun x y=>x.fn hf y) r.ha,step th d b _ ed ct K.t (fun x y=>x.fn hf y) r.hb⟩
  ·obtain⟨p,hp⟩:=atM hi;have:=(Mi.mp (ψat hp)).1;rw [r.la];exact this
  ·obtain⟨p,hp⟩:=atM hi;obtain⟨q,hq⟩:=atM hj;have h1:=ψat hp;have h2:=ψat hq;rw [e,h2] at h1;have:=K.inj q p (inP q (Mu hq)) (inP p (Mu hp)) (Mq h1);subst this;exact (List.getElem?_inj (Mi.mp hp).1 nd).mp (hp.trans hq.symm)
 have z:ψ 0=k:=by
  obtain⟨s,hs,hks⟩:=r.hk;have h1:=ψat h0;have:=K.f.one hf hs;rw [this] at h1;exact injL h1 hks
 have:=iso.anew h.tb h.few h.tb.pos;rw [z,(uc h.tb h.sf).1,(uc h.tb h.sf).2] at this;exact this
def Jw (x:D) (Q:D→Prop):Prop:=∃fs ms,x=iz fs ms∧bh fs ms∧∀c d:List Nat,Ks fs ms c d→c.length + 6≤4 * fs.length→Q (lU c d)
def dO:Fw:=F1 Jw
theorem sV:∀ds (Q:D→Prop),dO ds Q→pN { nx:=fun _=>Q .non,rt:=Q } (aD ["_law_fan_here","_law_halves","_law_thirds","_law_first"] ds):=by
 rintro ds Q ⟨x,rfl,fs,ms,rfl,hf,h⟩
 simp_arith only [pN,dF,eF,pF,xt,BY]
 refine⟨fs,ms,rfl,hf,fun hk tk ha th f e1 e2 hr=>?_⟩;obtain⟨isP,all,sys,src,cnt⟩:=Hb hf hr
 have sy:Sy (fun p=>(ha p).getD p) (fun p=>(th p).getD p) f isP all:=⟨sys.f0,fun p hp=>by
  obtain⟨q,a1,i1⟩:=sys.h1 p hp;obtain⟨r,a2,i2⟩:=sys.t1 p hp;rw [a1,a2]
  exact⟨i1,i2⟩,sys.al,sys.few⟩
 have fm:=j5 sy
 have tb:=fm.AA (fun p hp=>by
  obtain⟨q,a1,i1⟩:=sys.h1 p hp
  rw [a1,Option.getD_some,sys.hh p q hp a1,Option.getD_some]) (fun p hp=>by
  obtain⟨q,r,a1,a2,a3⟩:=sys.t3 p hp
  rw [a1,Option.getD_some,a2,Option.getD_some,a3,Option.getD_some])
 have len:(cb (fE (fun p=>(ha p).getD p) (fun p=>(th p).getD p) f all.length) (fun p=>(ha p).getD p)).length≤500:=by
  unfold cb;rw [My];exact Ni (fm.me.len sy) sys.few
 refine⟨bF,inferInstance,dM,_,_,f,isP,all,E7,xa e1 (fun p hp=>let ⟨q,a,_⟩:=sys.h1 p hp;⟨q,a⟩),xa e2 (fun p hp=>let ⟨q,a,_⟩:=sys.t1 p hp;⟨q,a⟩),rfl,sy,h _ _ ⟨⟨ha,th,f,isP,_,hr,fun p=>⟨fun hp=>?_,fun hp=>fm.me.inn p hp⟩,src,fm.me.nd,fm.head,fun p hp=>?_,fun p hp=>?_,rfl,rfl⟩,tb,Cq sy tb,len⟩ ?_⟩
 ·have hd:f∈fE (fun p=>(ha p).getD p) (fun p=>(th p).getD p) f all.length:=Mu fm.head;refine sys.re (fun p=>p∈fE (fun p=>(ha p).getD p) (fun p=>(th p).getD p) f all.length) hd (fun p q hp hq=>?_) (fun p q hp hq=>?_) p hp
  ·have:=(fm.cl p hp).1;rw [hq] at this;exact this
  ·have:=(fm.cl p hp).2;rw [hq] at this;exact this
 ·obtain⟨q,a1,i1⟩:=sys.h1 p (fm.me.inn p hp);have:=(fm.cl p hp).1;rw [a1] at this;exact⟨q,a1,this⟩
 ·obtain⟨q,a1,i1⟩:=sys.t1 p (fm.me.inn p hp);have:=(fm.cl p hp).2;rw [a1] at this;exact⟨q,a1,this⟩
 ·unfold cb;rw [My];exact Fq hf src fm.me.nd fm.me.inn
theorem sC:∀ds Q,dO ds Q→ds.length=1:=o8
def vF:bS:=(aJ (l7 (az dF (ae (af 0) av)) (iC 3 (bO (aV 1) (bO (aV 2) (bO (aV 3) iU))))) (ck (az eF (ae (af 1) (ae (af 2) (ae (af 3) av))))))
def JC (x:D) (Q:D→Prop):Prop:=x=.obj gL∧∀fs ms,bh fs ms→fs.length=22→Q (iz fs ms)
def c4:Fw:=F1 JC
def La:Mk→Mk
 | .aB=>.half
 | .half=>.half
 | .gap j=>.gap j
theorem HK {ms:List Mk} (h:lS 22 ms):lS 22 (ms.map La):=by
 refine⟨by rw [My];exact h.len,fun i j hij=>?_,fun e=>absurd e (by decide)⟩;rw [Ms] at hij
 cases hm:ms[i]? with
 | none=>rw [hm] at hij;cases hij
 | some m =>
  rw [hm] at hij
  cases m with
  | aB=>cases hij
  | half=>cases hij
  | gap k =>
   cases hij;obtain⟨a,b⟩:=h.pair i j hm;exact⟨a,by rw [Ms,b];rfl⟩
def gO:bS:=(aJ (bY 1 (az bD (ae (af 0) (ae (cC (.int 22)) av)))) (aJ (bY 2 (cS (gP [] (az cJ (ae (af 0) (ae (cC (.int 22)) av))) cU (af 0)))) (ck (bQ (ae (af 1) (ae (az gb (ae (cS (gP [] (af 2) cU (aG cX (jZ (ae (cC (.str "half")) (ae (af 0) av))) (az tJ (ae (aG vS (af 0) (cC (.str "third"))) av))))) av)) av))))))
theorem oO:∀ds Q,c4 ds Q→ds.length=1:=o8
theorem pX:∀ds (Q:D→Prop),c4 ds Q→gO { nx:=fun _=>Q .non,rt:=Q } (aD ["_law_rest","_law_fractions_here","_law_marks_here"] ds):=by
 rintro ds Q ⟨x,rfl,rfl,h⟩;have sz:=MK
 simp_arith only [gO,bD,cJ,fX]
 refine⟨22,rfl,rfl,by decide,by decide,fun fs hf=>⟨22,rfl,rfl,by decide,by decide,fun ms hm=>?_⟩⟩;have hml:=hm.len;have hfl:=hf.len;refine⟨_,rfl,fC id _ _ ?_ (by simp;omega) ?_⟩
 ·intro x hx N hN
  simp_arith only [cp]
  exact hN
 ·rw [List.nil_append,List.map_id];refine fC (fun d=>match d with | .str z=>.str (Str.ofString "half") | d=>d) _ _ ?_ (by simp;omega) ?_
  ·intro x hx N hN;obtain⟨m,_,rfl⟩:=MT.mp hx
   simp_arith only [cp]
   unfold vS jB;refine⟨⟨by cases m <;> simp [jx,dep],by simp [dep]⟩,?_⟩
   simp_arith only [and_true]
   cases m with
   | aB=>exact⟨_,rfl,hN⟩
   | half=>exact⟨_,rfl,hN⟩
   | gap j=>exact⟨_,by simp [jx,aY];rfl,hN⟩
  ·have e:((ms.map jx).map fun d=>match d with | .str z=>D.str (Str.ofString "half") | d=>d)=(ms.map La).map jx:=by
    rw [List.map_map,List.map_map];refine List.map_congr_left fun m _=>?_;cases m <;> rfl
   rw [List.nil_append,e];exact h fs (ms.map La) ⟨by rw [hfl];exact hf,by rw [hfl];exact HK hm⟩ hfl
def ox:bS:=(aJ (bY 4 (az dO (ae (af 3) av))) (hU iH (ae (cC (.int 2)) av) (aV 5) (iW (pZ (aL (az cf (ae (az fP (ae (af 3) av)) (ae (af 4) av))))) (ck (cC (.bl false))) bN)))
def DV:bS:=(aJ (hU iH (ae (az BM (ae (cC (.int 1)) (ae (az BZ (ae (cC (.int 6)) (ae (az gy (ae (af 0) av)) av))) av))) av) (aV 1) (aJ (su 2 (az gG (ae (af 0) (ae (af 1) av)))) (aJ (bY 3 (az gK (ae (af 2) (ae (cC (.int 7)) (ae (cC (.int 16)) av))))) (aJ (iW (aL (aG lh (az aS (ae (af 2) (ae (cC (.int 16)) av))) (cC (.int 1)))) (bY 3 (az c4 (ae (af 2) av))) bN) ox)))) (ck (cC (.bl true))))
theorem FC:∀ds Q,BB 63 ds Q→ds.length=1:=by rintro ds Q ⟨ns,rfl,_⟩;rfl
theorem Im:∀ds (Q:D→Prop),BB 63 ds Q→DV { nx:=fun _=>Q .non,rt:=Q } (aD ["_law_script","_law_k","_law_rest","_law_fan_here","_law_due","_law_turn"] ds):=by
 rintro ds Q ⟨ns,rfl,hl,h⟩
 simp_arith only [DV,My]
 refine⟨by omega,by omega,?_⟩;refine dg (fun _ e=>∃k1 k2 k3 k4 k5,e=[some (.d (.lst (ns.map D.int))),k1,k2,k3,k4,k5]) ?_ ?_ ⟨_,_,_,_,_,rfl⟩
 ·rintro i x env N hx ⟨k1,k2,k3,k4,k5,rfl⟩ hN;have hi:=(Mi.mp hx).1
  have hxe:x=.int (0 + (i:Int)):=by
   unfold aN at hx;rw [Ms] at hx;simp [aN] at hi;rw [MZ (by omega)] at hx;cases hx;rfl
  subst hxe;have hi2:i < 6:=by simp [aN] at hi;omega
  have fin:∀(fs:List Z2) (ms:List Mk),bh fs ms→ox { nx:=N,rt:=Q,bk:=ck (cC (D.bl true)) { nx:=fun x=>Q D.non,rt:=Q },ct:=N } [some (.d (.lst (ns.map D.int))),some (.d (.int (0 + (i:Int)))),some (.d (.obj gL)),some (.d (iz fs ms)),k4,k5]:=fun fs ms hf=>by
   simp_arith only [ox,dO,pF]
   refine⟨fs,ms,rfl,hf,fun c d tl _=>?_⟩;refine dg (fun _ e=>∃k5,e=[some (.d (.lst (ns.map D.int))),some (.d (.int (0 + (i:Int)))),some (.d (.obj gL)),some (.d (iz fs ms)),some (.d (lU c d)),k5]) ?_ ?_ ⟨_,rfl⟩
   ·rintro j x env N2 hx ⟨k5,rfl⟩ hN2
    simp_arith only [fP,cf,pF,fX]
    refine⟨fs,ms,rfl,hf,fun L a b k r=>?_⟩;obtain⟨e1,e2⟩:=Dk hf tl r;rw [← e1,← e2];refine⟨c,d,c,d,rfl,rfl,tl.few,by rw [tl.tb.ok.len];exact tl.few,true,by simp,?_⟩;rw [Mo (by decide)];exact hN2 _ ⟨_,rfl⟩
   ·rintro env ⟨k5,rfl⟩;exact hN _ ⟨_,_,_,_,_,rfl⟩
  simp_arith only [su,gG,gK,aS,c4,pF,fX,xt,IY,Gk]
  refine⟨ns,_,rfl,rfl,by omega,by omega,fun r=>⟨7,16,rfl,rfl,by omega,by omega,by omega,by omega,fun fs ms hf _=>?_⟩⟩;refine⟨16,rfl,rfl,by decide,by decide,fun d d0 d1=>?_⟩
  simp_arith only [and_true]
  by_cases c:d=1
  ·rw [Mw c];exact⟨rfl,fun fs' ms' hf' _=>fin fs' ms' hf'⟩
  ·rw [Mo c];exact fin fs ms hf
 ·rintro env ⟨k1,k2,k3,k4,k5,rfl⟩
  simp_arith only [and_true]
  exact h
open PySem L2 L2.L3
open K55
def top (i:Nat):Stmt:=PySem.Challenge.pw_fanglue_k26_tables_of_fans.main.body.getD i (.Pass ⟨0,0,0,0⟩)
structure Gh where
 c_Walk:Addr
 a_TOP:Addr
 its_TOP:Array Value
 n_TOP:Nat
 sl_TOP:Array (Option Value)
 a_THIRD:Addr
 its_THIRD:Array Value
 n_THIRD:Nat
 sl_THIRD:Array (Option Value)
 a_HALF:Addr
 its_HALF:Array Value
 n_HALF:Nat
 sl_HALF:Array (Option Value)
 a_NOTHING:Addr
 its_NOTHING:Array Value
 n_NOTHING:Nat
 sl_NOTHING:Array (Option Value)
structure Tc (K:Mn) (w:World) (n:Gh):Prop where
 g_TOP:PySem.W.nsIn K mainGlobals "TOP" = some (some (.ref n.a_TOP))
 l_TOP:K.lookup n.a_TOP=some ⟨.type "tuple",none,.seq n.its_TOP n.n_TOP,n.sl_TOP⟩
 s_TOP:n.its_TOP.size≤sizeLine
 v_TOP:L2.Vals ([1,0].map L2.V.int) n.its_TOP.toList
 g_THIRD:PySem.W.nsIn K mainGlobals "THIRD" = some (some (.ref n.a_THIRD))
 l_THIRD:K.lookup n.a_THIRD=some ⟨.type "tuple",none,.seq n.its_THIRD n.n_THIRD,n.sl_THIRD⟩
 s_THIRD:n.its_THIRD.size≤sizeLine
 v_THIRD:L2.Vals ([0,-1,1,-1].map L2.V.int) n.its_THIRD.toList
 g_HALF:PySem.W.nsIn K mainGlobals "HALF" = some (some (.ref n.a_HALF))
 l_HALF:K.lookup n.a_HALF=some ⟨.type "tuple",none,.seq n.its_HALF n.n_HALF,n.sl_HALF⟩
 s_HALF:n.its_HALF.size≤sizeLine
 v_HALF:L2.Vals ([0,-1,1,0].map L2.V.int) n.its_HALF.toList
 g_NOTHING:PySem.W.nsIn K mainGlobals "NOTHING" = some (some (.ref n.a_NOTHING))
 l_NOTHING:K.lookup n.a_NOTHING=some ⟨.type "tuple",none,.seq n.its_NOTHING n.n_NOTHING,n.sl_NOTHING⟩
 s_NOTHING:n.its_NOTHING.size≤sizeLine
 v_NOTHING:L2.Vals ([1,0,0,1].map L2.V.int) n.its_NOTHING.toList
 n_Walk:PySem.W.nsIn K mainGlobals "Walk" = some (some (.ref n.c_Walk))
 cl_Walk:wN K n.c_Walk
 na_Walk_stands:dS K n.c_Walk "stands"
 na_Walk_crossings:dS K n.c_Walk "crossings"
 mk_Walk:PySem.W.makesIn K n.c_Walk=true
 kp_Walk:PySem.W.keepIn K (.ref n.c_Walk)=true
abbrev iY:Stmt:=top 5
abbrev kM:Stmt:=top 10
abbrev qI:Stmt:=top 11
abbrev dC:Stmt:=top 12
abbrev fR:Stmt:=top 15
abbrev cG:Stmt:=(mM (top 17)).getD 1 (.Pass ⟨0,0,0,0⟩)
abbrev cP:Stmt:=(mM (top 17)).getD 2 (.Pass ⟨0,0,0,0⟩)
abbrev eY:Stmt:=(mM (top 17)).getD 0 (.Pass ⟨0,0,0,0⟩)
abbrev eD:Stmt:=(mM (top 17)).getD 3 (.Pass ⟨0,0,0,0⟩)
abbrev cz:Stmt:=(mM (top 17)).getD 4 (.Pass ⟨0,0,0,0⟩)
abbrev fM:Stmt:=top 18
abbrev jy:Stmt:=top 19
abbrev df:Stmt:=top 20
abbrev gZ:Stmt:=top 21
abbrev jz:Stmt:=top 22
abbrev fQ:Stmt:=top 24
abbrev kO:Stmt:=top 25
abbrev hV:Stmt:=top 26
abbrev eB:Stmt:=top 27
abbrev f6:Stmt:=top 28
abbrev kE:Stmt:=top 29
abbrev hZ:Stmt:=top 30
abbrev gV:Stmt:=top 31
abbrev g9:Stmt:=top 32
abbrev fI:Stmt:=top 33
abbrev gA:Stmt:=top 34
abbrev h7:Stmt:=top 35
abbrev cZ:Stmt:=top 36
abbrev c5:Stmt:=top 37
abbrev BQ:Stmt:=top 38
structure Txt (mg:Str→Option Value):Prop where
 abs:mg "abs" = none
 all:mg "all" = none
 bool:mg "bool" = none
 enumerate:mg "enumerate" = none
 int:mg "int" = none
 isinstance:mg "isinstance" = none
 len:mg "len" = none
 list:mg "list" = none
 max:mg "max" = none
 min:mg "min" = none
 range:mg "range" = none
 tuple:mg "tuple" = none
theorem o9:aI ["thing"] ["thing"] (ak iY):=⟨rfl,rfl,rfl,by decide +kernel,rfl,by decide +kernel,by decide +kernel⟩
theorem rd:aI ["a","b","c","d"] ["a","b","c","d"] (ak kM):=⟨rfl,rfl,rfl,by decide +kernel,rfl,by decide +kernel,by decide +kernel⟩
theorem wU:aI ["one","other","a","b","c","d","e","f","g","h"] ["one","other"] (ak qI):=⟨rfl,rfl,rfl,by decide +kernel,rfl,by decide +kernel,by decide +kernel⟩
theorem gW:aI ["one","other","p","q","r","s"] ["one","other"] (ak dC):=⟨rfl,rfl,rfl,by decide +kernel,rfl,by decide +kernel,by decide +kernel⟩
theorem kj:aI ["fan","gap","fractions","behind"] ["fan","gap"] (ak fR):=⟨rfl,rfl,rfl,by decide +kernel,rfl,by decide +kernel,by decide +kernel⟩
theorem fA:aI ["self","rim","waiting","one"] ["self","rim"] (ak cG):=⟨rfl,rfl,rfl,by decide +kernel,rfl,by decide +kernel,by decide +kernel⟩
theorem fz:aI ["self","rim","gap","mark","beyond","there"] ["self","rim","gap","mark"] (ak cP):=⟨rfl,rfl,rfl,by decide +kernel,rfl,by decide +kernel,by decide +kernel⟩
theorem lC:aI ["self","fan","rim","gap"] ["self","fan"] (ak eY):=⟨rfl,rfl,rfl,by decide +kernel,rfl,by decide +kernel,by decide +kernel⟩
theorem iR:aI ["self","one","crossed","stand"] ["self","one"] (ak eD):=⟨rfl,rfl,rfl,by decide +kernel,rfl,by decide +kernel,by decide +kernel⟩
theorem eZ:aI ["self","one","letter"] ["self","one","letter"] (ak cz):=⟨rfl,rfl,rfl,by decide +kernel,rfl,by decide +kernel,by decide +kernel⟩
theorem pH:aI ["fan","walk","halves","thirds"] ["fan"] (ak fM):=⟨rfl,rfl,rfl,by decide +kernel,rfl,by decide +kernel,by decide +kernel⟩
theorem pq:aI ["halves","thirds","first","met","known","at","here","behind"] ["halves","thirds","first"] (ak jy):=⟨rfl,rfl,rfl,by decide +kernel,rfl,by decide +kernel,by decide +kernel⟩
theorem lE:aI ["halves","thirds","met","numbers"] ["halves","thirds","met"] (ak df):=⟨rfl,rfl,rfl,by decide +kernel,rfl,by decide +kernel,by decide +kernel⟩
theorem nN:aI ["halves","thirds","place"] ["halves","thirds"] (ak gZ):=⟨rfl,rfl,rfl,by decide +kernel,rfl,by decide +kernel,by decide +kernel⟩
theorem pv:aI ["halves","thirds","first","met"] ["halves","thirds","first"] (ak jz):=⟨rfl,rfl,rfl,by decide +kernel,rfl,by decide +kernel,by decide +kernel⟩
theorem j8:aI ["_law_script","_law_k"] ["_law_script","_law_k"] (ak fQ):=⟨rfl,rfl,rfl,by decide +kernel,rfl,by decide +kernel,by decide +kernel⟩
theorem rH:aI ["_law_script","_law_at","_law_by","_law_prime","_law_cell","_law_big_here","_law_k","_law_one"] ["_law_script","_law_at"] (ak kO):=⟨rfl,rfl,rfl,by decide +kernel,rfl,by decide +kernel,by decide +kernel⟩
theorem mT:aI ["_law_rest","_law_many","_law_digit_here"] ["_law_rest","_law_many"] (ak hV):=⟨rfl,rfl,rfl,by decide +kernel,rfl,by decide +kernel,by decide +kernel⟩
theorem iT:aI ["_law_rest","_law_many","_law_row","_law_k","_law_at"] ["_law_rest","_law_many"] (ak eB):=⟨rfl,rfl,rfl,by decide +kernel,rfl,by decide +kernel,by decide +kernel⟩
theorem nJ:aI ["_law_rest","_law_many","_law_marks_here","_law_left","_law_gap","_law_way","_law_other"] ["_law_rest","_law_many"] (ak f6):=⟨rfl,rfl,rfl,by decide +kernel,rfl,by decide +kernel,by decide +kernel⟩
theorem si:aI ["_law_rest","_law_most","_law_great","_law_many"] ["_law_rest","_law_most","_law_great"] (ak kE):=⟨rfl,rfl,rfl,by decide +kernel,rfl,by decide +kernel,by decide +kernel⟩
theorem mW:aI ["_law_fractions_here","_law_row","_law_tiles_here","_law_i","_law_near","_law_far"] ["_law_fractions_here"] (ak hZ):=⟨rfl,rfl,rfl,by decide +kernel,rfl,by decide +kernel,by decide +kernel⟩
theorem pL:aI ["_law_fractions_here"] ["_law_fractions_here"] (ak gV):=⟨rfl,rfl,rfl,by decide +kernel,rfl,by decide +kernel,by decide +kernel⟩
theorem mY:aI ["_law_fan_here","_law_fractions_here","_law_marks_here","_law_gaps_here","_law_thirds","_law_one","_law_mid","_law_other","_law_halves","_law_i","_law_mark","_law_first"] ["_law_fan_here"] (ak g9):=⟨rfl,rfl,rfl,by decide +kernel,rfl,by decide +kernel,by decide +kernel⟩
theorem o7:aI ["_law_halves","_law_thirds","_law_first","_law_met","_law_at","_law_behind"] ["_law_halves","_law_thirds","_law_first"] (ak fI):=⟨rfl,rfl,rfl,by decide +kernel,rfl,by decide +kernel,by decide +kernel⟩
theorem lA:aI ["_law_fan_here","_law_halves","_law_thirds","_law_first"] ["_law_fan_here"] (ak gA):=⟨rfl,rfl,rfl,by decide +kernel,rfl,by decide +kernel,by decide +kernel⟩
theorem mP:aI ["_law_thing"] ["_law_thing"] (ak h7):=⟨rfl,rfl,rfl,by decide +kernel,rfl,by decide +kernel,by decide +kernel⟩
theorem g8:aI ["_law_found","_law_due","_law_row"] ["_law_found","_law_due"] (ak cZ):=⟨rfl,rfl,rfl,by decide +kernel,rfl,by decide +kernel,by decide +kernel⟩
theorem jD:aI ["_law_rest","_law_fractions_here","_law_marks_here"] ["_law_rest"] (ak c5):=⟨rfl,rfl,rfl,by decide +kernel,rfl,by decide +kernel,by decide +kernel⟩
theorem CA:aI ["_law_script","_law_k","_law_rest","_law_fan_here","_law_due","_law_turn"] ["_law_script"] (ak BQ):=⟨rfl,rfl,rfl,by decide +kernel,rfl,by decide +kernel,by decide +kernel⟩
section
variable {P:Program} {w:World} {K:Mn} {mg:Str→Option Value} {base:Heap}
theorem v9 (F:Df K mg "is_whole" iY ["thing"]) (T:Txt mg):Known P w K mg base 1 "is_whole" eG :=
 have nd:=o9.nd;F.known o9 vj fun fa cdv A outer s H E hr=>⟨lN,(ar (bf (BS (t5 T.isinstance T.int nZ (qv 0)) (B0 (BG (t5 T.isinstance T.bool qU (qv 0))))))),pI⟩
theorem x3 (F:Df K mg "turning" kM ["a","b","c","d"]):Known P w K mg base 1 "turning" dj :=
 have nd:=rd.nd;F.known rd xD fun fa cdv A outer s H E hr=>⟨oU,(ah (c7 (B8 hr.units (jP (fW (qv 0) (qv 3)) (fW (qv 1) (qv 2))) aC) (ar rj) bG) (ah (c7 (QW.t (Aa (yL (qv 2) aC) (vB (QW.t (u3 (p0 hr.units (qv 2) aC) (qB (yL (qv 3) aC))))))) (ar (bf (a9 (ab (nq (qv 0)) (ab (nq (qv 1)) (ab (nq (qv 2)) (ab (nq (qv 3)) ag))))))) bG) (ar (bf (a9 (ab (qv 0) (ab (qv 1) (ab (qv 2) (ab (qv 3) ag))))))))),yZ⟩
theorem DE (F:Df K mg "times" qI ["one","other"]) (k_turning:Known P w K mg base 1 "turning" dj):Known P w K mg base 2 "times" cO :=
 have nd:=wU.nd;F.known wU Bs fun fa cdv A outer s H E hr=>⟨uC,(ah (lW (qv 0) (gM rfl (aQ (aH 2 nd) (aQ (aH 3 nd) (aQ (aH 4 nd) (aQ (aH 5 nd) fq)))))) (ah (lW (qv 1) (gM rfl (aQ (aH 6 nd) (aQ (aH 7 nd) (aQ (aH 8 nd) (aQ (aH 9 nd) fq)))))) (ar (bf (aW k_turning (hr.mono (by decide)) (ab (dW (fW (qv 2) (qv 6)) (fW (qv 3) (qv 8))) (ab (dW (fW (qv 2) (qv 7)) (fW (qv 3) (qv 9))) (ab (dW (fW (qv 4) (qv 6)) (fW (qv 5) (qv 8))) (ab (dW (fW (qv 4) (qv 7)) (fW (qv 5) (qv 9))) ag))))))))),Dl⟩
theorem lY (F:Df K mg "turning_between" dC ["one","other"]) (k_turning:Known P w K mg base 1 "turning" dj):Known P w K mg base 2 "turning_between" bV :=
 have nd:=gW.nd;F.known gW k8 fun fa cdv A outer s H E hr=>⟨fi,(ah (lW (qv 0) (gM rfl (aQ (aH 2 nd) (aQ (aH 3 nd) fq)))) (ah (lW (qv 1) (gM rfl (aQ (aH 4 nd) (aQ (aH 5 nd) fq)))) (ah (c7 (p0 hr.units (jP (fW (qv 2) (qv 5)) (fW (qv 3) (qv 4))) (nq aC)) (ar (bf (aW k_turning (hr.mono (by decide)) (ab (qv 2) (ab (nq (qv 4)) (ab (qv 3) (ab (nq (qv 5)) ag))))))) bG) (ar (bf (aW k_turning (hr.mono (by decide)) (ab (qv 2) (ab (qv 4) (ab (qv 3) (ab (qv 5) ag)))))))))),l4⟩
theorem sj (F:Df K mg "gap_turning" fR ["fan","gap"]) (T:Txt mg) {n:Gh} (TC:Tc K w n) (k_turning_between:Known P w K mg base 2 "turning_between" bV):Known P w K mg base 3 "gap_turning" di :=
 have nd:=kj.nd;F.known kj p9 fun fa cdv A outer s H E hr=>⟨ie,(ah (bA 2 nd (cD (qv 0) aC (fun _ _=>rfl))) (ah (bA 3 nd (FZ (yL (dW (qv 1) aC) (hG T.len (ab (qv 2) ag))) (cD (qv 2) (dW (qv 1) aC) (fun _ _=>rfl)) (Gn (ns:=[1,0]) TC.g_TOP TC.l_TOP TC.s_TOP TC.v_TOP))) (ar (bf (aW k_turning_between (hr.mono (by decide)) (ab (cD (qv 2) (qv 1) (fun _ _=>rfl)) (ab (qv 3) ag))))))),rk⟩
theorem jk {n:Gh} (F:Mt K n.c_Walk "stand_within" "Walk.stand_within" cG ["self","rim"]) (T:Txt mg) (TC:Tc K w n) (k_times:Known P w K mg base 2 "times" cO):lO P w K mg base 3 n.c_Walk "stands" "crossings" "stand_within" br :=
 have nd:=fA.nd;F.uj fA iP fun fa cdv A outer s H E hr=>fun p=>⟨dm p,(gz (yN (fD 2 nd (JD (Hi (hG T.len (ab (qv 1) ag)) aC) (n8 (ab (cD (qv 1) aC (fun _ _=>rfl)) ag)) (n8 ag)))) (jY (EJ M6 (JS 2) (gz (yN (Fd (HW 2) (aH 3 nd))) (jY (Ft (f:="stands") (g:="crossings") 0 false hr.units TC.cl_Walk TC.na_Walk_stands (by decide) (qv 3) (gz (xF (f:="stands") (g:="crossings") 0 false hr.units TC.cl_Walk TC.na_Walk_stands (by decide) (qv 3) T.len) (gz (yN (iG 2 (aW k_times (hr.mono (by decide)) (ab (qv 3) (ab (Gn (ns:=[0,-1,1,-1]) TC.g_THIRD TC.l_THIRD TC.s_THIRD TC.v_THIRD) ag))))) (jY (yN (c7 (BO hr.units (qv 3) (qv 1)) (ar (iG 2 (aW k_times (hr.mono (by decide)) (ab (qv 3) (ab (Gn (ns:=[0,-1,1,0]) TC.g_HALF TC.l_HALF TC.s_HALF TC.v_HALF) ag))))) bG))))) (Kg bG))))))),jh p⟩
theorem jg {n:Gh} (F:Mt K n.c_Walk "stand_beyond" "Walk.stand_beyond" cP ["self","rim","gap","mark"]) (T:Txt mg) (TC:Tc K w n) (k_is_whole:Known P w K mg base 1 "is_whole" eG) (k_times:Known P w K mg base 2 "times" cO):lO P w K mg base 3 n.c_Walk "stands" "crossings" "stand_beyond" bz :=
 have nd:=fz.nd;F.uj fz iL fun fa cdv A outer s H E hr=>fun p=>⟨dA p,(gz (yN (bA 4 nd (aW k_times (hr.mono (by decide)) (ab (cD (qv 1) (qv 2) (fun _ _=>rfl)) (ab (Gn (ns:=[0,-1,1,0]) TC.g_HALF TC.l_HALF TC.s_HALF TC.v_HALF) ag))))) (jY (K9 (p0 hr.units (qv 3) ou) (gz (xF (f:="stands") (g:="crossings") 0 false hr.units TC.cl_Walk TC.na_Walk_stands (by decide) (qv 4) T.len) (jY (Gr (f:="stands") (g:="crossings") 0 true hr.units TC.cl_Walk TC.na_Walk_crossings (by decide) (aW k_times (hr.mono (by decide)) (ab (qv 4) (ab (Gn (ns:=[0,-1,1,-1]) TC.g_THIRD TC.l_THIRD TC.s_THIRD TC.v_THIRD) ag))) (a9 (ab (a9 (ab (qv 2) (ab aC ag))) (ab (qv 4) ag)))))) (gz (yN (bA 5 nd (FZ (oB (aW k_is_whole (hr.mono (by decide)) (ab (qv 3) ag))) (qv 3) (qv 2)))) (jY (Gr (f:="stands") (g:="crossings") 0 true hr.units TC.cl_Walk TC.na_Walk_crossings (by decide) (qv 4) (a9 (ab (a9 (ab (qv 5) (ab aC ag))) (ab (cD (qv 1) (qv 5) (fun _ _=>rfl)) ag))))))))),ja p⟩
theorem sk {n:Gh} (F:Mt K n.c_Walk "__init__" "Walk.__init__" eY ["self","fan"]) (T:Txt mg) (TC:Tc K w n) (hmg:mg "Walk" = some (.ref n.c_Walk)) (k_gap_turning:Known P w K mg base 3 "gap_turning" di) (kw_Walk__stand_beyond:lO P w K mg base 3 n.c_Walk "stands" "crossings" "stand_beyond" bz) (kw_Walk__stand_within:lO P w K mg base 3 n.c_Walk "stands" "crossings" "stand_within" br):qQ P w K mg base 4 "Walk" n.c_Walk "stands" "crossings" dk :=
 have nd:=lC.nd;F.x9 lC TC.mk_Walk TC.kp_Walk hmg qa fun fa cdv A outer s H E hr=>⟨ic,(Hm (f:="stands") (g:="crossings") TC.cl_Walk TC.na_Walk_stands TC.na_Walk_crossings (by decide) fun p=>(gz (yN (uo 2 nd (N':=["gap","fan"]) (ix:=[1]) rfl (bI.of (ak eY) rfl rfl (by decide +kernel) (by decide +kernel) (by decide +kernel) (fun j i h=>match j,h with | 0,h=>by cases h;exact⟨_,rfl,rfl,by decide,rfl⟩ | _ + 1,h=>by simp at h) rfl) (by decide) rfl rfl rfl T.range (ab (hG T.len (ab (cD (qv 1) aC (fun _ _=>rfl)) ag)) ag) (fun C s H fp pins=>cY) (fun C s H fp pins=>(aW k_gap_turning (hr.mono (by decide)) (ab (qv 1) (ab (qv 0) ag)))))) (gz (Ae (f:="stands") (g:="crossings") 0 TC.cl_Walk kw_Walk__stand_within (hr.mono (by decide)) rfl (ab (qv 2) ag)) (jY (EK M6 rfl rfl T.range (ab (hG T.len (ab (qv 2) ag)) ag) (aH 3 nd) (jY (Ae (f:="stands") (g:="crossings") 0 TC.cl_Walk kw_Walk__stand_beyond (hr.mono (by decide)) rfl (ab (qv 2) (ab (qv 3) (ab (cD (cD (qv 1) aC (fun _ _=>rfl)) (qv 3) (fun _ _=>rfl)) ag)))))))))),fun ds R h p=>rV p ds R h⟩
theorem mL {n:Gh} (F:Mt K n.c_Walk "settled" "Walk.settled" eD ["self","one"]) (TC:Tc K w n):my P w K mg base 1 n.c_Walk "settled" bC :=
 have nd:=iR.nd;F.C3 iR mH fun fa cdv A outer s H E hr=>⟨gn,(ah (c7 (Jg hr.units (qv 1) (oA TC.n_Walk TC.cl_Walk TC.na_Walk_stands (qv 0))) (ar (bf (a9 (ab (a9 ag) (ab (qv 1) ag))))) bG) (ah (lW (qM hr.units (oA TC.n_Walk TC.cl_Walk TC.na_Walk_crossings (qv 0)) (qv 1) (fun _ _=>rfl)) (gM rfl (aQ (aH 2 nd) (aQ (aH 3 nd) fq)))) (ar (bf (a9 (ab (a9 (ab (qv 2) ag)) (ab (qv 3) ag))))))),oX⟩
theorem iE {n:Gh} (F:Mt K n.c_Walk "number_behind" "Walk.number_behind" cz ["self","one","letter"]) (TC:Tc K w n) (k_times:Known P w K mg base 2 "times" cO) (km_Walk__settled:my P w K mg base 1 n.c_Walk "settled" bC):my P w K mg base 3 n.c_Walk "number_behind" aR :=
 have nd:=eZ.nd;F.C3 eZ iK fun fa cdv A outer s H E hr=>⟨dB,(ar (bf (qM hr.units (oA TC.n_Walk TC.cl_Walk TC.na_Walk_stands (qv 0)) (cD (qz TC.n_Walk TC.cl_Walk km_Walk__settled (hr.mono (by decide)) (qv 0) (ab (aW k_times (hr.mono (by decide)) (ab (qv 1) (ab (qv 2) ag))) ag)) aC (fun _ _=>rfl)) (fun _ _=>rfl)))),ji⟩
theorem wV (F:Df K mg "table_of" fM ["fan"]) {n:Gh} (TC:Tc K w n) (k_numbered:Known P w K mg base 2 "numbered" fK) (ki_Walk__init:qQ P w K mg base 4 "Walk" n.c_Walk "stands" "crossings" dk) (km_Walk__number_behind:my P w K mg base 3 n.c_Walk "number_behind" aR) (km_Walk__settled:my P w K mg base 1 n.c_Walk "settled" bC):Known P w K mg base 6 "table_of" fP :=
 have nd:=pH.nd;F.known pH vA fun fa cdv A outer s H E hr=>⟨lT,(ah (bA 1 nd (Hk TC.n_Walk ki_Walk__init (by decide) (hr.mono (by decide)) (ab (qv 0) ag))) (ah (pK 2 nd (N':=["one","walk"]) (ix:=[1]) rfl (bI.of (ak fM) rfl rfl (by decide +kernel) (by decide +kernel) (by decide +kernel) (fun j i h=>match j,h with | 0,h=>by cases h;exact⟨_,rfl,rfl,by decide,rfl⟩ | _ + 1,h=>by simp at h) rfl) (by decide) rfl rfl (oA TC.n_Walk TC.cl_Walk TC.na_Walk_stands (qv 1)) (fun C s H fp pins=>cY) (fun C s H fp pins=>(qz TC.n_Walk TC.cl_Walk km_Walk__number_behind (hr.mono (by decide)) (qv 1) (ab (qv 0) (ab (Gn (ns:=[0,-1,1,0]) TC.g_HALF TC.l_HALF TC.s_HALF TC.v_HALF) ag))))) (ah (pK 3 nd (N':=["one","walk"]) (ix:=[1]) rfl (bI.of (ak fM) rfl rfl (by decide +kernel) (by decide +kernel) (by decide +kernel) (fun j i h=>match j,h with | 0,h=>by cases h;exact⟨_,rfl,rfl,by decide,rfl⟩ | _ + 1,h=>by simp at h) rfl) (by decide) rfl rfl (oA TC.n_Walk TC.cl_Walk TC.na_Walk_stands (qv 1)) (fun C s H fp pins=>cY) (fun C s H fp pins=>(qz TC.n_Walk TC.cl_Walk km_Walk__number_behind (hr.mono (by decide)) (qv 1) (ab (qv 0) (ab (Gn (ns:=[0,-1,1,-1]) TC.g_THIRD TC.l_THIRD TC.s_THIRD TC.v_THIRD) ag))))) (ar (bf (aW k_numbered (hr.mono (by decide)) (ab (qv 2) (ab (qv 3) (ab (qM hr.units (oA TC.n_Walk TC.cl_Walk TC.na_Walk_stands (qv 1)) (cD (qz TC.n_Walk TC.cl_Walk km_Walk__settled (hr.mono (by decide)) (qv 1) (ab (Gn (ns:=[1,0,0,1]) TC.g_NOTHING TC.l_NOTHING TC.s_NOTHING TC.v_NOTHING) ag)) aC (fun _ _=>rfl)) (fun _ _=>rfl)) ag))))))))),wo⟩
theorem wL (F:Df K mg "met_from" jy ["halves","thirds","first"]) (T:Txt mg):Known P w K mg base 1 "met_from" fL :=
 have nd:=pq.nd;F.known pq vk fun fa cdv A outer s H E hr=>⟨lZ,(ah (fD 3 nd (n8 (ab (qv 2) ag))) (ah (AV 4 nd (qv 2) Eu Eu) (ah (bA 5 nd aC) (ah (mJ M6 (yL (qv 5) (gN 3 T.len)) (ah (bA 6 nd (fj 3 (qv 5) (fun _ _=>rfl))) (ah (rb M6 rfl (a9 (ab (cD (qv 0) (qv 6) (fun _ _=>rfl)) (ab (cD (qv 1) (qv 6) (fun _ _=>rfl)) ag))) (aH 7 nd) (ar (c7 (Cn 4 hr.units (qv 7)) (ah (cF 4 hr.units (qv 7) Eu) (ar (iG 3 (qv 7)))) bG))) (ar (EB 5 nd aC))))) (ar (iJ 3 (bf (qv 3)))))))),xR⟩
theorem sY (F:Df K mg "renumbered" df ["halves","thirds","met"]) (T:Txt mg):Known P w K mg base 1 "renumbered" dN :=
 have nd:=lE.nd;F.known lE rW fun fa cdv A outer s H E hr=>⟨jm,(ah (wR (N':=["number","place"]) (ix:=[]) 3 nd hr.units rfl (bI.of (ak df) rfl rfl (by decide +kernel) (by decide +kernel) (by decide +kernel) (fun j i h=>by simp at h) rfl) (by decide) rfl rfl rfl rfl rfl T.enumerate (ab (qv 2) ag) (fun C s H fp pins=>cY) (fun C s H fp pins=>(qv 1)) (fun C s H fp pins=>(qv 0))) (ah (cF 3 hr.units Kr Kr) (ar (ma 3 (bf (a9 (ab (fJ T.tuple (ab (QF.e (kK (N':=["place","halves","numbers"]) (ix:=[0,3]) rfl (bI.of (ak df) rfl rfl (by decide +kernel) (by decide +kernel) (by decide +kernel) (fun j i h=>match j,h with | 0,h=>by cases h;exact⟨_,rfl,rfl,by decide,rfl⟩ | 1,h=>by cases h;exact⟨_,rfl,rfl,by decide,rfl⟩ | _ + 2,h=>by simp at h) rfl) (by decide) rfl rfl (qv 2) (fun C s H fp pins=>cY) (fun C s H fp pins=>(qM hr.units (qv 2) (cD (qv 1) (qv 0) (fun _ _=>rfl)) (fun _ _=>rfl))))) ag)) (ab (fJ T.tuple (ab (QF.e (kK (N':=["place","thirds","numbers"]) (ix:=[1,3]) rfl (bI.of (ak df) rfl rfl (by decide +kernel) (by decide +kernel) (by decide +kernel) (fun j i h=>match j,h with | 0,h=>by cases h;exact⟨_,rfl,rfl,by decide,rfl⟩ | 1,h=>by cases h;exact⟨_,rfl,rfl,by decide,rfl⟩ | _ + 2,h=>by simp at h) rfl) (by decide) rfl rfl (qv 2) (fun C s H fp pins=>cY) (fun C s H fp pins=>(qM hr.units (qv 2) (cD (qv 1) (qv 0) (fun _ _=>rfl)) (fun _ _=>rfl))))) ag)) ag)))))))),sU⟩
theorem uL (F:Df K mg "lead_back" gZ ["halves","thirds"]) (T:Txt mg):Known P w K mg base 1 "lead_back" eL :=
 have nd:=nN.nd;F.known nN tE fun fa cdv A outer s H E hr=>⟨jK,(ah (kd M6 rfl rfl T.range (ab (hG T.len (ab (qv 0) ag)) ag) (aH 2 nd) (ar (c7 (QW.t (Aa (B8 hr.units (cD (qv 0) (cD (qv 0) (qv 2) (fun _ _=>rfl)) (fun _ _=>rfl)) (qv 2)) (vB (B8 hr.units (cD (qv 1) (cD (qv 1) (cD (qv 1) (qv 2) (fun _ _=>rfl)) (fun _ _=>rfl)) (fun _ _=>rfl)) (qv 2))))) (ar (bf Eu)) bG))) (ar (bf Eu))),vy⟩
theorem wd (F:Df K mg "numbered" jz ["halves","thirds","first"]) (T:Txt mg) (k_lead_back:Known P w K mg base 1 "lead_back" eL) (k_met_from:Known P w K mg base 1 "met_from" fL) (k_renumbered:Known P w K mg base 1 "renumbered" dN):Known P w K mg base 2 "numbered" fK :=
 have nd:=pv.nd;F.known pv ur fun fa cdv A outer s H E hr=>⟨lX,(ah (c7 (qX (oB (aW k_lead_back (hr.mono (by decide)) (ab (qv 0) (ab (qv 1) ag))))) (ar rj) bG) (ah (bA 3 nd (aW k_met_from (hr.mono (by decide)) (ab (qv 0) (ab (qv 1) (ab (qv 2) ag))))) (ah (c7 (yL (hG T.len (ab (qv 3) ag)) (hG T.len (ab (qv 0) ag))) (ar rj) bG) (ar (bf (aW k_renumbered (hr.mono (by decide)) (ab (qv 0) (ab (qv 1) (ab (qv 3) ag))))))))),xE⟩
theorem rJ (F:Df K mg "_law_cell_at" fQ ["_law_script","_law_k"]) (T:Txt mg):Known P w K mg base 1 "_law_cell_at" b9 :=
 have nd:=j8.nd;F.known j8 pS fun fa cdv A outer s H E hr=>⟨lL,(ah (c7 (yL (qv 1) (hG T.len (ab (qv 0) ag))) (ar (bf (cD (qv 0) (qv 1) (fun _ _=>rfl)))) bG) (ar (bf aC))),qO⟩
theorem yc (F:Df K mg "_law_big" kO ["_law_script","_law_at"]) (T:Txt mg) (k_law_cell_at:Known P w K mg base 1 "_law_cell_at" b9):Known P w K mg base 2 "_law_big" gG :=
 have nd:=rH.nd;F.known rH wO fun fa cdv A outer s H E hr=>⟨oI,(ah (bA 2 nd (a9 (ab aC (ab aC (ab aC (ab aC (ab aC (ab aC (ab aC (ab aC ag)))))))))) (ah (bA 3 nd (a9 (ab aC (ab aC (ab aC (ab aC (ab aC (ab aC (ab aC (ab aC ag)))))))))) (ah (bA 4 nd (aW k_law_cell_at (hr.mono (by decide)) (ab (qv 0) (ab (qv 1) ag)))) (ah (c7 (LP (qv 4) (Gs aC aC)) (ar (bf (qv 4))) bG) (ah (bA 5 nd aC) (ah (kd M6 rfl rfl T.range (ab aC ag) (aH 6 nd) (ah (bA 7 nd (dW (dW (mE (aW k_law_cell_at (hr.mono (by decide)) (ab (qv 0) (ab (dW (qv 1) (mE (qv 6) aC)) ag))) (Gs aC aC)) aC) (fW (qv 6) (qv 6)))) (ar (bA 5 nd (dW (fW (qv 5) aC) (mE (mE (fW (qv 7) (cD (qv 2) (mE (qv 6) aC) (fun _ _=>rfl))) (cD (qv 3) (mE (qv 6) aC) (fun _ _=>rfl))) aC)))))) (ar (bf (qv 5))))))))),yo⟩
theorem vc (F:Df K mg "_law_digit" hV ["_law_rest","_law_many"]):Known P w K mg base 1 "_law_digit" aS :=
 have nd:=mT.nd;F.known mT tD fun fa cdv A outer s H E hr=>⟨j9,(ah (bA 2 nd (mE (DL (qv 0)) (qv 1))) (ah (yk (qv 0) (IG (DL (qv 0)) (qv 1))) (ar (bf (qv 2))))),uU⟩
theorem oi (F:Df K mg "_law_fractions" eB ["_law_rest","_law_many"]) (T:Txt mg) (k_law_digit:Known P w K mg base 1 "_law_digit" aS):Known P w K mg base 2 "_law_fractions" bD :=
 have nd:=iT.nd;F.known iT mU fun fa cdv A outer s H E hr=>⟨gh,(ah (fD 2 nd (n8 (ab (a9 (ab (nq aC) (ab aC ag))) (ab (a9 (ab aC (ab aC ag))) (ab (a9 (ab aC (ab aC ag))) ag))))) (ah (kd M6 rfl rfl T.range (ab (jP (qv 1) aC) ag) (aH 3 nd) (ah (bA 4 nd (aW k_law_digit (hr.mono (by decide)) (ab (qv 0) (ab (jP (gN 2 T.len) aC) ag)))) (ar (Bb 2 (dW (qv 4) aC) (a9 (ab (dW (cD (fj 2 (qv 4) (fun _ _=>rfl)) aC (fun _ _=>rfl)) (cD (fj 2 (dW (qv 4) aC) (fun _ _=>rfl)) aC (fun _ _=>rfl))) (ab (dW (cD (fj 2 (qv 4) (fun _ _=>rfl)) aC (fun _ _=>rfl)) (cD (fj 2 (dW (qv 4) aC) (fun _ _=>rfl)) aC (fun _ _=>rfl))) ag))))))) (ar (iJ 2 (bf (fJ T.tuple (ab (dW (lV (ab (a9 (ab aC (ab aC ag))) ag)) (Lh (qv 2) (zF aC) (zF (jP (hG T.len (ab (qv 2) ag)) aC)))) ag))))))),oh⟩
theorem uV (F:Df K mg "_law_marks" f6 ["_law_rest","_law_many"]) (T:Txt mg) (k_law_digit:Known P w K mg base 1 "_law_digit" aS):Known P w K mg base 2 "_law_marks" cJ :=
 have nd:=nJ.nd;F.known nJ sO fun fa cdv A outer s H E hr=>⟨j6,(ah (pP 2 nd (N':=["_law_gap"]) (ix:=[]) rfl (bI.of (ak f6) rfl rfl (by decide +kernel) (by decide +kernel) (by decide +kernel) (fun j i h=>by simp at h) rfl) (by decide) rfl rfl rfl T.range (ab (qv 1) ag) (fun C s H fp pins=>cY) (fun C s H fp pins=>ou)) (ah (fD 3 nd (Cr T.list T.range (ab (qv 1) ag))) (ah (mJ M6 (Au 3 hr.units) (ah (uh 4 3 nd aC) (ah (bA 5 nd (aW k_law_digit (hr.mono (by decide)) (ab (qv 0) (ab aC ag)))) (ah (c7 (p0 hr.units (qv 5) aC) (ar (y9 2 (qv 4) ou)) bG) (ar (c7 (QW.t (u3 (Hi (qv 5) aC) (qB (Au 3 hr.units)))) (ah (uh 6 3 nd (aW k_law_digit (hr.mono (by decide)) (ab (qv 0) (ab (gN 3 T.len) ag)))) (ah (y9 2 (qv 4) (qv 6)) (ar (y9 2 (qv 6) (qv 4))))) bG)))))) (ah (iJ 2 (c7 (QW.t (u3 (p0 hr.units (qv 1) aC) (qB (BO hr.units ou (qv 2))))) (ar (bA 2 nd (lV (ab ou (ab ou ag))))) bG)) (ar (bf (fJ T.tuple (ab (qv 2) ag)))))))),ui⟩
theorem yG (F:Df K mg "_law_fan" kE ["_law_rest","_law_most","_law_great"]) (k_law_digit:Known P w K mg base 1 "_law_digit" aS) (k_law_fractions:Known P w K mg base 2 "_law_fractions" bD) (k_law_marks:Known P w K mg base 2 "_law_marks" cJ):Known P w K mg base 3 "_law_fan" gK :=
 have nd:=si.nd;F.known si xC fun fa cdv A outer s H E hr=>⟨nS,(ah (bA 3 nd (dW aC (aW k_law_digit (hr.mono (by decide)) (ab (qv 0) (ab (jP (qv 1) aC) ag))))) (ah (c7 (p0 hr.units (aW k_law_digit (hr.mono (by decide)) (ab (qv 0) (ab aC ag))) aC) (ar (bA 3 nd (dW aC (aW k_law_digit (hr.mono (by decide)) (ab (qv 0) (ab (jP (qv 2) aC) ag)))))) bG) (ar (bf (a9 (ab (aW k_law_fractions (hr.mono (by decide)) (ab (qv 0) (ab (qv 3) ag))) (ab (aW k_law_marks (hr.mono (by decide)) (ab (qv 0) (ab (qv 3) ag))) ag))))))),yh⟩
theorem uT (F:Df K mg "_law_tiles" hZ ["_law_fractions_here"]) (T:Txt mg):Known P w K mg base 1 "_law_tiles" eJ :=
 have nd:=mW.nd;F.known mW sZ fun fa cdv A outer s H E hr=>⟨j7,(ah (fD 1 nd (AW T.list (ab (qv 0) ag))) (ah (fD 2 nd (n8 ag)) (ah (mJ M6 (Hi (gN 1 T.len) aC) (ar (DS M6 rfl rfl T.range (ab aC (ab (gN 1 T.len) ag)) (aH 3 nd) (ah (bA 4 nd (fj 1 (jP (qv 3) aC) (fun _ _=>rfl))) (ah (bA 5 nd (fj 1 (mE (dW (qv 3) aC) (gN 1 T.len)) (fun _ _=>rfl))) (ar (c7 (QW.t (u3 (B8 hr.units (fj 1 (qv 3) (fun _ _=>rfl)) (a9 (ab aC (ab aC ag)))) (qB (p0 hr.units (JR T.abs (ab (jP (fW (cD (qv 4) aC (fun _ _=>rfl)) (cD (qv 5) aC (fun _ _=>rfl))) (fW (cD (qv 4) aC (fun _ _=>rfl)) (cD (qv 5) aC (fun _ _=>rfl)))) ag)) aC)))) (ah (iG 2 (a9 (ab (qv 4) (ab (fj 1 (qv 3) (fun _ _=>rfl)) (ab (qv 5) ag))))) (ah (Fv 1 (qv 3)) (ar CD))) bG))))))) (ar (iJ 2 (bf (qv 2))))))),vz⟩
theorem xp (F:Df K mg "_law_gaps" gV ["_law_fractions_here"]) (T:Txt mg):Known P w K mg base 1 "_law_gaps" fF :=
 have nd:=pL.nd;F.known pL vN fun fa cdv A outer s H E hr=>⟨l8,(ar (bf (QF.e (BE (N':=["_law_i","_law_fractions_here"]) (ix:=[0]) rfl (bI.of (ak gV) rfl rfl (by decide +kernel) (by decide +kernel) (by decide +kernel) (fun j i h=>match j,h with | 0,h=>by cases h;exact⟨_,rfl,rfl,by decide,rfl⟩ | _ + 1,h=>by simp at h) rfl) (by decide) rfl rfl rfl T.range (ab (hG T.len (ab (qv 0) ag)) ag) (fun C s H fp pins=>cY) (fun C s H fp pins=>(a9 (ab (cD (qv 1) (qv 0) (fun _ _=>rfl)) (ab (cD (qv 1) (mE (dW (qv 0) aC) (hG T.len (ab (qv 1) ag))) (fun _ _=>rfl)) ag)))))))),wj⟩
theorem vG (F:Df K mg "_law_links" g9 ["_law_fan_here"]) (T:Txt mg) (k_law_gaps:Known P w K mg base 1 "_law_gaps" fF) (k_law_tiles:Known P w K mg base 1 "_law_tiles" eJ):Known P w K mg base 2 "_law_links" dF :=
 have nd:=mY.nd;F.known mY sT fun fa cdv A outer s H E hr=>⟨jW,(ah (lW (qv 0) (gM rfl (aQ (aH 1 nd) (aQ (aH 2 nd) fq)))) (ah (bA 3 nd (aW k_law_gaps (hr.mono (by decide)) (ab (qv 1) ag))) (ah (uf 4 nd) (ah (rb M6 rfl (aW k_law_tiles (hr.mono (by decide)) (ab (qv 1) ag)) (gM rfl (aQ (aH 5 nd) (aQ (aH 6 nd) (aQ (aH 7 nd) fq)))) (ah (cF 4 hr.units (a9 (ab (qv 5) (ab (qv 6) ag))) (a9 (ab (qv 6) (ab (qv 7) ag)))) (ah (cF 4 hr.units (a9 (ab (qv 6) (ab (qv 7) ag))) (a9 (ab (qv 7) (ab (qv 5) ag)))) (ar (cF 4 hr.units (a9 (ab (qv 7) (ab (qv 5) ag))) (a9 (ab (qv 5) (ab (qv 6) ag)))))))) (ah (uf 8 nd) (ah (A9 4 M6 rfl (gM rfl (aQ (aH 5 nd) (aQ (aH 7 nd) fq))) (ar (cF 8 hr.units (a9 (ab (qv 5) (ab (qv 7) ag))) (a9 (ab (qv 7) (ab (qv 5) ag)))))) (ah (Fp M6 rfl rfl T.enumerate (ab (qv 2) ag) (gM rfl (aQ (aH 9 nd) (aQ (aH 10 nd) fq))) (ar (c7 (p0 hr.units (qv 10) ou) (ah (cF 4 hr.units (qv 9) (qv 9)) (ah (cF 8 hr.units (qv 9) (cD (qv 3) (qv 9) (fun _ _=>rfl))) (ar (cF 8 hr.units (cD (qv 3) (qv 9) (fun _ _=>rfl)) (qv 9))))) (ar (c7 (p0 hr.units (qv 10) ou) (ar (cF 8 hr.units (cD (qv 3) (qv 9) (fun _ _=>rfl)) (cD (qv 3) (qv 9) (fun _ _=>rfl)))) (ar (cF 8 hr.units (cD (qv 3) (qv 9) (fun _ _=>rfl)) (cD (qv 3) (qv 10) (fun _ _=>rfl))))))))) (ah (bA 11 nd (a9 (ab (a9 (ab aC (ab aC ag))) (ab (a9 (ab aC (ab aC ag))) ag)))) (ah (ma 4 (c7 (p0 hr.units (hG T.len (ab (qv 1) ag)) aC) (ah (bA 11 nd (cD (lV (ab aC (ab aC ag))) (vt T.int (ab (Jj hr.units (cD (qv 2) aC (fun _ _=>rfl)) ou) ag)) (fun _ _=>rfl))) (ar (rb M6 rfl (lV (ab aC (ab aC ag))) (aH 9 nd) (ar (c7 (p0 hr.units (cD (qv 2) (qv 9) (fun _ _=>rfl)) ou) (ar (cF 8 hr.units (qv 9) (cD (lV (ab (qv 9) (ab (jP aC (qv 9)) ag))) (vt T.int (ab (JH hr.units (cD (qv 2) (jP aC (qv 9)) (fun _ _=>rfl)) ou) ag)) (fun _ _=>rfl)))) bG))))) (ar (c7 (Ih hr.units (qv 11) (qv 4)) (ar (bA 11 nd (DA 8 hr.units (cD (qv 3) (nq aC) (fun _ _=>rfl)) (fun _ _=>rfl)))) bG)))) (ar (ma 8 (bf (a9 (ab (qv 8) (ab (qv 4) (ab (qv 11) ag)))))))))))))))),ve⟩
theorem xJ (F:Df K mg "_law_anew" fI ["_law_halves","_law_thirds","_law_first"]) (T:Txt mg):Known P w K mg base 1 "_law_anew" eF :=
 have nd:=o7.nd;F.known o7 uP fun fa cdv A outer s H E hr=>⟨mj,(ah (fD 3 nd (n8 (ab (qv 2) ag))) (ah (bA 4 nd aC) (ah (mJ M6 (yL (qv 4) (gN 3 T.len)) (ah (rb M6 rfl (lV (ab (uZ hr.units (qv 0) (fj 3 (qv 4) (fun _ _=>rfl)) (fun _ _=>rfl)) (ab (uZ hr.units (qv 1) (fj 3 (qv 4) (fun _ _=>rfl)) (fun _ _=>rfl)) ag))) (aH 5 nd) (ar (c7 (BK 3 hr.units (qv 5)) (ar (iG 3 (qv 5))) bG))) (ar (bA 4 nd (dW (qv 4) aC))))) (ar (iJ 3 (bf (a9 (ab (fJ T.tuple (ab (QF.e (kK (N':=["_law_one","_law_halves","_law_met"]) (ix:=[0,3]) rfl (bI.of (ak fI) rfl rfl (by decide +kernel) (by decide +kernel) (by decide +kernel) (fun j i h=>match j,h with | 0,h=>by cases h;exact⟨_,rfl,rfl,by decide,rfl⟩ | 1,h=>by cases h;exact⟨_,rfl,rfl,by decide,rfl⟩ | _ + 2,h=>by simp at h) rfl) (by decide) rfl rfl (qv 3) (fun C s H fp pins=>cY) (fun C s H fp pins=>(zl hr.units (qv 2) (uZ hr.units (qv 1) (qv 0) (fun _ _=>rfl)))))) ag)) (ab (fJ T.tuple (ab (QF.e (kK (N':=["_law_one","_law_thirds","_law_met"]) (ix:=[1,3]) rfl (bI.of (ak fI) rfl rfl (by decide +kernel) (by decide +kernel) (by decide +kernel) (fun j i h=>match j,h with | 0,h=>by cases h;exact⟨_,rfl,rfl,by decide,rfl⟩ | 1,h=>by cases h;exact⟨_,rfl,rfl,by decide,rfl⟩ | _ + 2,h=>by simp at h) rfl) (by decide) rfl rfl (qv 3) (fun C s H fp pins=>cY) (fun C s H fp pins=>(zl hr.units (qv 2) (uZ hr.units (qv 1) (qv 0) (fun _ _=>rfl)))))) ag)) ag))))))))),v8⟩
theorem sX (F:Df K mg "_law_table" gA ["_law_fan_here"]) (k_law_anew:Known P w K mg base 1 "_law_anew" eF) (k_law_links:Known P w K mg base 2 "_law_links" dF):Known P w K mg base 3 "_law_table" dO :=
 have nd:=lA.nd;F.known lA sC fun fa cdv A outer s H E hr=>⟨vF,(ah (lW (aW k_law_links (hr.mono (by decide)) (ab (qv 0) ag)) (gM rfl (aQ (aH 1 nd) (aQ (aH 2 nd) (aQ (aH 3 nd) fq))))) (ar (bf (aW k_law_anew (hr.mono (by decide)) (ab (qv 1) (ab (qv 2) (ab (qv 3) ag))))))),sV⟩
theorem vp (F:Df K mg "_law_whole" h7 ["_law_thing"]) (T:Txt mg):Known P w K mg base 1 "_law_whole" eO :=
 have nd:=mP.nd;F.known mP sJ fun fa cdv A outer s H E hr=>⟨pJ,(ar (bf (BS (t5 T.isinstance T.int nZ (qv 0)) (B0 (BG (t5 T.isinstance T.bool qU (qv 0))))))),vM⟩
theorem mK (F:Df K mg "_law_are_places" cZ ["_law_found","_law_due"]) (T:Txt mg) (k_law_whole:Known P w K mg base 1 "_law_whole" eO):Known P w K mg base 2 "_law_are_places" cf :=
 have nd:=g8.nd;F.known g8 lR fun fa cdv A outer s H E hr=>⟨fO,(ah (c7 (QW.t (Aa (qX (oB (t5 T.isinstance T.tuple jL (qv 0)))) (vB (B8 hr.units (hG T.len (ab (qv 0) ag)) aC)))) (ar (bf Eu)) bG) (ah (rb M6 rfl (qv 0) (aH 2 nd) (ar (c7 (QW.t (Aa (qX (oB (t5 T.isinstance T.tuple jL (qv 2)))) (vB (qX (oB (Jn T.all (ab (QF.e (kK (N':=["_law_place"]) (ix:=[]) rfl (bI.of (ak cZ) rfl rfl (by decide +kernel) (by decide +kernel) (by decide +kernel) (fun j i h=>by simp at h) rfl) (by decide) rfl rfl (qv 2) (fun C s H fp pins=>cY) (fun C s H fp pins=>(aW k_law_whole (hr.mono (by decide)) (ab (qv 0) ag))))) ag))))))) (ar (bf Eu)) bG))) (ar (bf (JH hr.units (qv 0) (qv 1)))))),m4⟩
theorem pY (F:Df K mg "_law_full_fan" c5 ["_law_rest"]) (T:Txt mg) (k_law_fractions:Known P w K mg base 2 "_law_fractions" bD) (k_law_marks:Known P w K mg base 2 "_law_marks" cJ):Known P w K mg base 3 "_law_full_fan" c4 :=
 have nd:=jD.nd;F.known jD oO fun fa cdv A outer s H E hr=>⟨gO,(ah (bA 1 nd (aW k_law_fractions (hr.mono (by decide)) (ab (qv 0) (ab aC ag)))) (ah (zf 2 nd (N':=["_law_mark"]) (ix:=[]) rfl (bI.of (ak c5) rfl rfl (by decide +kernel) (by decide +kernel) (by decide +kernel) (fun j i h=>by simp at h) rfl) (by decide) rfl rfl (aW k_law_marks (hr.mono (by decide)) (ab (qv 0) (ab aC ag))) (fun C s H fp pins=>cY) (fun C s H fp pins=>(qv 0))) (ar (bf (a9 (ab (qv 1) (ab (fJ T.tuple (ab (QF.e (kK (N':=["_law_mark"]) (ix:=[]) rfl (bI.of (ak c5) rfl rfl (by decide +kernel) (by decide +kernel) (by decide +kernel) (fun j i h=>by simp at h) rfl) (by decide) rfl rfl (qv 2) (fun C s H fp pins=>cY) (fun C s H fp pins=>(cD (lV (ab ou (ab (qv 0) ag))) (vt T.int (ab (Jj hr.units (qv 0) ou) ag)) (fun _ _=>rfl))))) ag)) ag))))))),pX⟩
theorem Hg {fa:Addr} {fd:FuncData} (F:pU K "law" "law" BQ fa fd) (T:Txt mg) (k_law_are_places:Known P w K mg base 2 "_law_are_places" cf) (k_law_big:Known P w K mg base 2 "_law_big" gG) (k_law_digit:Known P w K mg base 1 "_law_digit" aS) (k_law_fan:Known P w K mg base 3 "_law_fan" gK) (k_law_full_fan:Known P w K mg base 3 "_law_full_fan" c4) (k_law_tableX:Known P w K mg base 3 "_law_table" dO) (k_table_of:Known P w K mg base 6 "table_of" fP):kW P w K mg base vJ 7 fa fd ["_law_script"] (Ij K (BB 63)) :=
 have nd:=CA.nd;pU.Hj F CA FC fun cdv A outer s H E hr=>⟨DV,(ah (kd M6 rfl rfl T.range (ab (Jl T.max (ab aC (ab (Jf T.min (ab aC (ab (hG T.len (ab (qv 0) ag)) ag))) ag))) ag) (aH 1 nd) (ah (yA 2 nd (aW k_law_big (hr.mono (by decide)) (ab (qv 0) (ab (qv 1) ag)))) (ah (bA 3 nd (aW k_law_fan (hr.mono (by decide)) (ab (qv 2) (ab aC (ab aC ag))))) (ah (c7 (p0 hr.units (aW k_law_digit (hr.mono (by decide)) (ab (qv 2) (ab aC ag))) aC) (ar (bA 3 nd (aW k_law_full_fan (hr.mono (by decide)) (ab (qv 2) ag)))) bG) (ah (bA 4 nd (aW k_law_tableX (hr.mono (by decide)) (ab (qv 3) ag))) (ar (kd M6 rfl rfl T.range (ab aC ag) (aH 5 nd) (ar (c7 (qX (oB (aW k_law_are_places (hr.mono (by decide)) (ab (aW k_table_of (hr.mono (by decide)) (ab (qv 3) ag)) (ab (qv 4) ag))))) (ar (bf Eu)) bG))))))))) (ar (bf Eu))),Im⟩
end
theorem all_mk {l:PySem.W.OpenLaw} {w:World} {K:Mn} {h:Heap} {mg:Str→Option Value} {fa:Addr} {c_Walk:Addr} {a_TOP:Addr} {its_TOP:Array Value} {n_TOP:Nat} {sl_TOP:Array (Option Value)} {a_THIRD:Addr} {its_THIRD:Array Value} {n_THIRD:Nat} {sl_THIRD:Array (Option Value)} {a_HALF:Addr} {its_HALF:Array Value} {n_HALF:Nat} {sl_HALF:Array (Option Value)} {a_NOTHING:Addr} {its_NOTHING:Array Value} {n_NOTHING:Nat} {sl_NOTHING:Array (Option Value)} (X:K.In h) (G:h.Ns mainGlobals mg) (hfa:mg "law" = some (.ref fa))
  (D1:cH K "is_whole" iY)
  (D2:cH K "turning" kM)
  (D3:cH K "times" qI)
  (D4:cH K "turning_between" dC)
  (D5:cH K "gap_turning" fR)
  (D11:cH K "table_of" fM)
  (D12:cH K "met_from" jy)
  (D13:cH K "renumbered" df)
  (D14:cH K "lead_back" gZ)
  (D15:cH K "numbered" jz)
  (D16:cH K "_law_cell_at" fQ)
  (D17:cH K "_law_big" kO)
  (D18:cH K "_law_digit" hV)
  (D19:cH K "_law_fractions" eB)
  (D20:cH K "_law_marks" f6)
  (D21:cH K "_law_fan" kE)
  (D22:cH K "_law_tiles" hZ)
  (D23:cH K "_law_gaps" gV)
  (D24:cH K "_law_links" g9)
  (D25:cH K "_law_anew" fI)
  (D26:cH K "_law_table" gA)
  (D27:cH K "_law_whole" h7)
  (D28:cH K "_law_are_places" cZ)
  (D29:cH K "_law_full_fan" c5)
  (D30:cH K "law" BQ)
  (z0:PySem.W.nsIn K mainGlobals "abs" = some none)
  (z1:PySem.W.nsIn K mainGlobals "all" = some none)
  (z2:PySem.W.nsIn K mainGlobals "bool" = some none)
  (z3:PySem.W.nsIn K mainGlobals "enumerate" = some none)
  (z4:PySem.W.nsIn K mainGlobals "int" = some none)
  (z5:PySem.W.nsIn K mainGlobals "isinstance" = some none)
  (z6:PySem.W.nsIn K mainGlobals "len" = some none)
  (z7:PySem.W.nsIn K mainGlobals "list" = some none)
  (z8:PySem.W.nsIn K mainGlobals "max" = some none)
  (z9:PySem.W.nsIn K mainGlobals "min" = some none)
  (z10:PySem.W.nsIn K mainGlobals "range" = some none)
  (z11:PySem.W.nsIn K mainGlobals "tuple" = some none)
  (g_TOP:PySem.W.nsIn K mainGlobals "TOP" = some (some (.ref a_TOP)))
  (l_TOP:K.lookup a_TOP=some ⟨.type "tuple",none,.seq its_TOP n_TOP,sl_TOP⟩)
  (s_TOP:its_TOP.size≤sizeLine)
  (v_TOP:L2.Vals ([1,0].map L2.V.int) its_TOP.toList)
  (g_THIRD:PySem.W.nsIn K mainGlobals "THIRD" = some (some (.ref a_THIRD)))
  (l_THIRD:K.lookup a_THIRD=some ⟨.type "tuple",none,.seq its_THIRD n_THIRD,sl_THIRD⟩)
  (s_THIRD:its_THIRD.size≤sizeLine)
  (v_THIRD:L2.Vals ([0,-1,1,-1].map L2.V.int) its_THIRD.toList)
  (g_HALF:PySem.W.nsIn K mainGlobals "HALF" = some (some (.ref a_HALF)))
  (l_HALF:K.lookup a_HALF=some ⟨.type "tuple",none,.seq its_HALF n_HALF,sl_HALF⟩)
  (s_HALF:its_HALF.size≤sizeLine)
  (v_HALF:L2.Vals ([0,-1,1,0].map L2.V.int) its_HALF.toList)
  (g_NOTHING:PySem.W.nsIn K mainGlobals "NOTHING" = some (some (.ref a_NOTHING)))
  (l_NOTHING:K.lookup a_NOTHING=some ⟨.type "tuple",none,.seq its_NOTHING n_NOTHING,sl_NOTHING⟩)
  (s_NOTHING:its_NOTHING.size≤sizeLine)
  (v_NOTHING:L2.Vals ([1,0,0,1].map L2.V.int) its_NOTHING.toList)
  (n_Walk:PySem.W.nsIn K mainGlobals "Walk" = some (some (.ref c_Walk)))
  (cl_Walk:wN K c_Walk)
  (na_Walk_stands:dS K c_Walk "stands")
  (na_Walk_crossings:dS K c_Walk "crossings")
  (mk_Walk:PySem.W.makesIn K c_Walk=true)
  (kp_Walk:PySem.W.keepIn K (.ref c_Walk)=true)
  (D6:l5 K c_Walk "stand_within" "Walk.stand_within" cG)
  (D7:l5 K c_Walk "stand_beyond" "Walk.stand_beyond" cP)
  (D8:l5 K c_Walk "__init__" "Walk.__init__" eY)
  (D9:l5 K c_Walk "settled" "Walk.settled" eD)
  (D10:l5 K c_Walk "number_behind" "Walk.number_behind" cz)
  : ∃fd:FuncData,(∀(s:Shared) (v:Value),BindsTo s fd ⟨[v],[]⟩ [("_law_script",v)])∧∀base:Heap,K.In base→base.Ns mainGlobals mg→kW l.prog w K mg base vJ 7 fa fd ["_law_script"] (Ij K (BB 63)):=by
 have T:Txt mg:=⟨PySem.W.mg_none_of X G z0,PySem.W.mg_none_of X G z1,PySem.W.mg_none_of X G z2,PySem.W.mg_none_of X G z3,PySem.W.mg_none_of X G z4,PySem.W.mg_none_of X G z5,PySem.W.mg_none_of X G z6,PySem.W.mg_none_of X G z7,PySem.W.mg_none_of X G z8,PySem.W.mg_none_of X G z9,PySem.W.mg_none_of X G z10,PySem.W.mg_none_of X G z11⟩;have TC:Tc K w ⟨c_Walk,a_TOP,its_TOP,n_TOP,sl_TOP,a_THIRD,its_THIRD,n_THIRD,sl_THIRD,a_HALF,its_HALF,n_HALF,sl_HALF,a_NOTHING,its_NOTHING,n_NOTHING,sl_NOTHING⟩:=⟨g_TOP,l_TOP,s_TOP,v_TOP,g_THIRD,l_THIRD,s_THIRD,v_THIRD,g_HALF,l_HALF,s_HALF,v_HALF,g_NOTHING,l_NOTHING,s_NOTHING,v_NOTHING,n_Walk,cl_Walk,na_Walk_stands,na_Walk_crossings,mk_Walk,kp_Walk⟩
 obtain⟨dl,FL,bl⟩:=D30.L7 X G hfa fun _ _ _ _ _ _ _=>rfl;refine⟨dl,bl,fun base _ _=>?_⟩;have F1:Df K mg _ iY ["thing"]:=⟨D1.get X G fun _ _ _ _ _ _=>Fe fun _=>rfl⟩
 have k_is_whole:=v9 (P:=l.prog) (w:=w) (mg:=mg) (base:=base) F1 T;have F2:Df K mg _ kM ["a","b","c","d"]:=⟨D2.get X G fun _ _ _ _ _ _=>LW fun _ _ _ _=>rfl⟩
 have k_turning:=x3 (P:=l.prog) (w:=w) (mg:=mg) (base:=base) F2;have F9:Mt K c_Walk _ _ eD ["self","one"]:=⟨D9.get fun _ _ _ _ _ _=>zP fun _ _=>rfl⟩
 have km_Walk__settled:=mL (P:=l.prog) (w:=w) (mg:=mg) (base:=base) F9 TC;have F12:Df K mg _ jy ["halves","thirds","first"]:=⟨D12.get X G fun _ _ _ _ _ _=>Ib fun _ _ _=>rfl⟩
 have k_met_from:=wL (P:=l.prog) (w:=w) (mg:=mg) (base:=base) F12 T;have F13:Df K mg _ df ["halves","thirds","met"]:=⟨D13.get X G fun _ _ _ _ _ _=>Ib fun _ _ _=>rfl⟩
 have k_renumbered:=sY (P:=l.prog) (w:=w) (mg:=mg) (base:=base) F13 T;have F14:Df K mg _ gZ ["halves","thirds"]:=⟨D14.get X G fun _ _ _ _ _ _=>zP fun _ _=>rfl⟩
 have k_lead_back:=uL (P:=l.prog) (w:=w) (mg:=mg) (base:=base) F14 T;have F16:Df K mg _ fQ ["_law_script","_law_k"]:=⟨D16.get X G fun _ _ _ _ _ _=>zP fun _ _=>rfl⟩
 have k_law_cell_at:=rJ (P:=l.prog) (w:=w) (mg:=mg) (base:=base) F16 T;have F18:Df K mg _ hV ["_law_rest","_law_many"]:=⟨D18.get X G fun _ _ _ _ _ _=>zP fun _ _=>rfl⟩
 have k_law_digit:=vc (P:=l.prog) (w:=w) (mg:=mg) (base:=base) F18;have F22:Df K mg _ hZ ["_law_fractions_here"]:=⟨D22.get X G fun _ _ _ _ _ _=>Fe fun _=>rfl⟩
 have k_law_tiles:=uT (P:=l.prog) (w:=w) (mg:=mg) (base:=base) F22 T;have F23:Df K mg _ gV ["_law_fractions_here"]:=⟨D23.get X G fun _ _ _ _ _ _=>Fe fun _=>rfl⟩
 have k_law_gaps:=xp (P:=l.prog) (w:=w) (mg:=mg) (base:=base) F23 T;have F25:Df K mg _ fI ["_law_halves","_law_thirds","_law_first"]:=⟨D25.get X G fun _ _ _ _ _ _=>Ib fun _ _ _=>rfl⟩
 have k_law_anew:=xJ (P:=l.prog) (w:=w) (mg:=mg) (base:=base) F25 T;have F27:Df K mg _ h7 ["_law_thing"]:=⟨D27.get X G fun _ _ _ _ _ _=>Fe fun _=>rfl⟩
 have k_law_whole:=vp (P:=l.prog) (w:=w) (mg:=mg) (base:=base) F27 T;have F3:Df K mg _ qI ["one","other"]:=⟨D3.get X G fun _ _ _ _ _ _=>zP fun _ _=>rfl⟩
 have k_times:=DE (P:=l.prog) (w:=w) (mg:=mg) (base:=base) F3 k_turning;have F4:Df K mg _ dC ["one","other"]:=⟨D4.get X G fun _ _ _ _ _ _=>zP fun _ _=>rfl⟩
 have k_turning_between:=lY (P:=l.prog) (w:=w) (mg:=mg) (base:=base) F4 k_turning;have F15:Df K mg _ jz ["halves","thirds","first"]:=⟨D15.get X G fun _ _ _ _ _ _=>Ib fun _ _ _=>rfl⟩
 have k_numbered:=wd (P:=l.prog) (w:=w) (mg:=mg) (base:=base) F15 T k_lead_back k_met_from k_renumbered;have F17:Df K mg _ kO ["_law_script","_law_at"]:=⟨D17.get X G fun _ _ _ _ _ _=>zP fun _ _=>rfl⟩
 have k_law_big:=yc (P:=l.prog) (w:=w) (mg:=mg) (base:=base) F17 T k_law_cell_at;have F19:Df K mg _ eB ["_law_rest","_law_many"]:=⟨D19.get X G fun _ _ _ _ _ _=>zP fun _ _=>rfl⟩
 have k_law_fractions:=oi (P:=l.prog) (w:=w) (mg:=mg) (base:=base) F19 T k_law_digit;have F20:Df K mg _ f6 ["_law_rest","_law_many"]:=⟨D20.get X G fun _ _ _ _ _ _=>zP fun _ _=>rfl⟩
 have k_law_marks:=uV (P:=l.prog) (w:=w) (mg:=mg) (base:=base) F20 T k_law_digit;have F24:Df K mg _ g9 ["_law_fan_here"]:=⟨D24.get X G fun _ _ _ _ _ _=>Fe fun _=>rfl⟩
 have k_law_links:=vG (P:=l.prog) (w:=w) (mg:=mg) (base:=base) F24 T k_law_gaps k_law_tiles;have F28:Df K mg _ cZ ["_law_found","_law_due"]:=⟨D28.get X G fun _ _ _ _ _ _=>zP fun _ _=>rfl⟩
 have k_law_are_places:=mK (P:=l.prog) (w:=w) (mg:=mg) (base:=base) F28 T k_law_whole;have F5:Df K mg _ fR ["fan","gap"]:=⟨D5.get X G fun _ _ _ _ _ _=>zP fun _ _=>rfl⟩
 have k_gap_turning:=sj (P:=l.prog) (w:=w) (mg:=mg) (base:=base) F5 T TC k_turning_between;have F6:Mt K c_Walk _ _ cG ["self","rim"]:=⟨D6.get fun _ _ _ _ _ _=>zP fun _ _=>rfl⟩
 have kw_Walk__stand_within:=jk (P:=l.prog) (w:=w) (mg:=mg) (base:=base) F6 T TC k_times;have F7:Mt K c_Walk _ _ cP ["self","rim","gap","mark"]:=⟨D7.get fun _ _ _ _ _ _=>LW fun _ _ _ _=>rfl⟩
 have kw_Walk__stand_beyond:=jg (P:=l.prog) (w:=w) (mg:=mg) (base:=base) F7 T TC k_is_whole k_times;have F10:Mt K c_Walk _ _ cz ["self","one","letter"]:=⟨D10.get fun _ _ _ _ _ _=>Ib fun _ _ _=>rfl⟩
 have km_Walk__number_behind:=iE (P:=l.prog) (w:=w) (mg:=mg) (base:=base) F10 TC k_times km_Walk__settled;have F21:Df K mg _ kE ["_law_rest","_law_most","_law_great"]:=⟨D21.get X G fun _ _ _ _ _ _=>Ib fun _ _ _=>rfl⟩
 have k_law_fan:=yG (P:=l.prog) (w:=w) (mg:=mg) (base:=base) F21 k_law_digit k_law_fractions k_law_marks;have F26:Df K mg _ gA ["_law_fan_here"]:=⟨D26.get X G fun _ _ _ _ _ _=>Fe fun _=>rfl⟩
 have k_law_tableX:=sX (P:=l.prog) (w:=w) (mg:=mg) (base:=base) F26 k_law_anew k_law_links;have F29:Df K mg _ c5 ["_law_rest"]:=⟨D29.get X G fun _ _ _ _ _ _=>Fe fun _=>rfl⟩
 have k_law_full_fan:=pY (P:=l.prog) (w:=w) (mg:=mg) (base:=base) F29 T k_law_fractions k_law_marks;have F8:Mt K c_Walk _ _ eY ["self","fan"]:=⟨D8.get fun _ _ _ _ _ _=>zP fun _ _=>rfl⟩
 have ki_Walk__init:=sk (P:=l.prog) (w:=w) (mg:=mg) (base:=base) F8 T TC (Nz X G n_Walk) k_gap_turning kw_Walk__stand_beyond kw_Walk__stand_within;have F11:Df K mg _ fM ["fan"]:=⟨D11.get X G fun _ _ _ _ _ _=>Fe fun _=>rfl⟩
 have k_table_of:=wV (P:=l.prog) (w:=w) (mg:=mg) (base:=base) F11 TC k_numbered ki_Walk__init km_Walk__number_behind km_Walk__settled;exact Hg FL T k_law_are_places k_law_big k_law_digit k_law_fan k_law_full_fan k_law_tableX k_table_of
end KR
namespace PySem.W.Fast
theorem tw10149180863116875001:True:=trivial
theorem tw1861289681392426780:True:=trivial
theorem tw17322146350652651663:True:=trivial
theorem tw8945074657701654225:True:=trivial
theorem tw17420849109808402356:True:=trivial
theorem tw887382594903198148:True:=trivial
theorem tw12545650997992949715:True:=trivial
theorem tw12967976616684987725:True:=trivial
theorem tw4846815839305946590:True:=trivial
theorem tw11336626466080806228:True:=trivial
theorem tw2270973632961358833:True:=trivial
theorem tw2947264574169611287:True:=trivial
theorem tw11285352721716217661:True:=trivial
theorem tw9837940308881699930:True:=trivial
theorem tw10663052648512943364:True:=trivial
theorem tw2298401575722539981:True:=trivial
theorem tw4820423370098033773:True:=trivial
theorem tw9538932825353733410:True:=trivial
theorem tw13086230594645070590:True:=trivial
theorem tw11293591268794917299:True:=trivial
theorem tw7937324917009457938:True:=trivial
theorem tw3992843361974109787:True:=trivial
theorem tw3969517062011695945:True:=trivial
theorem tw2599432391251022927:True:=trivial
theorem tw3459742339670956112:True:=trivial
theorem tw9800514990639467994:True:=trivial
theorem tw3634808109171211245:True:=trivial
theorem tw14358697045882063673:True:=trivial
theorem tw13670635271351713091:True:=trivial
theorem tw8131739924907928417:True:=trivial
theorem tw8748229350197243841:True:=trivial
theorem tw7814322279689969104:True:=trivial
theorem tw8263928572176297315:True:=trivial
theorem tw1097873346886552452:True:=trivial
theorem tw10033405738833816573:True:=trivial
theorem tw13632117235852450636:True:=trivial
theorem tw10310462611531118657:True:=trivial
theorem tw5085883275212045911:True:=trivial
theorem tw14208664161871547888:True:=trivial
theorem tw268813758494874538:True:=trivial
theorem tw1936061523832876497:True:=trivial
theorem tw7629558178036444105:True:=trivial
theorem tw5907926041075881630:True:=trivial
theorem tw4251635101203784944:True:=trivial
theorem tw9364437580965048265:True:=trivial
theorem tw17311905528407753425:True:=trivial
theorem tw1826245477501655703:True:=trivial
theorem tw4386794263875976614:True:=trivial
theorem tw17484575154406477509:True:=trivial
theorem tw4065649872664241763:True:=trivial
theorem tw2552738221425117045:True:=trivial
theorem tw1132277930761781854:True:=trivial
theorem tw316559931593391654:True:=trivial
theorem tw13275049025222396826:True:=trivial
theorem tw9041881431924141482:True:=trivial
theorem tw8866181460161851338:True:=trivial
theorem tw14107798640540425574:True:=trivial
theorem tw4081196432322975677:True:=trivial
theorem tw11267672061842158012:True:=trivial
theorem tw15779296876878273924:True:=trivial
theorem tw5969463305655709249:True:=trivial
theorem tw8388754274486093013:True:=trivial
theorem tw734826627660632716:True:=trivial
theorem tw13132960962422869034:True:=trivial
theorem tw9162530211732159872:True:=trivial
theorem tw10898416745740349011:True:=trivial
theorem tw13816132768719757993:True:=trivial
theorem tw17464224749752015829:True:=trivial
theorem tw6172215358577741518:True:=trivial
theorem tw15375322292954025598:True:=trivial
theorem tw11088012337475742681:True:=trivial
theorem tw14162671762997548599:True:=trivial
theorem tw12812461955332521634:True:=trivial
theorem tw10855992156114747826:True:=trivial
theorem tw16944453999492341293:True:=trivial
theorem tw8836513168868498960:True:=trivial
theorem tw9122226303816585489:True:=trivial
theorem tw12750208198153134103:True:=trivial
theorem tw14158213241007392515:True:=trivial
theorem tw11481405072596383625:True:=trivial
end PySem.W.Fast
open PySem PySem.W PyProof.Rows
set_option maxRecDepth 100000 in
set_option maxHeartbeats 0 in
theorem PySem.Challenge.cw_fanglue_k26_tables_of_fans_holds : PySem.Challenge.rw_fanglue_k26_tables_of_fans.Holds := by
 w_on;o_law;k_head;(case hw=>w_witness2)
 k_fill
 refine L2.FD (l:=PySem.Challenge.rw_fanglue_k26_tables_of_fans) (n:=63) (k:=7) (x:="_law_script") (CX:=fun _=>L2.vJ) (sp:=fun w=>L2.L3.Ij _ (L2.L3.BB 63)) rfl (by decide) rfl ⟨rfl,by decide,by decide⟩ (fun w h Y=>PySem.W.kIn_of Y) ?F (fun _ _ a ns hl _ hS=>L2.L3.Ho hl hS) (fun _ _ _ _ _ z=>z)
 case F =>
  intro w mg fa h KX G hmg
  refine' KR.all_mk KX G hmg ?_ ?_ ?_ ?_ ?_ ?_ ?_ ?_ ?_ ?_ ?_ ?_ ?_ ?_ ?_ ?_ ?_ ?_ ?_ ?_ ?_ ?_ ?_ ?_ ?_ ?_ ?_ ?_ ?_ ?_ ?_ ?_ ?_ ?_ ?_ ?_ ?_ ?_ ?_ ?_ ?_ ?_ ?_ ?_ ?_ ?_ ?_ ?_ ?_ ?_ ?_ ?_ ?_ ?_ ?_ ?_ ?_ ?_ ?_ ?_ ?_ ?_ ?_ ?_
  rotate_left 17
  iterate 25 exact⟨⟨_,_,_,_,_,_,_,_,_,_,by k_is,by k_is,by k_is,by k_is⟩⟩
  iterate 12 k_is
  iterate 2 (k_is)
  exact (by first | decide | simp [PySem.sizeLine_eq])
  exact (.cons ⟨_,rfl⟩ (.cons ⟨_,rfl⟩ .nil))
  iterate 2 (k_is)
  exact (by first | decide | simp [PySem.sizeLine_eq])
  exact (.cons ⟨_,rfl⟩ (.cons ⟨_,rfl⟩ (.cons ⟨_,rfl⟩ (.cons ⟨_,rfl⟩ .nil))))
  iterate 2 (k_is)
  exact (by first | decide | simp [PySem.sizeLine_eq])
  exact (.cons ⟨_,rfl⟩ (.cons ⟨_,rfl⟩ (.cons ⟨_,rfl⟩ (.cons ⟨_,rfl⟩ .nil))))
  iterate 2 (k_is)
  exact (by first | decide | simp [PySem.sizeLine_eq])
  exact (.cons ⟨_,rfl⟩ (.cons ⟨_,rfl⟩ (.cons ⟨_,rfl⟩ (.cons ⟨_,rfl⟩ .nil))))
  k_is
  exact⟨by k_is,by k_is,by k_is,by k_is⟩
  iterate 2 (show PySem.W.findIn _ _ _=_;k_is)
  iterate 2 (k_is)
  iterate 5 exact⟨⟨_,_,_,_,_,_,_,_,_,_,by k_is,by k_is,by k_is,by k_is,by k_is⟩⟩
