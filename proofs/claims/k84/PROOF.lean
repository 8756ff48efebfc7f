import PyProof.Rows.All
import Wide.All
import OpenK.AllK
import Wide.FinOn
import Lean
import PyProof.EqAt
import PyProof.EqKinds
import PyProof.TupleCall
import PyProof.NeKinds
import PyProof.CompFree
import KE.KIsAll
import OpenK.KOwn
import PyProof.RulesAs
import KE.RegKIsAll
import PyProof.ExcAttrAll.ValueError
import KE.KUnpack
import PyProof.Rows.StrWeight2
import PyProof.StrBlockI
import OpenK.KTop
import PyProof.ListStr
import PyProof.EnumMake
import PyProof.TupleIter
import PyProof.ListRange
import PyProof.PassesOwn
import PyProof.ExcInit
import PyProof.InstStoreFacts
import PyProof.DictFindH
import PyProof.DictIter
import PyProof.DictWalks
import PyProof.DictCompW
import PyProof.DictUpdate
import PyProof.SumWalk
import PyProof.ZipIter
import PySem.Challenge.RW_fanglue_k84_things_as_papers
set_option Elab.async false
set_option linter.all false
set_option maxRecDepth 100000
namespace L2
open PySem PySem.Spec PyProof.Rows
abbrev Key := Sum Int Str
def keyIs : Key → Value → Bool
  | .inl k, v => Value.isInt k v
  | .inr x, v => Value.isStrOf x v
def keyH (w : World) : Key → Int
  | .inl k => hashInt k
  | .inr x => hashStr w x
theorem keyIs_shape : ∀ {k : Key} {v : Value}, keyIs k v = true → (∃ i t, k = Sum.inl i ∧ v = Value.int i t) ∨ (∃ x t, k = Sum.inr x ∧ v = Value.str x t)
  | .inl i, v, h => by
    obtain ⟨t, e⟩ := Value.isInt_shape (k := i) (v := v) h
    exact .inl ⟨i, t, rfl, e⟩
  | .inr x, v, h => by
    obtain ⟨t, e⟩ := Value.isStrOf_shape (x := x) (v := v) h
    exact .inr ⟨x, t, rfl, e⟩
theorem key_ll (a b : Int) : decide ((Sum.inl a : Key) = Sum.inl b) = (a == b) := by
  by_cases e : a = b
  · subst e; simp
  · have h : ¬ (Sum.inl a : Key) = Sum.inl b := fun q => e (Sum.inl.inj q)
    rw [decide_eq_false h]
    exact (beq_eq_false_iff_ne.mpr e).symm
theorem key_rr (a b : Str) : decide ((Sum.inr a : Key) = Sum.inr b) = decide (a = b) := by
  by_cases e : a = b
  · subst e; simp
  · have h : ¬ (Sum.inr a : Key) = Sum.inr b := fun q => e (Sum.inr.inj q)
    rw [decide_eq_false h, decide_eq_false e]
theorem key_lr (a : Int) (b : Str) : decide ((Sum.inl a : Key) = Sum.inr b) = false := decide_eq_false (fun q => nomatch q)
theorem key_rl (a : Str) (b : Int) : decide ((Sum.inr a : Key) = Sum.inl b) = false := decide_eq_false (fun q => nomatch q)
def mixKind (prog : Program) (w : World) : PySem.KeyKind prog w Key where
  is := keyIs
  hash := keyH w
  inj := fun v a b ha hb => by
    rcases keyIs_shape ha with ⟨i, t, rfl, rfl⟩ | ⟨x, t, rfl, rfl⟩
    · rcases keyIs_shape hb with ⟨j, u, rfl, e⟩ | ⟨y, u, rfl, e⟩
      · injection e with e1 _; rw [e1]
      · exact nomatch e
    · rcases keyIs_shape hb with ⟨j, u, rfl, e⟩ | ⟨y, u, rfl, e⟩
      · exact nomatch e
      · injection e with e1 _; rw [e1]
  byValue := fun k v h => by
    rcases keyIs_shape h with ⟨i, t, rfl, rfl⟩ | ⟨x, t, rfl, rfl⟩ <;> rfl
  pyHash := fun hv h => by
    rcases keyIs_shape hv with ⟨i, t, rfl, rfl⟩ | ⟨x, t, rfl, rfl⟩
    · exact wpAny_pyHash_int h
    · exact wpAny_pyHash_str h
  eqBool := fun hu hv h => by
    rcases keyIs_shape hu with ⟨i, t, rfl, rfl⟩ | ⟨x, t, rfl, rfl⟩
    · rcases keyIs_shape hv with ⟨j, u, rfl, rfl⟩ | ⟨y, u, rfl, rfl⟩
      · rw [key_ll] at h; exact wpAny_eqBool_int h
      · rw [key_lr] at h; exact SeqAt.EqAt.int_str i t y u _ _ _ _ h
    · rcases keyIs_shape hv with ⟨j, u, rfl, rfl⟩ | ⟨y, u, rfl, rfl⟩
      · rw [key_rl] at h; exact SeqAt.EqAt.str_int x t j u _ _ _ _ h
      · rw [key_rr] at h; exact wpAny_eqBool_str h
  «strs» := fun k x t v h => by
    rcases keyIs_shape h with ⟨i, u, rfl, e⟩ | ⟨y, u, rfl, e⟩
    · exact nomatch e
    · injection e with e1 _
      subst e1
      cases v <;> rfl
end L2
namespace L2
open PySem PySem.Spec PyProof.Rows
inductive V where
  | non | bl (b : Bool) | int (i : Int) | str (x : Str) | byt (b : Array UInt8) | flt (b : UInt64) | ref (a : Addr) | ty (n : String)
  deriving DecidableEq
def RelV : V → Value → Prop
  | .non, u => u = Value.none
  | .bl b, u => u = Value.bool b
  | .int i, u => ∃ t, u = Value.int i t
  | .str x, u => ∃ t, u = Value.str x t
  | .byt b, u => ∃ t, u = Value.bytes b t
  | .flt b, u => ∃ t, u = Value.float b t
  | .ref a, u => u = Value.ref a
  | .ty n, u => u = Value.type n
abbrev Vals : List V → List Value → Prop := Paired RelV
theorem Vals.length {xs : List V} {us : List Value} (r : Vals xs us) : xs.length = us.length := Paired.length r
theorem Vals.get : ∀ {xs : List V} {us : List Value} {i : Nat} {x : V}, Vals xs us → xs[i]? = some x → ∃ u, us[i]? = some u ∧ RelV x u
  | _, _, _, _, .nil, e => by simp at e
  | _, _, 0, _, .cons r _, e => by simp at e; subst e; exact ⟨_, rfl, r⟩
  | _, _, i + 1, x, .cons _ t, e => by
    obtain ⟨u, h1, h2⟩ := Vals.get (i := i) (x := x) t (by simpa using e)
    exact ⟨u, by simpa using h1, h2⟩
theorem Vals.set {x : V} {u : Value} (r : RelV x u) : ∀ {xs : List V} {us : List Value} (i : Nat), Vals xs us → Vals (xs.set i x) (us.set i u)
  | _, _, _, .nil => .nil
  | _, _, 0, .cons _ t => .cons r t
  | _, _, i + 1, .cons q t => .cons q (Vals.set r i t)
theorem Vals.append : ∀ {xs ys : List V} {us ws : List Value}, Vals xs us → Vals ys ws → Vals (xs ++ ys) (us ++ ws)
  | _, _, _, _, .nil, s => s
  | _, _, _, _, .cons r t, s => .cons r (Vals.append t s)
theorem Vals.take : ∀ {xs : List V} {us : List Value} (n : Nat), Vals xs us → Vals (xs.take n) (us.take n)
  | _, _, 0, _ => .nil
  | _, _, _ + 1, .nil => .nil
  | _, _, n + 1, .cons r t => .cons r (Vals.take n t)
theorem Vals.drop : ∀ {xs : List V} {us : List Value} (n : Nat), Vals xs us → Vals (xs.drop n) (us.drop n)
  | _, _, 0, r => r
  | _, _, _ + 1, .nil => .nil
  | _, _, n + 1, .cons _ t => Vals.drop n t
def RelO : Option V → Option Value → Prop
  | some v, some u => RelV v u
  | none, none => True
  | _, _ => False
def KV {κ : Type} : List (κ × V) → List (κ × Value) → Prop := Paired fun (p : κ × V) (q : κ × Value) => p.1 = q.1 ∧ RelV p.2 q.2
def kV : Key → V
  | .inl i => .int i
  | .inr x => .str x
inductive HO where
  | lst (xs : List V)
  | tup (xs : List V)
  | dK (kvs : List (Key × V)) | dT (kvs : List (List Key × V))
  | set (S : Int → Bool) (n : Nat)
  | ins (C dx : Addr) (fs : List (Str × V))
  | own (x : Addr)
  | xd (fs : List (Str × V))
  | met (f x : Addr)
  | rng (lo hi : Int)
  | frz (o : Obj) (u : HO)
  | tbl (q : Str)
  | cdr (c : Addr) (q : Str)
  | ext (φ : Heap → Prop)
abbrev Hp := Addr → Option HO
def upd (H : Hp) (a : Addr) (o : HO) : Hp := fun b => if b = a then some o else H b
theorem upd_same {H : Hp} {a : Addr} {o : HO} : upd H a o a = some o := by unfold upd; rw [if_pos rfl]
theorem upd_ne {H : Hp} {a b : Addr} {o : HO} (h : b ≠ a) : upd H a o b = H b := by unfold upd; rw [if_neg h]
theorem upd_upd {H : Hp} {a : Addr} {o u : HO} : upd (upd H a o) a u = upd H a u := by
  funext b; unfold upd; split <;> rfl
theorem ne_of_none {H : Hp} {a b : Addr} {o : HO} (h : H a = some o) (h' : H b = none) : a ≠ b := by
  intro e; subst e; rw [h] at h'; cases h'
def TupN (h : Heap) (a : Addr) (its : Array Value) : Prop := ∃ o, h.get? a = some o ∧ o.cls = .type "tuple" ∧ (∃ n, o.data = .seq its n) ∧ o.dict = none
theorem TupN.tup {h : Heap} {a : Addr} {its : Array Value} (x : TupN h a its) : IsTup h a its := let ⟨o, e, c, d, _⟩ := x; ⟨o, e, c, d⟩
theorem TupN.new (h : Heap) (its : Array Value) : TupN (h.push { cls := .type "tuple", data := .seq its }) h.objs.size its := ⟨_, Heap.get?_push_size _ rfl, rfl, ⟨_, rfl⟩, rfl⟩
section
variable (P : Program) (w : World)
def ObjOk (H : Hp) (h : Heap) (a : Addr) : HO → Prop
  | .lst xs => xs.length ≤ sizeLine ∧ ∃ (its : List Value) (n : Nat), Vals xs its ∧ h.get? a = some { cls := .type "list", data := .seq its.toArray n }
  | .tup xs => xs.length ≤ sizeLine ∧ ∃ its : List Value, Vals xs its ∧ TupN h a its.toArray
  | .dK kvs => kvs.length ≤ sizeLine ∧ (a == sysModules) = false ∧ ∃ vs, KV kvs vs ∧ h.DictOf (mixKind P w) a vs
  | .dT kvs => kvs.length ≤ sizeLine ∧ (a == sysModules) = false ∧ ∃ xs : List (List Key × Addr × Value),
      Paired (fun (p : List Key × V) (q : List Key × Addr × Value) => p.1 = q.1 ∧ H q.2.1 = some (.tup (p.1.map kV)) ∧ RelV p.2 q.2.2) kvs xs ∧
      ∃ o es ep, h.get? a = some o ∧ o.ExactDict ∧ o.data = .dict es ep ∧ es.toList = xs.map (entryOfKey (tupleKind (mixKind P w))) ∧ (xs.map (·.1)).Nodup
  | .set S n => h.SetOf (intKind P w) a S n
  | .ins C dx fs => H dx = some (.own a) ∧ fs.length ≤ 1000 ∧ dx ≠ a ∧ h.get? a = some (PySem.W.instObj C dx) ∧
      ∃ mA, h.Ns1 dx mA ∧ (∀ f, RelO (fs.lookup f) (mA f)) ∧ PySem.Within mA (fs.map (·.1))
  | .own _ => ∃ o, h.get? a = some o
  | .xd fs => ∃ mA, h.Ns1 a mA ∧ ∀ f, RelO (fs.lookup f) (mA f)
  | .rng lo hi => ∃ t u v, h.get? a = some { cls := .type "range", data := .fields #[.int lo t, .int hi u, .int 1 v] }
  | .frz o u => h.get? a = some o ∧ ObjOk H h a u
  | .tbl q => ∃ ps : Array Value, h.get? a = some { cls := .none, data := .fields ps } ∧ TriplesOk ps.toList ∧ ∀ pos cv, codeAmong pos ps.toList = some cv → ∃ c oc vs t, cv = .ref c ∧ H c = some (.frz oc (.own c)) ∧ oc.data = .fields vs ∧ vs[1]? = some (.str q t)
  | .cdr c q => (∃ o, h.get? a = some o) ∧ ∃ oc vs t, H c = some (.frz oc (.own c)) ∧ oc.data = .fields vs ∧ vs[1]? = some (.str q t)
  | .met f x => h.get? a = some (PySem.W.methodObj (.ref f) (.ref x))
  | .ext φ => φ h ∧ (∃ o, h.get? a = some o) ∧ ∀ h1 h2 : Heap, φ h1 → (∀ o, h1.get? a = some o → h2.get? a = some o) → φ h2
def HOk (H : Hp) (h : Heap) : Prop := ∀ a o, H a = some o → ObjOk P w H h a o
end
section
variable {P : Program} {w : World} {H H' : Hp} {h h' : Heap} {a : Addr} {o : HO}
theorem ObjOk.lt (x : ObjOk P w H h a o) : a < h.objs.size := by
  cases o with
  | lst xs => obtain ⟨_, _, _, _, e⟩ := x; exact Heap.lt_size e
  | tup xs => obtain ⟨_, _, _, p⟩ := x; exact p.tup.lt
  | dK kvs => obtain ⟨_, _, _, _, o, _, _, e, _⟩ := x; exact Heap.lt_size e
  | dT kvs => obtain ⟨_, _, _, _, o, _, _, e, _⟩ := x; exact Heap.lt_size e
  | set S n => obtain ⟨o, _, _, _, e, _⟩ := x; exact Heap.lt_size e
  | ins C dx fs => obtain ⟨_, _, _, e, _⟩ := x; exact Heap.lt_size e
  | own y => obtain ⟨_, e⟩ := x; exact Heap.lt_size e
  | xd fs => obtain ⟨_, ⟨_, _, _, e, _⟩, _⟩ := x; exact Heap.lt_size e
  | rng lo hi => obtain ⟨_, _, _, e⟩ := x; exact Heap.lt_size e
  | frz ob u => obtain ⟨e, _⟩ := x; exact Heap.lt_size e
  | tbl q => obtain ⟨_, e, _⟩ := x; exact Heap.lt_size e
  | cdr c q => obtain ⟨⟨_, e⟩, _⟩ := x; exact Heap.lt_size e
  | met f y => exact Heap.lt_size (show h.get? a = some _ from x)
  | ext φ => obtain ⟨_, ⟨_, e⟩, _⟩ := x; exact Heap.lt_size e
theorem Paired.mapP {α β : Type} {F G : α → β → Prop} : ∀ {l₁ : List α} {l₂ : List β}, Paired F l₁ l₂ → (∀ a b, F a b → G a b) → Paired G l₁ l₂
  | _, _, .nil, _ => .nil
  | _, _, .cons r t, f => .cons (f _ _ r) (Paired.mapP t f)
theorem ObjOk.stay (x : ObjOk P w H h a o) (k : ∀ b u, (b = a ∨ H b = some (.own a)) → h.get? b = some u → h'.get? b = some u)
    (ho : ∀ b, H b = some (.own a) → H' b = some (.own a)) (ht : ∀ b xs, H b = some (.tup xs) → H' b = some (.tup xs)) (hz : ∀ b o u, H b = some (.frz o u) → H' b = some (.frz o u)) : ObjOk P w H' h' a o := by
  induction o with
  | lst xs => obtain ⟨z, its, n, r, e⟩ := x; exact ⟨z, its, n, r, k _ _ (.inl rfl) e⟩
  | tup xs => obtain ⟨z, its, r, ob, e, c⟩ := x; exact ⟨z, its, r, ob, k _ _ (.inl rfl) e, c⟩
  | dK kvs => obtain ⟨z, y, vs, r, ob, es, ep, e, c⟩ := x; exact ⟨z, y, vs, r, ob, es, ep, k _ _ (.inl rfl) e, c⟩
  | dT kvs =>
    obtain ⟨z, y, xs, r, ob, es, ep, e, c⟩ := x
    exact ⟨z, y, xs, Paired.mapP r fun p q z => ⟨z.1, ht _ _ z.2.1, z.2.2⟩, ob, es, ep, k _ _ (.inl rfl) e, c⟩
  | set S n => obtain ⟨ob, es, ep, t, e, c⟩ := x; exact ⟨ob, es, ep, t, k _ _ (.inl rfl) e, c⟩
  | ins C dx fs =>
    obtain ⟨d, z, ne, e, mA, ⟨od, es, ep, e2, c⟩, r⟩ := x
    exact ⟨ho _ d, z, ne, k _ _ (.inl rfl) e, mA, ⟨od, es, ep, k _ _ (.inr d) e2, c⟩, r⟩
  | own y => obtain ⟨ob, e⟩ := x; exact ⟨ob, k _ _ (.inl rfl) e⟩
  | xd fs => obtain ⟨mA, ⟨od, es, ep, e, c⟩, r⟩ := x; exact ⟨mA, ⟨od, es, ep, k _ _ (.inl rfl) e, c⟩, r⟩
  | rng lo hi => obtain ⟨t, u, v, e⟩ := x; exact ⟨t, u, v, k _ _ (.inl rfl) e⟩
  | frz ob u ih => obtain ⟨e, q⟩ := x; exact ⟨k _ _ (.inl rfl) e, ih q⟩
  | tbl q =>
    obtain ⟨ps, e, t, r⟩ := x
    refine ⟨ps, k _ _ (.inl rfl) e, t, fun pos cv hc => ?_⟩
    obtain ⟨c, oc, vs, tt, e1, e2, e3⟩ := r pos cv hc
    exact ⟨c, oc, vs, tt, e1, hz _ _ _ e2, e3⟩
  | cdr c q =>
    obtain ⟨⟨o, e⟩, oc, vs, t, r1, r2⟩ := x
    exact ⟨⟨o, k _ _ (.inl rfl) e⟩, oc, vs, t, hz _ _ _ r1, r2⟩
  | met f y =>
    have e : h.get? a = some (PySem.W.methodObj (.ref f) (.ref y)) := x
    show h'.get? a = some (PySem.W.methodObj (.ref f) (.ref y))
    exact k a _ (.inl rfl) e
  | ext φ => obtain ⟨p, ⟨o, e⟩, st⟩ := x; exact ⟨st _ _ p fun o q => k _ _ (.inl rfl) q, ⟨o, k _ _ (.inl rfl) e⟩, st⟩
theorem HOk.lt (x : HOk P w H h) (e : H a = some o) : a < h.objs.size := (x a o e).lt
theorem HOk.fresh (x : HOk P w H h) (e : h.objs.size ≤ a) : H a = none := by
  cases q : H a with
  | none => rfl
  | some u => exact absurd (Nat.lt_of_lt_of_le (x.lt q) e) (Nat.lt_irrefl _)
theorem HOk.kept (x : HOk P w H h) (k : ∀ b u, h.get? b = some u → h'.get? b = some u) : HOk P w H h' := fun a o e =>
  (x a o e).stay (fun b u _ q => k b u q) (fun _ q => q) (fun _ _ q => q) fun _ _ _ q => q
theorem HOk.laid (x : HOk P w H h) (k : ∀ b u, h.get? b = some u → h'.get? b = some u) (hp : h.objs.size ≤ a) (new : ObjOk P w (upd H a o) h' a o) : HOk P w (upd H a o) h' := fun b u e => by
  have hn := x.fresh hp
  by_cases hb : b = a
  · subst hb; rw [upd_same] at e; cases e; exact new
  · rw [upd_ne hb] at e
    exact (x b u e).stay (fun c v _ q => k c v q) (fun c q => by rw [upd_ne (ne_of_none q hn)]; exact q) (fun c xs q => by rw [upd_ne (ne_of_none q hn)]; exact q) fun c o xs q => by rw [upd_ne (ne_of_none q hn)]; exact q
end
def Rd (H : Hp) (a : Addr) (u : HO) : Prop := H a = some u ∨ ∃ o, H a = some (.frz o u)
theorem Rd.of {H : Hp} {a : Addr} {u : HO} (h : H a = some u) : Rd H a u := .inl h
theorem Rd.ok {P : Program} {w : World} {H : Hp} {h : Heap} {a : Addr} {u : HO} (r : Rd H a u) (x : HOk P w H h) : ObjOk P w H h a u := by
  rcases r with r | ⟨o, r⟩
  · exact x a u r
  · obtain ⟨_, q⟩ := x a _ r
    exact q
def Mut : Option HO → Prop
  | some (.lst _) => True
  | some (.dK _) => True
  | some (.dT _) => True
  | some (.set _ _) => True
  | some (.ins _ _ _) => True
  | some (.ext _) => True
  | _ => False
section
variable {P : Program} {w : World} {H : Hp} {h h' : Heap} {x e : Addr} {o' : HO}
theorem HOk.write (ok : HOk P w H h) (mu : Mut (H x)) (he : e = x ∨ H e = some (.own x)) (k : ∀ b u, b ≠ e → h.get? b = some u → h'.get? b = some u) (heo : ∃ u, h'.get? e = some u)
    (new : ObjOk P w (upd H x o') h' x o') : HOk P w (upd H x o') h' := fun b u q => by
  have nown : ∀ c y, H c = some (.own y) → c ≠ x := fun c y r z => by subst z; rw [r] at mu; exact mu
  have ntup : ∀ c xs, H c = some (.tup xs) → c ≠ x := fun c xs r z => by subst z; rw [r] at mu; exact mu
  have nfrz : ∀ c o xs, H c = some (.frz o xs) → c ≠ x := fun c o xs r z => by subst z; rw [r] at mu; exact mu
  by_cases hb : b = x
  · subst hb; rw [upd_same] at q; cases q; exact new
  · rw [upd_ne hb] at q
    by_cases hbe : b = e
    · have q' : H b = some (.own x) := by
        rcases he with z | z
        · exact absurd (hbe.trans z) hb
        · rw [hbe]; exact z
      rw [q] at q'; cases q'
      obtain ⟨v, hv⟩ := heo
      exact ⟨v, by rw [hbe]; exact hv⟩
    · refine (ok b u q).stay (fun c v hc r => k c v ?_ r) (fun c r => by rw [upd_ne (nown c b r)]; exact r) (fun c xs r => by rw [upd_ne (ntup c xs r)]; exact r) fun c o xs r => by rw [upd_ne (nfrz c o xs r)]; exact r
      rcases hc with rfl | hc
      · exact hbe
      · rintro rfl
        rcases he with z | z
        · exact nown c b hc z
        · rw [hc] at z; cases z; exact hb rfl
end
structure Un (fs ex : List Addr) (H H' : Hp) (h h' : Heap) : Prop where
  keep : ∀ b o, h.get? b = some o → H b = none → b ∉ fs → b ∉ ex → h'.get? b = some o
  slot : ∀ b o, h.get? b = some o → H b = none → b ∈ fs → b ∉ ex → ∃ sl, h'.get? b = some { o with slots := sl }
  free : ∀ b o, h.get? b = some o → H b = none → b ∉ ex → H' b = none
  there : ∀ b o, h.get? b = some o → b ∉ ex → ∃ o', h'.get? b = some o'
  tups : ∀ b xs, H b = some (.tup xs) → H' b = some (.tup xs)
  frzs : ∀ b o u, H b = some (.frz o u) → H' b = some (.frz o u)
  tbls : ∀ b q, H b = some (.tbl q) → H' b = some (.tbl q)
section
variable {fs fs' ex ex' : List Addr} {H H1 H2 : Hp} {h h1 h2 h' : Heap} {a x e : Addr} {o : HO}
theorem Un.any (u : Un fs ex H H1 h h1) {b : Addr} {ob : Obj} (q : h.get? b = some ob) (n : H b = none) (hx : b ∉ ex) : ∃ sl, h1.get? b = some { ob with slots := sl } := by
  by_cases hb : b ∈ fs
  · exact u.slot b ob q n hb hx
  · exact ⟨ob.slots, u.keep b ob q n hb hx⟩
theorem Un.trans (a : Un fs ex H H1 h h1) (b : Un fs ex H1 H2 h1 h2) : Un fs ex H H2 h h2 where
  keep := fun c ob q n hc hx => b.keep c ob (a.keep c ob q n hc hx) (a.free c ob q n hx) hc hx
  slot := fun c ob q n hc hx => by
    obtain ⟨sl, e1⟩ := a.slot c ob q n hc hx
    obtain ⟨sl', e2⟩ := b.slot c _ e1 (a.free c ob q n hx) hc hx
    exact ⟨sl', e2⟩
  free := fun c ob q n hx => by
    obtain ⟨o', e1⟩ := a.there c ob q hx
    exact b.free c o' e1 (a.free c ob q n hx) hx
  there := fun c ob q hx => by
    obtain ⟨o', e1⟩ := a.there c ob q hx
    exact b.there c o' e1 hx
  tups := fun c xs q => b.tups c xs (a.tups c xs q)
  frzs := fun c ob xs q => b.frzs c ob xs (a.frzs c ob xs q)
  tbls := fun c ps q => b.tbls c ps (a.tbls c ps q)
theorem Un.kept (k : ∀ b u, h.get? b = some u → h'.get? b = some u) : Un fs ex H H h h' :=
  ⟨fun b ob q _ _ _ => k b ob q, fun b ob q _ _ _ => ⟨ob.slots, k b ob q⟩, fun _ _ _ n _ => n, fun b ob q _ => ⟨ob, k b ob q⟩, fun _ _ q => q, fun _ _ _ q => q, fun _ _ q => q⟩
theorem Un.refl : Un fs ex H H h h := Un.kept fun _ _ q => q
theorem Un.laid (k : ∀ b u, h.get? b = some u → h'.get? b = some u) (hp : h.objs.size ≤ a) (hn : H a = none) : Un fs ex H (upd H a o) h h' where
  keep := fun b u q _ _ _ => k b u q
  slot := fun b u q _ _ _ => ⟨u.slots, k b u q⟩
  free := fun b u q n _ => by rw [upd_ne (Nat.ne_of_lt (Nat.lt_of_lt_of_le (Heap.lt_size q) hp))]; exact n
  there := fun b u q _ => ⟨u, k b u q⟩
  tups := fun b xs q => by rw [upd_ne (ne_of_none q hn)]; exact q
  frzs := fun b u xs q => by rw [upd_ne (ne_of_none q hn)]; exact q
  tbls := fun b ps q => by rw [upd_ne (ne_of_none q hn)]; exact q
theorem Un.write (mu : Mut (H x)) (he : e = x ∨ H e = some (.own x)) (k : ∀ b u, b ≠ e → h.get? b = some u → h'.get? b = some u) (heo : ∃ u, h'.get? e = some u) : Un fs ex H (upd H x o) h h' := by
  have hx : ∀ b, H b = none → b ≠ x := fun b n z => by subst z; rw [n] at mu; exact mu
  have hb : ∀ b, H b = none → b ≠ e := fun b n z => by
    subst z
    rcases he with r | r
    · exact hx b n r
    · rw [n] at r; cases r
  have hm : ∀ b u, H b = some u → ¬ Mut (some u) → b ≠ x := fun b u q nm z => by subst z; rw [q] at mu; exact nm mu
  refine ⟨fun b u q n _ _ => k b u (hb b n) q, fun b u q n _ _ => ⟨u.slots, k b u (hb b n) q⟩, fun b u q n _ => by rw [upd_ne (hx b n)]; exact n, fun b u q _ => ?_,
    fun b xs q => by rw [upd_ne (hm b _ q fun z => z)]; exact q, fun b u xs q => by rw [upd_ne (hm b _ q fun z => z)]; exact q, fun b ps q => by rw [upd_ne (hm b _ q fun z => z)]; exact q⟩
  by_cases hbe : b = e
  · subst hbe; exact heo
  · exact ⟨u, k b u hbe q⟩
theorem Un.mono (u : Un fs ex H H1 h h1) (hs : ∀ b ∈ fs, b ∈ fs') (hx : ∀ b ∈ ex, b ∈ ex') : Un fs' ex' H H1 h h1 :=
  ⟨fun b ob q n hb he => u.keep b ob q n (fun z => hb (hs b z)) fun z => he (hx b z), fun _ _ q n _ he => u.any q n fun z => he (hx _ z), fun b ob q n he => u.free b ob q n fun z => he (hx b z), fun b ob q he => u.there b ob q fun z => he (hx b z), u.tups, u.frzs, u.tbls⟩
end
def trk (h : Heap) (H : Hp) : List Addr := (List.range h.objs.size).filter fun a => (H a).isSome
def hidT (h : Heap) (H : Hp) : Heap := PySem.W.hideAll h (trk h H)
theorem hidT_size (h : Heap) (H : Hp) : (hidT h H).objs.size = h.objs.size := PySem.W.hideAll_size _ _
theorem hidT_get {h : Heap} {H : Hp} {b : Addr} {o : Obj} (e : h.get? b = some o) (n : H b = none) : (hidT h H).get? b = some o :=
  PySem.W.hideAll_get _ e fun hm => by
    have q : (H b).isSome = true := (List.mem_filter.mp hm).2
    rw [n] at q; simp at q
theorem of_hidT {h : Heap} {H : Hp} {b : Addr} {o : Obj} (e : (hidT h H).get? b = some o) : h.get? b = some o ∧ H b = none := by
  have e' : h.get? b = some o := PySem.W.of_hideAll (trk h H) e
  refine ⟨e', ?_⟩
  cases q : H b with
  | none => rfl
  | some x =>
    have hm : b ∈ trk h H := List.mem_filter.mpr ⟨List.mem_range.mpr (Heap.lt_size e'), by simp [q]⟩
    have z : (hidT h H).get? b = none := PySem.W.hideAll_none (trk h H) hm
    rw [z] at e; cases e
def allNews (g h : Heap) (L : Addr) : List (Addr × Obj) := (List.range h.objs.size).filterMap fun a => if a = L ∨ (g.get? a).isSome = true then none else (h.get? a).map fun o => (a, o)
def rest (g h : Heap) (L d : Addr) : List (Addr × Obj) := (allNews g h L).filter fun p => decide (p.1 ≠ d)
end L2
namespace L2
open PySem PySem.Spec PyProof.Rows
structure Mod (K : PySem.W.Frag) (mg : Str → Option Value) (base : Heap) : Prop where
  kin : K.In base
  glob : base.Ns mainGlobals mg
  blt : ∃ mb, base.Ns builtinsNs mb ∧ ∀ x : Str, x ≠ "__name__" → mb x = bootBuiltins x
  nolimit : base.NoLimit
  bm : ∃ bm ob, mg "__builtins__" = some (.ref bm) ∧ bm ≠ builtinsNs ∧ base.get? bm = some ob ∧ ob.cls = .type "module" ∧ ob.dict = some builtinsNs ∧ ob.data = .plain
structure Cx where
  prog : Program
  w : World
  K : PySem.W.Frag
  mg : Str → Option Value
  base : Heap
  A : Around
  N : List Str
  s₀ : Shared
  H₀ : Hp
  env : Env
  outer : List Env
  stack : List Env
  ex : List Addr
  fn : Str → Bool
  calm : Bool
  pn : List (Addr × Obj)
  xe : Value → Shared → Prop
def frs (l : List Env) : List Addr := l.filterMap (·.frame)
abbrev Cx.fs (X : Cx) : List Addr := frs X.outer
def closers : List (Str × Str) := [("meet", "meet.<locals>.<lambda>"), ("core", "core.<locals>.<lambda>"), ("by_rests", "by_rests.<locals>.behind")]
def tq (K : PySem.W.Frag) (b : Addr) : Option Str := (closers.find? fun p => match PySem.W.tabIn K p.1 with | some (_, P) => P == b | none => false).map (·.2)
def TbOk (K : PySem.W.Frag) (H : Hp) : Prop := ∀ b q, tq K b = some q → H b = some (.tbl q)
def Vis (sc : Scope) (x : Str) : Prop := sc.names.lookup x = some .local ∨ sc.names.lookup x = some .cell ∨ sc.names.lookup x = some .free
def Loc (sc : Scope) (x : Str) : Prop := sc.names.lookup x = some .local ∨ sc.names.lookup x = some .cell
def Look (env : Env) (h : Heap) (m : Str → Option Value) (x : Str) (u : Value) : Prop :=
  (env.kindOf x = some .local ∧ m x = some u) ∨ ((env.kindOf x = some .cell ∨ env.kindOf x = some .free) ∧ ∃ c, env.cells.lookup x = some c ∧ h.IsCell c (some u))
structure Cx.Ok (X : Cx) : Prop where
  mod : Mod X.K X.mg X.base
  kind : X.env.scope.kind = .function
  glob : X.env.globals = mainGlobals
  blt : X.env.builtins = builtinsNs
  above : X.s₀.heap.objs.size ≤ X.env.locals
  inj : ∀ x y c, X.env.cells.lookup x = some c → X.env.cells.lookup y = some c → x = y
  has : ∀ x, (X.env.kindOf x = some .cell ∨ X.env.kindOf x = some .free) → ∃ c, X.env.cells.lookup x = some c
  cab : ∀ x c, X.fn x = true → X.env.cells.lookup x = some c → X.s₀.heap.objs.size ≤ c
  hd : X.calm = true → X.A.handled = none
  frames : X.A.frames = some X.stack
  stk : X.stack = X.outer ∨ (X.stack = X.env :: X.outer ∧ X.env.frame = some X.env.locals)
  exf : ∀ b ∈ X.ex, b ≠ X.env.locals ∧ ∀ x c, X.env.cells.lookup x = some c → c ≠ b
  bs : ∀ b o, X.base.get? b = some o → X.s₀.heap.get? b = some o ∧ X.H₀ b = none
  bsz : X.base.objs.size ≤ X.s₀.heap.objs.size
  noex : ∀ b o, X.base.get? b = some o → b ∉ X.ex
  exfs : ∀ b ∈ X.ex, b ∉ X.fs
  funs : X.s₀.heap.FunFrames X.base X.outer
  frf : (∀ b ∈ X.fs, X.H₀ b = none) ∧ TbOk X.K X.H₀
structure Inv (X : Cx) (pins : List (Addr × Obj)) (σ : List (Option V)) (H : Hp) (s : Shared) : Prop where
  ok : X.Ok
  os : s.os = X.s₀.os
  bare : AllBare s.gens
  base : Un X.fs X.ex X.H₀ H X.s₀.heap s.heap
  loc : ∃ m, s.heap.Ns X.env.locals m ∧ ∀ (i : Nat) (x : Str) (v : V), X.N[i]? = some x → σ[i]? = some (some v) → Vis X.env.scope x → ∃ u, RelV v u ∧ Look X.env s.heap m x u
  cell : ∀ x c, X.env.cells.lookup x = some c → ∃ v, s.heap.IsCell c v
  free : H X.env.locals = none
  freeC : ∀ x c, X.env.cells.lookup x = some c → H c = none
  pin : ∀ p ∈ X.pn ++ pins, s.heap.get? p.1 = some p.2 ∧ H p.1 = none ∧ p.1 ≠ X.env.locals ∧ p.1 ∉ X.fs ∧ ∀ v, p.2.data ≠ .cell v
  hok : HOk X.prog X.w H s.heap
  len : σ.length = X.N.length
section
variable {X : Cx} {pins : List (Addr × Obj)} {σ : List (Option V)} {H H' : Hp} {s : Shared} {h' : Heap}
theorem Cx.Ok.nofr (ok : X.Ok) {b : Addr} {o : Obj} (e : X.base.get? b = some o) : b ∉ X.fs := fun hb => by
  have := (ok.funs.mem hb).1
  rw [e] at this; cases this
theorem Inv.bs (I : Inv X pins σ H s) : ∀ b o, X.base.get? b = some o → s.heap.get? b = some o ∧ H b = none := fun b o e =>
  ⟨I.base.keep b o (I.ok.bs b o e).1 (I.ok.bs b o e).2 (I.ok.nofr e) (I.ok.noex b o e), I.base.free b o (I.ok.bs b o e).1 (I.ok.bs b o e).2 (I.ok.noex b o e)⟩
theorem Inv.bk (I : Inv X pins σ H s) : ∀ b o, X.base.get? b = some o → s.heap.get? b = some o := fun b o e => (I.bs b o e).1
theorem Inv.mod (I : Inv X pins σ H s) : Mod X.K X.mg X.base := I.ok.mod
theorem Inv.kIn (I : Inv X pins σ H s) : X.K.In s.heap := I.ok.mod.kin.keeps I.bk
theorem Inv.nolimit (I : Inv X pins σ H s) : s.heap.NoLimit := I.ok.mod.nolimit.keeps I.bk
theorem Inv.fr (I : Inv X pins σ H s) : ∃ m, Fr X.base X.env.locals s.heap m :=
  let ⟨m, hn, _⟩ := I.loc
  ⟨m, hn, I.bk, Nat.le_trans I.ok.bsz I.ok.above⟩
theorem Inv.lt (I : Inv X pins σ H s) : X.env.locals < s.heap.objs.size := let ⟨_, hn, _⟩ := I.loc; hn.lt
theorem Inv.sz (I : Inv X pins σ H s) : X.s₀.heap.objs.size ≤ s.heap.objs.size := Nat.le_trans I.ok.above (Nat.le_of_lt I.lt)
theorem Inv.nofs (I : Inv X pins σ H s) {a : Addr} (h : s.heap.objs.size ≤ a) : a ∉ X.fs := fun hb => by
  obtain ⟨_, o, ho, _⟩ := I.ok.funs.mem hb
  exact absurd (Nat.lt_of_lt_of_le (Heap.lt_size ho) (Nat.le_trans I.sz h)) (Nat.lt_irrefl _)
theorem Inv.cne (I : Inv X pins σ H s) : ∀ x c, X.env.cells.lookup x = some c → c ≠ X.env.locals := fun x c e z => by
  obtain ⟨v, o, ho, hd⟩ := I.cell x c e
  obtain ⟨m, ⟨o', es, ep, ho', hd', _⟩, _⟩ := I.loc
  rw [z, ho'] at ho; cases ho; rw [hd'] at hd; cases hd
theorem Inv.funs (I : Inv X pins σ H s) : s.heap.FunFrames X.base X.outer := by
  have all : ∀ (l : List Env), (∀ b ∈ frs l, b ∈ X.fs) → X.s₀.heap.FunFrames X.base l → s.heap.FunFrames X.base l := by
    intro l
    induction l with
    | nil => intro _ _; trivial
    | cons env r ih =>
      intro hs hl
      obtain ⟨hk, ⟨L, o, hf, hn, ho, hd⟩, hr⟩ := hl
      have hL : L ∈ X.fs := hs L (by unfold frs; rw [List.filterMap_cons, hf]; exact List.mem_cons_self)
      obtain ⟨sl, e⟩ := I.base.slot L o ho (I.ok.frf.1 L hL) hL fun z => I.ok.exfs L z hL
      exact ⟨hk, ⟨L, _, hf, hn, e, hd⟩, ih (fun b hb => hs b (by unfold frs; rw [List.filterMap_cons, hf]; exact List.mem_cons_of_mem _ hb)) hr⟩
  exact all X.outer (fun _ hb => hb) I.ok.funs
theorem Inv.stack (I : Inv X pins σ H s) : s.heap.FunFrames X.base X.stack := by
  rcases I.ok.stk with e | ⟨e, hf⟩
  · rw [e]; exact I.funs
  · rw [e]
    obtain ⟨m, hn, _⟩ := I.loc
    refine .cons (by rw [I.ok.kind]; decide) hf hn ?_ I.funs
    exact Heap.get?_none_of_le (Nat.le_trans I.ok.bsz I.ok.above)
theorem Inv.stkSub (I : Inv X pins σ H s) : ∀ b ∈ frs X.stack, b ∈ X.env.locals :: X.fs := fun b hb => by
  rcases I.ok.stk with e | ⟨e, hf⟩
  · rw [e] at hb; exact List.mem_cons_of_mem _ hb
  · rw [e] at hb
    unfold frs at hb
    rw [List.filterMap_cons, hf] at hb
    exact hb
theorem Inv.stkFree (I : Inv X pins σ H s) : ∀ b ∈ frs X.stack, H b = none := fun b hb => by
  rcases List.mem_cons.mp (I.stkSub b hb) with e | hb
  · rw [e]; exact I.free
  · obtain ⟨_, o, ho, _⟩ := I.ok.funs.mem hb
    exact I.base.free b o ho (I.ok.frf.1 b hb) fun z => I.ok.exfs b z hb
theorem Inv.tb (I : Inv X pins σ H s) : TbOk X.K H := fun b q e => I.base.tbls b q (I.ok.frf.2 b q e)
theorem Inv.step {g' : Array GenState} {t' : Nat} {d' : Drawn} {ch : List Addr} (I : Inv X pins σ H s)
    (hch : ∀ b ∈ ch, (b ∈ X.ex ∨ X.s₀.heap.objs.size ≤ b) ∧ b ≠ X.env.locals ∧ (∀ x c, X.env.cells.lookup x = some c → c ≠ b) ∧ ∀ p ∈ X.pn ++ pins, p.1 ≠ b)
    (keep : ∀ b o, b ≠ X.env.locals → b ∉ X.fs → b ∉ ch → s.heap.get? b = some o → H b = none → h'.get? b = some o)
    (slot : ∀ b o, b ≠ X.env.locals → b ∈ X.fs → b ∉ ch → s.heap.get? b = some o → H b = none → ∃ sl, h'.get? b = some { o with slots := sl }) (free : ∀ b o, b ∉ ch → s.heap.get? b = some o → H b = none → H' b = none)
    (there : ∀ b o, b ∉ ch → s.heap.get? b = some o → ∃ o', h'.get? b = some o')
    (tups : ∀ b xs, H b = some (.tup xs) → H' b = some (.tup xs)) (frzs : ∀ b o u, H b = some (.frz o u) → H' b = some (.frz o u)) (tbls : ∀ b q, H b = some (.tbl q) → H' b = some (.tbl q))
    (ns : ∀ m, s.heap.Ns X.env.locals m → h'.Ns X.env.locals m) (hok : HOk X.prog X.w H' h') (hg : AllBare g') :
    Inv X pins σ H' { s with heap := h', gens := g', drawn := d', toks := t' } := by
  have neL : ∀ b o, X.s₀.heap.get? b = some o → b ≠ X.env.locals := fun b o e => Nat.ne_of_lt (Nat.lt_of_lt_of_le (Heap.lt_size e) I.ok.above)
  have neC : ∀ b o, X.s₀.heap.get? b = some o → b ∉ X.ex → b ∉ ch := fun b o e hx hb => by
    rcases (hch b hb).1 with z | z
    · exact hx z
    · exact absurd (Nat.lt_of_lt_of_le (Heap.lt_size e) z) (Nat.lt_irrefl _)
  have cellK : ∀ x c, X.env.cells.lookup x = some c → ∀ v, s.heap.IsCell c v → h'.IsCell c v := fun x c e v ⟨o, ho, hd⟩ => by
    have nch : c ∉ ch := fun z => (hch c z).2.2.1 x c e rfl
    by_cases hc : c ∈ X.fs
    · obtain ⟨sl, q⟩ := slot c o (I.cne x c e) hc nch ho (I.freeC x c e)
      exact ⟨_, q, hd⟩
    · exact ⟨o, keep c o (I.cne x c e) hc nch ho (I.freeC x c e), hd⟩
  refine ⟨I.ok, I.os, hg, ⟨fun b o e n hb hx => ?_, fun b o e n hb hx => ?_, fun b o e n hx => ?_, fun b o e hx => ?_, fun b xs e => tups b xs (I.base.tups b xs e), fun b o xs e => frzs b o xs (I.base.frzs b o xs e), fun b q e => tbls b q (I.base.tbls b q e)⟩, ?_, fun x c e => ?_, ?_, fun x c e => ?_, fun p hp => ?_, hok, I.len⟩
  · exact keep b o (neL b o e) hb (neC b o e hx) (I.base.keep b o e n hb hx) (I.base.free b o e n hx)
  · obtain ⟨sl, e1⟩ := I.base.slot b o e n hb hx
    obtain ⟨sl', e2⟩ := slot b _ (neL b o e) hb (neC b o e hx) e1 (I.base.free b o e n hx)
    exact ⟨sl', e2⟩
  · obtain ⟨o', e1⟩ := I.base.there b o e hx
    exact free b o' (neC b o e hx) e1 (I.base.free b o e n hx)
  · obtain ⟨o', e1⟩ := I.base.there b o e hx
    exact there b o' (neC b o e hx) e1
  · obtain ⟨m, hn, hl⟩ := I.loc
    refine ⟨m, ns m hn, fun i x v e1 e2 e3 => ?_⟩
    obtain ⟨u, r, l⟩ := hl i x v e1 e2 e3
    refine ⟨u, r, ?_⟩
    rcases l with l | ⟨k, c, e, z⟩
    · exact .inl l
    · exact .inr ⟨k, c, e, cellK x c e _ z⟩
  · obtain ⟨v, z⟩ := I.cell x c e
    exact ⟨v, cellK x c e v z⟩
  · obtain ⟨m, ⟨o, _, _, ho, _⟩, _⟩ := I.loc
    exact free _ o (fun z => (hch _ z).2.1 rfl) ho I.free
  · obtain ⟨v, o, ho, hd⟩ := I.cell x c e
    exact free c o (fun z => (hch c z).2.2.1 x c e rfl) ho (I.freeC x c e)
  · obtain ⟨e, n, ne, nf, d⟩ := I.pin p hp
    have nch : p.1 ∉ ch := fun z => (hch p.1 z).2.2.2 p hp rfl
    exact ⟨keep p.1 p.2 ne nf nch e n, free p.1 p.2 nch e n, ne, nf, d⟩
theorem Inv.un {t' : Nat} (I : Inv X pins σ H s) (u : Un X.fs [] H H' s.heap h') (hok : HOk X.prog X.w H' h') : Inv X pins σ H' { s with heap := h', toks := t' } := by
  obtain ⟨m, ⟨o, es, ep, ho, r⟩, _⟩ := id I.loc
  obtain ⟨sl, hL⟩ := u.any ho I.free (by simp)
  exact I.step (g' := s.gens) (d' := s.drawn) (ch := []) (fun _ z => nomatch z) (fun b o _ hb _ e n => u.keep b o e n hb (by simp)) (fun b o _ hb _ e n => u.slot b o e n hb (by simp)) (fun b o _ e n => u.free b o e n (by simp)) (fun b o _ e => u.there b o e (by simp)) u.tups u.frzs u.tbls (fun m' hm => by
    obtain ⟨o', es', ep', ho', r'⟩ := hm
    rw [ho] at ho'; cases ho'
    exact ⟨_, es', ep', hL, r'⟩) hok I.bare
theorem Inv.call {g' : Array GenState} {t' : Nat} {d' : Drawn} {ch : List Addr} (I : Inv X pins σ H s) (u : Un (frs X.stack) ch H H' s.heap h') (hok : HOk X.prog X.w H' h') (hg : AllBare g')
    (hch : ∀ b ∈ ch, (b ∈ X.ex ∨ X.s₀.heap.objs.size ≤ b) ∧ b ≠ X.env.locals ∧ (∀ x c, X.env.cells.lookup x = some c → c ≠ b) ∧ ∀ p ∈ X.pn ++ pins, p.1 ≠ b) :
    Inv X pins σ H' { s with heap := h', gens := g', drawn := d', toks := t' } := by
  obtain ⟨m, ⟨o, es, ep, ho, r⟩, _⟩ := id I.loc
  obtain ⟨sl, hL⟩ := u.any ho I.free fun z => (hch _ z).2.1 rfl
  exact I.step (ch := ch) hch (fun b o hL hb hc e n => u.keep b o e n (fun z => (List.mem_cons.mp (I.stkSub b z)).elim hL hb) hc) (fun b o _ _ hc e n => u.any e n hc) (fun b o hc e n => u.free b o e n hc) (fun b o hc e => u.there b o e hc) u.tups u.frzs u.tbls (fun m' hm => by
    obtain ⟨o', es', ep', ho', r'⟩ := hm
    rw [ho] at ho'; cases ho'
    exact ⟨_, es', ep', hL, r'⟩) hok hg
theorem Inv.turned {t' : Nat} {it : Addr} (I : Inv X pins σ H s) (k : ∀ b o, b ≠ it → s.heap.get? b = some o → h'.get? b = some o) (hn : H it = none) (hL : it ≠ X.env.locals)
    (h1 : it ∈ X.ex ∨ X.s₀.heap.objs.size ≤ it) (h2 : ∀ x c, X.env.cells.lookup x = some c → c ≠ it) (h3 : ∀ p ∈ X.pn ++ pins, p.1 ≠ it) : Inv X pins σ H { s with heap := h', toks := t' } := by
  have nit : ∀ b u, H b = some u → b ≠ it := fun b u e z => by rw [z, hn] at e; cases e
  refine I.step (g' := s.gens) (d' := s.drawn) (ch := [it]) (fun b hb => ?_) (fun b o _ _ hc e _ => k b o (fun z => hc (by simp [z])) e) (fun b o _ _ hc e _ => ⟨o.slots, k b o (fun z => hc (by simp [z])) e⟩) (fun _ _ _ _ n => n)
    (fun b o hc e => ⟨o, k b o (fun z => hc (by simp [z])) e⟩) (fun _ _ e => e) (fun _ _ _ e => e) (fun _ _ e => e) (fun m hm => ?_) (fun b u e => ?_) I.bare
  · have e : b = it := by simpa using hb
    subst e
    exact ⟨h1, hL, h2, h3⟩
  · obtain ⟨o, es, ep, ho, r⟩ := hm
    exact ⟨o, es, ep, k _ o (Ne.symm hL) ho, r⟩
  · refine (I.hok b u e).stay (fun c v hc q => k c v ?_ q) (fun _ q => q) (fun _ _ q => q) fun _ _ _ q => q
    rcases hc with z | z
    · rw [z]; exact nit b u e
    · exact nit c _ z
theorem Inv.tok (I : Inv X pins σ H s) (t : Nat) : Inv X pins σ H { s with toks := t } := I.un (h' := s.heap) (t' := t) Un.refl I.hok
theorem Inv.kept {t' : Nat} (I : Inv X pins σ H s) (k : ∀ b u, s.heap.get? b = some u → h'.get? b = some u) : Inv X pins σ H { s with heap := h', toks := t' } := I.un (Un.kept k) (I.hok.kept k)
theorem Inv.laid {a : Addr} {o : HO} {t' : Nat} (I : Inv X pins σ H s) (k : ∀ b u, s.heap.get? b = some u → h'.get? b = some u) (hp : s.heap.objs.size ≤ a) (new : ObjOk X.prog X.w (upd H a o) h' a o) :
    Inv X pins σ (upd H a o) { s with heap := h', toks := t' } := I.un (Un.laid k hp (I.hok.fresh hp)) (I.hok.laid k hp new)
theorem Inv.write {x e : Addr} {o : HO} {t' : Nat} (I : Inv X pins σ H s) (mu : Mut (H x)) (he : e = x ∨ H e = some (.own x)) (k : ∀ b u, b ≠ e → s.heap.get? b = some u → h'.get? b = some u) (heo : ∃ u, h'.get? e = some u)
    (new : ObjOk X.prog X.w (upd H x o) h' x o) : Inv X pins σ (upd H x o) { s with heap := h', toks := t' } := I.un (Un.write mu he k heo) (I.hok.write mu he k heo new)
theorem Inv.pins_of {pins' : List (Addr × Obj)} (I : Inv X pins σ H s) (h : ∀ p ∈ pins', s.heap.get? p.1 = some p.2 ∧ H p.1 = none ∧ p.1 ≠ X.env.locals ∧ p.1 ∉ X.fs ∧ ∀ v, p.2.data ≠ .cell v) : Inv X pins' σ H s :=
  ⟨I.ok, I.os, I.bare, I.base, I.loc, I.cell, I.free, I.freeC, fun p hp => (List.mem_append.mp hp).elim (fun z => I.pin p (List.mem_append_left _ z)) (h p), I.hok, I.len⟩
theorem nodup_ix {N : List Str} (hN : N.Nodup) {i j : Nat} {x : Str} (a : N[i]? = some x) (b : N[j]? = some x) : i = j := by
  obtain ⟨h1, e1⟩ := List.getElem?_eq_some_iff.mp a
  obtain ⟨h2, e2⟩ := List.getElem?_eq_some_iff.mp b
  exact (List.getElem_inj hN).mp (e1.trans e2.symm)
theorem store_ok2 {M : Model} {A : Around} {E : Value → Shared → Prop} {i : Nat} {x : Str} {v : V} {u : Value} {Q : Unit → Shared → Prop} (I : Inv X pins σ H s) (hN : X.N.Nodup) (hi : X.N[i]? = some x) (hx : Loc X.env.scope x) (r : RelV v u)
    (h : ∀ s', Inv X pins (σ.set i (some v)) H s' → (∃ a, Heap.SameBut a s.heap s'.heap ∧ (a = X.env.locals ∨ X.env.cells.lookup x = some a)) → Q () s') (hf : X.fn x = true ∨ X.env.scope.names.lookup x = some .local := by first | exact .inl rfl | exact .inr rfl | assumption) : wpAny M A (storeName X.env x u) Q E s := by
  obtain ⟨m, hn, hl⟩ := id I.loc
  have hcls : (X.env.scope.kind == .class || (X.env.scope.kind == .module && X.env.locals != X.env.globals)) = false := by rw [I.ok.kind]; rfl
  have hiσ : i < σ.length := by rw [I.len]; exact (List.getElem?_eq_some_iff.mp hi).1
  have cne := I.cne
  have tracked : ∀ {a : Addr} {h' : Heap}, (∃ o, s.heap.get? a = some o ∧ H a = none) → Heap.SameBut a s.heap h' → HOk X.prog X.w H h' := fun {a h'} ha hs b ob e => by
    obtain ⟨_, _, hfree⟩ := ha
    refine (I.hok b ob e).stay (fun c w' hc q => (hs.2 c ?_).trans q) (fun _ q => q) (fun _ _ q => q) fun _ _ _ q => q
    rintro rfl
    rcases hc with rfl | hc
    · rw [hfree] at e; cases e
    · rw [hfree] at hc; cases hc
  rcases hx with hk | hk
  · refine wpAny_storeName_local hk hn (fun h' hn' hs => ?_) hcls
    obtain ⟨oL, _, _, hoL, _⟩ := id hn
    refine h _ ⟨I.ok, I.os, I.bare, ⟨fun b o e n hb hx => ?_, fun b o e n hb hx => ?_, I.base.free, fun b o e hx => ?_, I.base.tups, I.base.frzs, I.base.tbls⟩, ⟨_, hn', fun j y v' e1 e2 e3 => ?_⟩, fun y c e => ?_, I.free, I.freeC, fun p hp => ?_, tracked ⟨oL, hoL, I.free⟩ hs, by simpa using I.len⟩ ⟨_, hs, .inl rfl⟩
    · exact (hs.2 b (Nat.ne_of_lt (Nat.lt_of_lt_of_le (Heap.lt_size e) I.ok.above))).trans (I.base.keep b o e n hb hx)
    · obtain ⟨sl, e1⟩ := I.base.slot b o e n hb hx
      exact ⟨sl, (hs.2 b (Nat.ne_of_lt (Nat.lt_of_lt_of_le (Heap.lt_size e) I.ok.above))).trans e1⟩
    · obtain ⟨o', e1⟩ := I.base.there b o e hx
      exact ⟨o', (hs.2 b (Nat.ne_of_lt (Nat.lt_of_lt_of_le (Heap.lt_size e) I.ok.above))).trans e1⟩
    · by_cases hj : j = i
      · subst hj
        rw [hi] at e1; cases e1
        rw [List.getElem?_set_self hiσ] at e2
        cases e2
        exact ⟨u, r, .inl ⟨hk, by simp⟩⟩
      · rw [List.getElem?_set_ne (Ne.symm hj)] at e2
        obtain ⟨u', r', q⟩ := hl j y v' e1 e2 e3
        refine ⟨u', r', ?_⟩
        rcases q with ⟨k, e⟩ | ⟨k, c, e, z⟩
        · refine .inl ⟨k, ?_⟩
          have : y ≠ x := fun e => hj (nodup_ix hN e1 (e ▸ hi))
          simp [this, e]
        · exact .inr ⟨k, c, e, z.sameBut hs (cne y c e)⟩
    · obtain ⟨w', z⟩ := I.cell y c e
      exact ⟨w', z.sameBut hs (cne y c e)⟩
    · obtain ⟨e, n, ne, nf, d⟩ := I.pin p hp
      exact ⟨(hs.2 p.1 ne).trans e, n, ne, nf, d⟩
  · have hfn : X.fn x = true := by
      rcases hf with z | z
      · exact z
      · rw [z] at hk; cases hk
    obtain ⟨c, hc⟩ := I.ok.has x (.inl hk)
    obtain ⟨w', z⟩ := I.cell x c hc
    refine wpAny_storeName_cell I.ok.kind hk hc z (fun h' hc' hs => ?_)
    obtain ⟨oc, hoc, hocd⟩ := id z
    refine h { s with heap := h' } ⟨I.ok, I.os, I.bare, ⟨fun b o e n hb hx => ?_, fun b o e n hb hx => ?_, I.base.free, fun b o e hx => ?_, I.base.tups, I.base.frzs, I.base.tbls⟩, ⟨m, hn.sameBut hs (Ne.symm (cne x c hc)), fun j y v' e1 e2 e3 => ?_⟩, fun y c' e => ?_, I.free, I.freeC, fun p hp => ?_, tracked ⟨oc, hoc, I.freeC x c hc⟩ hs, by simpa using I.len⟩ ⟨c, hs, .inr hc⟩
    · exact (hs.2 b (Nat.ne_of_lt (Nat.lt_of_lt_of_le (Heap.lt_size e) (I.ok.cab x c hfn hc)))).trans (I.base.keep b o e n hb hx)
    · obtain ⟨sl, e1⟩ := I.base.slot b o e n hb hx
      exact ⟨sl, (hs.2 b (Nat.ne_of_lt (Nat.lt_of_lt_of_le (Heap.lt_size e) (I.ok.cab x c hfn hc)))).trans e1⟩
    · obtain ⟨o', e1⟩ := I.base.there b o e hx
      exact ⟨o', (hs.2 b (Nat.ne_of_lt (Nat.lt_of_lt_of_le (Heap.lt_size e) (I.ok.cab x c hfn hc)))).trans e1⟩
    · by_cases hj : j = i
      · subst hj
        rw [hi] at e1; cases e1
        rw [List.getElem?_set_self hiσ] at e2
        cases e2
        exact ⟨u, r, .inr ⟨.inl hk, c, hc, hc'⟩⟩
      · rw [List.getElem?_set_ne (Ne.symm hj)] at e2
        obtain ⟨u', r', q⟩ := hl j y v' e1 e2 e3
        refine ⟨u', r', ?_⟩
        rcases q with q | ⟨k, c', e, z'⟩
        · exact .inl q
        · refine .inr ⟨k, c', e, z'.sameBut hs ?_⟩
          rintro rfl
          exact hj (nodup_ix hN e1 (I.ok.inj _ _ _ e hc ▸ hi))
    · by_cases hcc : c' = c
      · subst hcc; exact ⟨_, hc'⟩
      · obtain ⟨w2, z2⟩ := I.cell y c' e
        exact ⟨w2, z2.sameBut hs hcc⟩
    · obtain ⟨e, n, ne, nf, d⟩ := I.pin p hp
      refine ⟨(hs.2 p.1 ?_).trans e, n, ne, nf, d⟩
      intro q
      rw [q, hoc] at e
      have q' : oc = p.2 := Option.some.inj e
      exact d w' (by rw [← q']; exact hocd)
theorem store_ok {M : Model} {A : Around} {E : Value → Shared → Prop} {i : Nat} {x : Str} {v : V} {u : Value} {Q : Unit → Shared → Prop} (I : Inv X pins σ H s) (hN : X.N.Nodup) (hi : X.N[i]? = some x) (hx : Loc X.env.scope x) (r : RelV v u)
    (h : ∀ s', Inv X pins (σ.set i (some v)) H s' → Q () s') (hf : X.fn x = true ∨ X.env.scope.names.lookup x = some .local := by first | exact .inl rfl | exact .inr rfl | assumption) : wpAny M A (storeName X.env x u) Q E s :=
  store_ok2 I hN hi hx r (fun s' I' _ => h s' I') hf
theorem Inv.call' {s' : Shared} {ch : List Addr} (I : Inv X pins σ H s) (ho : s'.os = s.os) (u : Un (frs X.stack) ch H H' s.heap s'.heap) (hok : HOk X.prog X.w H' s'.heap) (hg : AllBare s'.gens)
    (hch : ∀ b ∈ ch, (b ∈ X.ex ∨ X.s₀.heap.objs.size ≤ b) ∧ b ≠ X.env.locals ∧ (∀ x c, X.env.cells.lookup x = some c → c ≠ b) ∧ ∀ p ∈ X.pn ++ pins, p.1 ≠ b) : Inv X pins σ H' s' := by
  obtain ⟨h', g', d', t', o'⟩ := s'
  have e : o' = s.os := ho
  subst e
  exact I.call (g' := g') (t' := t') (d' := d') u hok hg hch
end
abbrev XK := Value → Option Addr → Hp → Prop
abbrev St := List (Option V)
abbrev VK := V → Hp → Prop
abbrev TE := St → Hp → VK → Prop
abbrev TT := St → Hp → (Bool → Hp → Prop) → Prop
abbrev TA := St → Hp → (List V → Hp → Prop) → Prop
structure Ends where
  nx : St → Hp → Prop
  rt : VK
  bk : St → Hp → Prop := fun _ _ => False
  ct : St → Hp → Prop := fun _ _ => False
abbrev TS := Ends → St → Hp → Prop
inductive EP (X : Cx) (pins : List (Addr × Obj)) (σ : St) (Q : VK) (u : Value) (s' : Shared) : Prop
  | mk (v : V) (H' : Hp) (i : Inv X pins σ H' s') (r : RelV v u) (q : Q v H')
inductive TP (X : Cx) (pins : List (Addr × Obj)) (σ : St) (Q : Bool → Hp → Prop) (b : Bool) (s' : Shared) : Prop
  | mk (H' : Hp) (i : Inv X pins σ H' s') (q : Q b H')
inductive AP (X : Cx) (pins : List (Addr × Obj)) (σ : St) (Q : List V → Hp → Prop) (us : List Value) (s' : Shared) : Prop
  | mk (vs : List V) (H' : Hp) (i : Inv X pins σ H' s') (r : Vals vs us) (q : Q vs H')
inductive NP (X : Cx) (pins : List (Addr × Obj)) (Q : St → Hp → Prop) (s' : Shared) : Prop
  | mk (σ' : St) (H' : Hp) (i : Inv X pins σ' H' s') (q : Q σ' H')
inductive VP (X : Cx) (pins : List (Addr × Obj)) (Q : V → Hp → Prop) (u : Value) (s' : Shared) : Prop
  | mk (v : V) (σ' : St) (H' : Hp) (i : Inv X pins σ' H' s') (r : RelV v u) (q : Q v H')
def SP (X : Cx) (pins : List (Addr × Obj)) (D : Ends) (f : Flow) (s' : Shared) : Prop :=
  match f with
  | .next => NP X pins D.nx s'
  | .brk => NP X pins D.bk s'
  | .cont => NP X pins D.ct s'
  | .ret u => VP X pins D.rt u s'
def PE (X : Cx) (e : Expr) (t : TE) : Prop :=
  ∀ (pins : List (Addr × Obj)) (s : Shared) (σ : St) (H : Hp) (Q : VK), Inv X pins σ H s → t σ H Q → wpAny (model X.prog X.w) X.A (eval e X.env) (EP X pins σ Q) X.xe s
def PT (X : Cx) (e : Expr) (t : TT) : Prop :=
  ∀ (pins : List (Addr × Obj)) (s : Shared) (σ : St) (H : Hp) (Q : Bool → Hp → Prop), Inv X pins σ H s → t σ H Q → wpAny (model X.prog X.w) X.A (isTrue e X.env (eval e X.env)) (TP X pins σ Q) X.xe s
def PW (X : Cx) (e : Expr) (t : TT) : Prop :=
  ∀ (whole : Sem Value) (pins : List (Addr × Obj)) (s : Shared) (σ : St) (H : Hp) (Q : Bool → Hp → Prop), Inv X pins σ H s → t σ H Q → wpAny (model X.prog X.w) X.A (isTrue e X.env whole) (TP X pins σ Q) X.xe s
def PA (X : Cx) (es : List Expr) (t : TA) : Prop :=
  ∀ (pos : Pos) (pins : List (Addr × Obj)) (s : Shared) (σ : St) (H : Hp) (Q : List V → Hp → Prop), Inv X pins σ H s → t σ H Q → wpAny (model X.prog X.w) X.A (spliced (backTo pos (starEach es X.env))) (AP X pins σ Q) X.xe s
def PS (X : Cx) (st : Stmt) (t : TS) : Prop :=
  ∀ (pins : List (Addr × Obj)) (s : Shared) (σ : St) (H : Hp) (D : Ends), Inv X pins σ H s → t D σ H → wpAny (model X.prog X.w) X.A (exec st X.env) (SP X pins D) X.xe s
def PSs (X : Cx) (st : List Stmt) (t : TS) : Prop :=
  ∀ (pins : List (Addr × Obj)) (s : Shared) (σ : St) (H : Hp) (D : Ends), Inv X pins σ H s → t D σ H → wpAny (model X.prog X.w) X.A (execs st X.env) (SP X pins D) X.xe s
theorem thn {α : Type} {t : Sem α} {Q Q' : α → Shared → Prop} {M : Model} {A : Around} {E : Value → Shared → Prop} {s : Shared} (h : wpAny M A t Q E s) (hQ : ∀ a s, Q a s → Q' a s) : wpAny M A t Q' E s := wpAny_mono h hQ fun _ _ x => x
end L2
namespace L2
open PySem PySem.Spec PyProof.Rows
section
variable {X : Cx}
def tVar (i : Nat) : TE := fun σ H Q => ∃ v, σ[i]? = some (some v) ∧ Q v H
def tC (v : V) : TE := fun _ H Q => Q v H
theorem pe_var {i : Nat} {x : Str} {pos : Pos} (hN : X.N[i]? = some x) (hv : Vis X.env.scope x) (hd : (x == ("__debug__" : Str)) = false := by decide) (hcd : (x == ("__classdict__" : Str)) = false := by decide) : PE X (.Name x pos) (tVar i) := by
  intro pins s σ H Q I h
  obtain ⟨v, e, h⟩ := h
  obtain ⟨m, hn, hl⟩ := I.loc
  obtain ⟨u, r, l⟩ := hl i x v hN e hv
  have fin : EP X pins σ Q u s := ⟨v, H, I, r, h⟩
  rcases l with ⟨hk, hm⟩ | ⟨hk, c, hc, hcell⟩
  · exact wpAny_Name (wpAny_loadName_local I.ok.kind hk hn hm fin) hd
  · rcases hk with hk | hk
    · exact wpAny_Name (wpAny_loadName_cell I.ok.kind hk hc hcell fin) hd
    · exact wpAny_Name (wpAny_loadName_free I.ok.kind hk hc hcell fin hcd) hd
theorem pe_int {i j pos} : PE X (.Constant (.int i) j pos) (tC (.int i)) := fun _ _ _ H _ I h => wpAny_Constant_int ⟨.int i, H, I.tok _, ⟨_, rfl⟩, h⟩
theorem pe_bl {b j pos} : PE X (.Constant (.bool b) j pos) (tC (.bl b)) := fun _ _ _ H _ I h => Constant_bool ⟨.bl b, H, I, rfl, h⟩
theorem pe_non {j pos} : PE X (.Constant .none j pos) (tC .non) := fun _ _ _ H _ I h => Constant_none ⟨.non, H, I, rfl, h⟩
theorem pe_str {x j pos} : PE X (.Constant (.str x) j pos) (tC (.str x)) := fun _ _ _ H _ I h => Calls.Constant_str ⟨.str x, H, I.tok _, ⟨_, rfl⟩, h⟩
def Gl (X : Cx) (x : Str) : Prop := X.env.kindOf x = some .globalImplicit
theorem ld_glob {E : Value → Shared → Prop} {pins : List (Addr × Obj)} {s : Shared} {σ : St} {H : Hp} {x : Str} {u : Value} {pos : Pos} {Q : Value → Shared → Prop} (I : Inv X pins σ H s) (hg : Gl X x) (hm : X.mg x = some u) (h : Q u s)
    (hd : (x == ("__debug__" : Str)) = false := by decide) : wpAny (model X.prog X.w) X.A (eval (.Name x pos) X.env) Q E s :=
  Calls.Name_function_global I.ok.kind hg (Calls.loadGlobal_global (by rw [I.ok.glob]; exact I.mod.glob.keeps I.bk) hm h) hd
theorem ld_blt {E : Value → Shared → Prop} {pins : List (Addr × Obj)} {s : Shared} {σ : St} {H : Hp} {x : Str} {u : Value} {pos : Pos} {Q : Value → Shared → Prop} (I : Inv X pins σ H s) (hg : Gl X x) (hm : X.mg x = none) (hv : bootBuiltins x = some u) (h : Q u s)
    (hn : x ≠ "__name__" := by decide) (hd : (x == ("__debug__" : Str)) = false := by decide) : wpAny (model X.prog X.w) X.A (eval (.Name x pos) X.env) Q E s := by
  obtain ⟨mb, h1, h2⟩ := I.mod.blt
  exact Calls.Name_function_global I.ok.kind hg (Calls.loadGlobal_builtin (by rw [I.ok.glob]; exact I.mod.glob.keeps I.bk) hm (by rw [I.ok.blt]; exact h1.keeps I.bk) ((h2 x hn).trans hv) h) hd
theorem pe_glob {x : Str} {v : V} {u : Value} {pos : Pos} (hg : Gl X x) (hm : X.mg x = some u) (r : RelV v u) (hd : (x == ("__debug__" : Str)) = false := by decide) : PE X (.Name x pos) (tC v) :=
  fun _ _ _ H _ I h => ld_glob I hg hm ⟨v, H, I, r, h⟩ hd
theorem pe_bltn {x : Str} {v : V} {u : Value} {pos : Pos} (hg : Gl X x) (hm : X.mg x = none) (hv : bootBuiltins x = some u) (r : RelV v u) (hn : x ≠ "__name__" := by decide) (hd : (x == ("__debug__" : Str)) = false := by decide) : PE X (.Name x pos) (tC v) :=
  fun _ _ _ H _ I h => ld_blt I hg hm hv ⟨v, H, I, r, h⟩ hn hd
variable {a b : Expr} {ta tb : TE} {pos : Pos}
def tB (t : TE) : TT := fun σ H Q => t σ H fun x H1 => ∃ c, x = .bl c ∧ Q c H1
theorem pt_val {e : Expr} {t : TE} (h : PE X e t) (he : ∀ whole, isTrue e X.env whole = (do let v ← whole; standAt e.pos; holding [v] (truthy v)) := by intro _; rfl) : PT X e (tB t) := by
  intro pins s σ H Q I hw
  refine isTrue_plain (thn (h pins s σ H _ I hw) fun v s1 ⟨x, H1, I1, r1, q1⟩ => ?_) (he _)
  obtain ⟨d, rfl, q⟩ := q1
  cases r1
  exact wpAny_truthy_bool ⟨H1, I1, q⟩
variable {tA tB' : TT} {rest : List Expr}
def tAnd (t u : TT) : TT := fun σ H Q => t σ H fun c H1 => if c = true then u σ H1 Q else Q false H1
def tOr (t u : TT) : TT := fun σ H Q => t σ H fun c H1 => if c = true then Q true H1 else u σ H1 Q
def tNot (t : TT) : TT := fun σ H Q => t σ H fun c H1 => Q (!c) H1
theorem pw_and1 (ha : PT X a tA) : PW X (.BoolOp .And [a] pos) tA := by
  intro wh pins s σ H Q I h
  refine isTrue_and (thn (ha pins s σ H Q I h) fun c s1 e => ?_)
  cases c with
  | true => exact isTrue_and_nil e
  | false => exact e
theorem pw_or1 (ha : PT X a tA) : PW X (.BoolOp .Or [a] pos) tA := by
  intro wh pins s σ H Q I h
  refine isTrue_or (thn (ha pins s σ H Q I h) fun c s1 e => ?_)
  cases c with
  | false => exact isTrue_or_nil e
  | true => exact e
theorem pw_and (ha : PT X a tA) (hb : PW X (.BoolOp .And (b :: rest) pos) tB') : PW X (.BoolOp .And (a :: b :: rest) pos) (tAnd tA tB') := by
  intro wh pins s σ H Q I h
  refine isTrue_and (thn (ha pins s σ H _ I h) fun c s1 ⟨H1, I1, q1⟩ => ?_)
  cases c with
  | true => exact hb wh pins s1 σ H1 Q I1 q1
  | false => exact ⟨H1, I1, q1⟩
theorem pw_or (ha : PT X a tA) (hb : PW X (.BoolOp .Or (b :: rest) pos) tB') : PW X (.BoolOp .Or (a :: b :: rest) pos) (tOr tA tB') := by
  intro wh pins s σ H Q I h
  refine isTrue_or (thn (ha pins s σ H _ I h) fun c s1 ⟨H1, I1, q1⟩ => ?_)
  cases c with
  | true => exact ⟨H1, I1, q1⟩
  | false => exact hb wh pins s1 σ H1 Q I1 q1
theorem pt_not (ha : PT X a tA) : PT X (.UnaryOp .Not a pos) (tNot tA) := by
  intro pins s σ H Q I h
  exact isTrue_not (thn (ha pins s σ H (fun c H1 => Q (!c) H1) I h) fun _ _ ⟨a, b, c⟩ => ⟨a, b, c⟩)
def tAndV (ta tb : TE) : TE := fun σ H Q => ta σ H fun x H1 => ∃ c, x = .bl c ∧ if c = true then tb σ H1 Q else Q (.bl false) H1
theorem pe_one {op} {t : TE} (h : PE X a t) : PE X (.BoolOp op [a] pos) t := fun pins s σ H Q I hw => BoolOp_one (h pins s σ H Q I hw)
theorem pe_and (ha : PE X a ta) (hb : PE X (.BoolOp .And (b :: rest) pos) tb) : PE X (.BoolOp .And (a :: b :: rest) pos) (tAndV ta tb) := by
  intro pins s σ H Q I h
  refine BoolOp_and (thn (ha pins s σ H _ I h) fun v s1 hq0 => ?_)
  obtain ⟨x, H1, I1, r1, q1⟩ := hq0
  obtain ⟨c, rfl, q1⟩ := q1
  cases r1
  refine wpAny_truthy_bool ?_
  cases c with
  | true => exact hb pins s1 σ H1 Q I1 q1
  | false => exact ⟨.bl false, H1, I1, rfl, q1⟩
def tIf (t : TT) (ta tb : TE) : TE := fun σ H Q => t σ H fun c H1 => if c = true then ta σ H1 Q else tb σ H1 Q
theorem pe_ifExp {c : Expr} (hc : PT X c tA) (ha : PE X a ta) (hb : PE X b tb) : PE X (.IfExp c a b pos) (tIf tA ta tb) := by
  intro pins s σ H Q I h
  refine wpAny_IfExp (thn (hc pins s σ H _ I h) fun d s1 ⟨H1, I1, q1⟩ => ?_)
  cases d with
  | true => exact ha pins s1 σ H1 Q I1 q1
  | false => exact hb pins s1 σ H1 Q I1 q1
end
end L2
namespace L2
open PySem PySem.Spec PyProof.Rows
def SqL (K : PySem.W.Frag) (H : Hp) (a : Addr) (xs : List V) : Prop :=
  Rd H a (.lst xs) ∨
    ∃ (o : Obj) (its : Array Value) (n : Nat), K.lookup a = some o ∧ o.cls = .type "list" ∧ o.dict = none ∧ o.data = .seq its n ∧ its.size ≤ sizeLine ∧ Vals xs its.toList
def SqT (K : PySem.W.Frag) (H : Hp) (a : Addr) (xs : List V) : Prop :=
  Rd H a (.tup xs) ∨
    ∃ (o : Obj) (its : Array Value) (n : Nat), K.lookup a = some o ∧ o.cls = .type "tuple" ∧ o.data = .seq its n ∧ its.size ≤ sizeLine ∧ Vals xs its.toList ∧ o.dict = none
def absV : Value → Option V
  | .none => some .non
  | .bool b => some (.bl b)
  | .int i _ => some (.int i)
  | .str x _ => some (.str x)
  | .bytes b _ => some (.byt b)
  | .float b _ => some (.flt b)
  | .ref a => some (.ref a)
  | .type n => some (.ty n)
  | _ => none
theorem RelV.abs {x : V} {u : Value} (r : RelV x u) : absV u = some x := by
  cases x with
  | non => cases r; rfl
  | bl _ => cases r; rfl
  | int _ => obtain ⟨t, rfl⟩ := r; rfl
  | str _ => obtain ⟨t, rfl⟩ := r; rfl
  | byt _ => obtain ⟨t, rfl⟩ := r; rfl
  | flt _ => obtain ⟨t, rfl⟩ := r; rfl
  | ref _ => cases r; rfl
  | ty _ => cases r; rfl
theorem RelV.inj {x y : V} {u : Value} (r : RelV x u) (q : RelV y u) : x = y := Option.some.inj (r.abs.symm.trans q.abs)
theorem Vals.inj : ∀ {xs ys : List V} {us : List Value}, Vals xs us → Vals ys us → xs = ys
  | _, _, _, .nil, .nil => rfl
  | _, _, _, .cons r t, .cons r' t' => by rw [r.inj r', Vals.inj t t']
section
variable {X : Cx} {pins : List (Addr × Obj)} {σ : St} {H : Hp} {s : Shared} {a : Addr} {xs ys : List V}
theorem SqL.of {K : PySem.W.Frag} (h : H a = some (.lst xs)) : SqL K H a xs := .inl (.inl h)
theorem SqT.of {K : PySem.W.Frag} (h : H a = some (.tup xs)) : SqT K H a xs := .inl (.inl h)
theorem Inv.list (I : Inv X pins σ H s) (h : SqL X.K H a xs) : ∃ its : List Value, Vals xs its ∧ PlainL s.heap a its.toArray ∧ xs.length ≤ sizeLine := by
  rcases h with h | ⟨o, its, n, hk, hc, hd, hs, hz, r⟩
  · obtain ⟨z, its, n, r, e⟩ := h.ok I.hok
    exact ⟨its, r, ⟨_, n, e, rfl, rfl, rfl⟩, z⟩
  · refine ⟨its.toList, r, ⟨o, n, I.kIn a o hk, hc, hd, by simpa using hs⟩, ?_⟩
    have e := r.length
    simp only [Array.length_toList] at e
    omega
theorem Inv.tuple (I : Inv X pins σ H s) (h : SqT X.K H a xs) : ∃ its : List Value, Vals xs its ∧ IsTup s.heap a its.toArray ∧ xs.length ≤ sizeLine := by
  rcases h with h | ⟨o, its, n, hk, hc, hs, hz, r, _⟩
  · obtain ⟨z, its, r, p⟩ := h.ok I.hok
    exact ⟨its, r, p.tup, z⟩
  · refine ⟨its.toList, r, ⟨o, I.kIn a o hk, hc, n, by simpa using hs⟩, ?_⟩
    have e := r.length
    simp only [Array.length_toList] at e
    omega
theorem Inv.list_inj (I : Inv X pins σ H s) (h : SqL X.K H a xs) (h' : SqL X.K H a ys) : xs = ys := by
  obtain ⟨its, r, ⟨o, n, e, _, _, d⟩, _⟩ := I.list h
  obtain ⟨its', r', ⟨o', n', e', _, _, d'⟩, _⟩ := I.list h'
  rw [e] at e'; cases e'
  rw [d] at d'
  injection d' with d1 _
  have : its = its' := by simpa using congrArg Array.toList d1
  subst this
  exact r.inj r'
theorem Inv.tuple_inj (I : Inv X pins σ H s) (h : SqT X.K H a xs) (h' : SqT X.K H a ys) : xs = ys := by
  obtain ⟨its, r, ⟨o, e, _, n, d⟩, _⟩ := I.tuple h
  obtain ⟨its', r', ⟨o', e', _, n', d'⟩, _⟩ := I.tuple h'
  rw [e] at e'; cases e'
  rw [d] at d'
  injection d' with d1 _
  have : its = its' := by simpa using congrArg Array.toList d1
  subst this
  exact r.inj r'
end
abbrev Cx.wish (X : Cx) (E : Value → Shared → Prop) : Cx := { X with xe := E }
abbrev Cx.nox (X : Cx) : Cx := X.wish fun _ _ => False
theorem Cx.Ok.wish {X : Cx} (ok : X.Ok) (E : Value → Shared → Prop) : (X.wish E).Ok :=
  ⟨ok.mod, ok.kind, ok.glob, ok.blt, ok.above, ok.inj, ok.has, ok.cab, ok.hd, ok.frames, ok.stk, ok.exf, ok.bs, ok.bsz, ok.noex, ok.exfs, ok.funs, ok.frf⟩
theorem Cx.Ok.unwish {X : Cx} {E : Value → Shared → Prop} (ok : (X.wish E).Ok) : X.Ok :=
  ⟨ok.mod, ok.kind, ok.glob, ok.blt, ok.above, ok.inj, ok.has, ok.cab, ok.hd, ok.frames, ok.stk, ok.exf, ok.bs, ok.bsz, ok.noex, ok.exfs, ok.funs, ok.frf⟩
section
variable {X : Cx} {pins : List (Addr × Obj)} {σ : St} {H : Hp} {s : Shared} {E : Value → Shared → Prop}
theorem Inv.wish (I : Inv X pins σ H s) (E : Value → Shared → Prop) : Inv (X.wish E) pins σ H s := ⟨I.ok.wish E, I.os, I.bare, I.base, I.loc, I.cell, I.free, I.freeC, I.pin, I.hok, I.len⟩
theorem Inv.unwish (I : Inv (X.wish E) pins σ H s) : Inv X pins σ H s := ⟨I.ok.unwish, I.os, I.bare, I.base, I.loc, I.cell, I.free, I.freeC, I.pin, I.hok, I.len⟩
theorem SP.unwish {D : Ends} {f : Flow} {s' : Shared} (h : SP (X.wish E) pins D f s') : SP X pins D f s' := by
  cases f with
  | next => obtain ⟨σ', H', I, q⟩ := h; exact ⟨σ', H', I.unwish, q⟩
  | brk => obtain ⟨σ', H', I, q⟩ := h; exact ⟨σ', H', I.unwish, q⟩
  | cont => obtain ⟨σ', H', I, q⟩ := h; exact ⟨σ', H', I.unwish, q⟩
  | ret u => obtain ⟨v, σ', H', I, r, q⟩ := h; exact ⟨v, σ', H', I.unwish, r, q⟩
theorem PE.nox {e : Expr} {t : TE} (h : PE X.nox e t) : PE X e t := fun pins s σ H Q I hw =>
  wpAny_mono (h pins s σ H Q (I.wish _) hw) (fun _ _ ⟨v, H', I', r, q⟩ => ⟨v, H', I'.unwish, r, q⟩) fun _ _ z => False.elim z
theorem PT.nox {e : Expr} {t : TT} (h : PT X.nox e t) : PT X e t := fun pins s σ H Q I hw =>
  wpAny_mono (h pins s σ H Q (I.wish _) hw) (fun _ _ ⟨H', I', q⟩ => ⟨H', I'.unwish, q⟩) fun _ _ z => False.elim z
theorem PSs.nox {st : List Stmt} {t : TS} (h : PSs X.nox st t) : PSs X st t := fun pins s σ H D I hw =>
  wpAny_mono (h pins s σ H D (I.wish _) hw) (fun _ _ q => q.unwish) fun _ _ z => False.elim z
end
section
variable {X : Cx} {st : Stmt} {rest : List Stmt} {t u : TS} {e : Expr} {te : TE} {pos : Pos}
def tNext : TS := fun D σ H => D.nx σ H
def tSeq (t u : TS) : TS := fun D σ H => t { D with nx := u D } σ H
theorem pss_nil : PSs X [] tNext := fun _ _ σ H _ I h => wpAny_execs_nil ⟨σ, H, I, h⟩
theorem pss_cons (h1 : PS X st t) (h2 : PSs X rest u) : PSs X (st :: rest) (tSeq t u) := by
  intro pins s σ H D I h
  refine wpAny_execs_cons (thn (h1 pins s σ H { D with nx := u D } I h) fun f s1 q => ?_)
  cases f with
  | next =>
    obtain ⟨σ', H', I', q⟩ := q
    exact h2 pins s1 σ' H' D I' q
  | ret v => exact q
  | brk => exact q
  | cont => exact q
theorem pss_one (h1 : PS X st t) : PSs X [st] t := by
  intro pins s σ H D I h
  refine wpAny_execs_cons (thn (h1 pins s σ H D I h) fun f s1 q => ?_)
  cases f with
  | next => exact wpAny_execs_nil q
  | ret v => exact q
  | brk => exact q
  | cont => exact q
theorem Inv.quiet {pins : List (Addr × Obj)} {σ : St} {H : Hp} {s : Shared} (I : Inv X pins σ H s) : interactive X.env = false := by simp [interactive, I.ok.kind]
def tDrop (te : TE) : TS := fun D σ H => te σ H fun _ H1 => D.nx σ H1
theorem ps_expr (he : PE X e te) (hs : swapsWith e none pos.line X.env = pure false := by rfl) : PS X (.Expr e pos) (tDrop te) := by
  intro pins s σ H D I h
  exact wpAny_Expr_any (thn (he pins s σ H _ I h) fun v s1 ⟨x, H1, I1, r1, q1⟩ => ⟨σ, H1, I1, q1⟩) I.quiet hs
def tRet (te : TE) : TS := fun D σ H => te σ H D.rt
theorem ps_ret (he : PE X e te) : PS X (.Return (some e) pos) (tRet te) := by
  intro pins s σ H D I h
  exact wpAny_Return_some (thn (he pins s σ H _ I h) fun v s1 ⟨x, H1, I1, r1, q1⟩ => ⟨x, σ, H1, I1, r1, q1⟩)
def tIfS (c : TT) (t u : TS) : TS := fun D σ H => c σ H fun b H1 => if b = true then t D σ H1 else u D σ H1
theorem ps_if {c : Expr} {a b : List Stmt} {tc : TT} (hc : PT X c tc) (ha : PSs X a t) (hb : PSs X b u) : PS X (.If c a b pos) (tIfS tc t u) := by
  intro pins s σ H D I h
  refine wpAny_If (thn (hc pins s σ H _ I h) fun d s1 ⟨H1, I1, q1⟩ => ?_)
  cases d with
  | true => exact ha pins s1 σ H1 D I1 q1
  | false => exact hb pins s1 σ H1 D I1 q1
end
abbrev TG := V → St → Hp → (St → Hp → Prop) → Prop
abbrev TGs := List V → St → Hp → (St → Hp → Prop) → Prop
def PG (X : Cx) (target : Expr) (t : TG) : Prop :=
  ∀ (pins : List (Addr × Obj)) (s : Shared) (σ : St) (H : Hp) (v : V) (u : Value) (Q : St → Hp → Prop), Inv X pins σ H s → RelV v u → t v σ H Q →
    wpAny (model X.prog X.w) X.A (assign target X.env u) (fun _ s' => ∃ σ' H', Inv X pins σ' H' s' ∧ Q σ' H') X.xe s
section
variable {X : Cx} {pos : Pos}
def gName (i : Nat) : TG := fun v σ H Q => Q (σ.set i (some v)) H
theorem pg_name {i : Nat} {x : Str} (hN : X.N.Nodup) (hi : X.N[i]? = some x) (hx : Loc X.env.scope x) (hf : X.fn x = true ∨ X.env.scope.names.lookup x = some .local := by first | exact .inl rfl | exact .inr rfl | assumption) : PG X (.Name x pos) (gName i) := by
  intro pins s σ H v u Q I r h
  exact wpAny_assign_Name (store_ok I hN hi hx r (fun s' I' => ⟨_, H, I', h⟩) hf)
def tAsg (te : TE) (g : TG) : TS := fun D σ H => te σ H fun x H1 => g x σ H1 D.nx
theorem ps_asg {tg e : Expr} {te : TE} {g : TG} (he : PE X e te) (hg : PG X tg g) (hs : swapsWithSole [tg] e pos.line X.env = pure false := by rfl) (hw : swappedStores [tg] e X.env = pure none := by rfl)
    (h1 : (assignEach [tg] X.env).map (·.2) = [assign tg X.env] := by rfl) : PS X (.Assign [tg] e pos) (tAsg te g) := by
  intro pins s σ H D I h
  refine wpAny_Assign_stores (thn (he pins s σ H _ I h) fun v s1 hq0 => ?_) hs hw
  obtain ⟨x, H1, I1, r1, q1⟩ := hq0
  rw [h1]
  exact thn (hg pins s1 σ H1 x v _ I1 r1 q1) fun _ s2 ⟨a, b, c, d⟩ => ⟨a, b, c, d⟩
theorem ps_set {i : Nat} {x : Str} {e : Expr} {te : TE} {pos' : Pos} (hN : X.N.Nodup) (hi : X.N[i]? = some x) (hx : Loc X.env.scope x) (he : PE X e te) (hs : swapsWith e (some (.Name x pos')) pos.line X.env = pure false := by rfl) (hf : X.fn x = true ∨ X.env.scope.names.lookup x = some .local := by first | exact .inl rfl | exact .inr rfl | assumption) :
    PS X (.Assign [.Name x pos'] e pos) (tAsg te (gName i)) := by
  intro pins s σ H D I h
  refine wpAny_Assign_Name (thn (he pins s σ H _ I h) fun v s1 hq0 => ?_) hs
  obtain ⟨y, H1, I1, r1, q1⟩ := hq0
  exact store_ok I1 hN hi hx r1 (fun s2 I2 => ⟨_, H1, I2, q1⟩) hf
end
structure It where
  go : Nat → Hp → Prop
  yld : Nat → Hp → V → Hp → Prop
  stop : Nat → Hp → Prop
def FpOk (X : Cx) (pins : List (Addr × Obj)) (H : Hp) (b : Addr) : Prop :=
  H b = none ∧ b ≠ X.env.locals ∧ b ∉ X.fs ∧ (b ∈ X.ex ∨ X.s₀.heap.objs.size ≤ b) ∧ (∀ x c, X.env.cells.lookup x = some c → c ≠ b) ∧ ∀ p ∈ X.pn ++ pins, p.1 ≠ b
theorem Inv.fpOk {X : Cx} {pins : List (Addr × Obj)} {σ : St} {H H' : Hp} {s : Shared} {b : Addr} (I : Inv X pins σ H s) (hb : s.heap.objs.size ≤ b) (hn : H' b = none) : FpOk X pins H' b := by
  refine ⟨hn, Nat.ne_of_gt (Nat.lt_of_lt_of_le I.lt hb), I.nofs hb, .inr (Nat.le_trans I.sz hb), fun x c e z => ?_, fun p hp z => ?_⟩
  · obtain ⟨v, q⟩ := I.cell x c e
    exact absurd (Nat.lt_of_lt_of_le q.lt (by rw [z]; exact hb)) (Nat.lt_irrefl _)
  · exact absurd (Nat.lt_of_lt_of_le (Heap.lt_size (I.pin p hp).1) (by rw [z]; exact hb)) (Nat.lt_irrefl _)
structure Turn (P : Program) (w : World) (K : PySem.W.Frag) (tg : Expr) (J : It) (fp : List Addr) (it : Addr) (tn : Nat → Heap → Prop) : Prop where
  mem : it ∈ fp
  obj : ∀ i h, tn i h → ∀ b ∈ fp, ∃ o, h.get? b = some o ∧ ∀ v, o.data ≠ .cell v
  keep : ∀ i h h', tn i h → (∀ b ∈ fp, ∀ o, h.get? b = some o → h'.get? b = some o) → tn i h'
  item : ∀ (X : Cx), X.prog = P → X.w = w → X.K = K → X.calm = true → ∀ (i : Nat) (pins : List (Addr × Obj)) (s : Shared) (σ : St) (H : Hp) (E : Value → Shared → Prop), Inv X pins σ H s → (∀ b ∈ fp, FpOk X pins H b) → tn i s.heap → J.go i H →
    wpAny (model P w) X.A (pyNext (.ref it)) (fun r s1 => ∃ u, r = some u ∧
      wpAny (model P w) X.A (letOwnedTupleGo tg (.ref it) u) (fun _ s2 => ∃ x H', Inv X pins σ H' s2 ∧ RelV x u ∧ J.yld i H x H' ∧ tn (i + 1) s2.heap ∧ ∀ b ∈ fp, H' b = none) E s1) E s
  done : ∀ (X : Cx), X.prog = P → X.w = w → X.K = K → X.calm = true → ∀ (i : Nat) (pins : List (Addr × Obj)) (s : Shared) (σ : St) (H : Hp) (E : Value → Shared → Prop), Inv X pins σ H s → (∀ b ∈ fp, FpOk X pins H b) → tn i s.heap → J.stop i H →
    wpAny (model P w) X.A (pyNext (.ref it)) (fun r s1 => r = none ∧ Inv X pins σ H s1) E s
  self : ∀ (A : Around) (i : Nat) (s : Shared) (Q : Value → Shared → Prop) (E : Value → Shared → Prop), tn i s.heap → Q (.ref it) s → wpAny (model P w) A (pyIter (.ref it)) Q E s
abbrev TI := St → Hp → (It → Hp → Prop) → Prop
def PIE (X : Cx) (pins : List (Addr × Obj)) (σ : St) (tg : Expr) (R : It → Hp → Prop) (itv : Value) (s2 : Shared) : Prop :=
  ∃ (it : Addr) (fp : List Addr) (tn : Nat → Heap → Prop) (J : It) (H' : Hp), itv = .ref it ∧ Inv X pins σ H' s2 ∧ Turn X.prog X.w X.K tg J fp it tn ∧ tn 0 s2.heap ∧ (∀ b ∈ fp, FpOk X pins H' b) ∧ R J H'
def PI (X : Cx) (tg iter : Expr) (wi : TI) : Prop :=
  ∀ (pins : List (Addr × Obj)) (s : Shared) (σ : St) (H : Hp) (R : It → Hp → Prop), Inv X pins σ H s → wi σ H R →
    wpAny (model X.prog X.w) X.A (eval iter X.env) (fun v s1 => wpAny (model X.prog X.w) X.A (pyIter v) (PIE X pins σ tg R) X.xe s1) X.xe s
theorem go_of {M : Model} {A : Around} {E : Value → Shared → Prop} {s : Shared} {tg : Expr} {it : Addr} {u : Value} {o : Obj} {n : String} {vs : Array Value} {Q : Unit → Shared → Prop} (ho : s.heap.get? it = some o) (hc : o.cls = .type n) (hd : o.data = .fields vs)
    (hn : ["enumerate", "zip", "dict_itemiterator", "dict_reverseitemiterator", "odict_iterator", "itertools.zip_longest", "itertools.pairwise"].contains n = false) (hQ : Q () s) : wpAny M A (letOwnedTupleGo tg (.ref it) u) Q E s := by
  unfold letOwnedTupleGo
  cases tg <;> first
    | exact wpAny_pure hQ
    | (cases u <;> first
        | exact wpAny_pure hQ
        | (refine wpAny_bind (wpAny_load ho ?_)
           rw [hc, hd]
           show wpAny M A (if (["enumerate", "zip", "dict_itemiterator", "dict_reverseitemiterator", "odict_iterator", "itertools.zip_longest", "itertools.pairwise"].contains n && vs[0]? == some (rawInt _)) = true then _ else _) Q E s
           rw [if_neg (by intro h; rw [hn, Bool.false_and] at h; cases h)]
           exact wpAny_pure hQ))
def Itr (lo : Int) (n : Nat) : It := ⟨fun i _ => i < n, fun i H x H' => H' = H ∧ x = .int (lo + i), fun i _ => n ≤ i⟩
theorem turn_range {P : Program} {w : World} {K : PySem.W.Frag} {tg : Expr} (it : Addr) (lo : Int) (n : Nat) : Turn P w K tg (Itr lo n) [it] it (fun i h => IsRangeIter h it (lo + (i : Nat) * 1) ((n : Int) - (i : Nat)) 1) where
  mem := by simp
  obj := fun i h st b hb => by
    have e : b = it := by simpa using hb
    subst e
    exact ⟨_, st, fun v z => by
      have z' : Data.fields _ = Data.cell v := z
      cases z'⟩
  keep := fun i h h' st k => k it (by simp) _ st
  item := by
    intro X hP hw hK hc i pins s σ H E I hf st hg
    subst hP hw hK
    obtain ⟨f0, f1, f2, f3, f4, f5⟩ := hf it (by simp)
    have W := Walks.range (prog := X.prog) (w := X.w) (I.ok.hd hc) it lo 1 n
    refine W.item i s _ _ hg st fun v h' tk hv st' kk => ?_
    obtain ⟨t, rfl⟩ := hv
    have I1 : Inv X pins σ H { s with heap := h', toks := tk } := I.turned (fun b o hb e => kk b o (by simpa using hb) e) f0 f1 f3 f4 f5
    refine ⟨_, rfl, go_of (s := { s with heap := h', toks := tk }) (n := "range_iterator") st' rfl rfl (by decide) ⟨.int (lo + i), H, I1, ⟨t, ?_⟩, ⟨rfl, rfl⟩, st', fun b hb => (hf b hb).1⟩⟩
    rw [Int.mul_one]
  done := by
    intro X hP hw hK hc i pins s σ H E I hf st hg
    subst hP hw hK
    obtain ⟨f0, f1, f2, f3, f4, f5⟩ := hf it (by simp)
    exact wpAny_pyNext_range_end (I.ok.hd hc) st (by have : n ≤ i := hg; omega) fun h' eb => ⟨rfl, I.turned (t' := s.toks) (fun b o hb e => eb b o hb e) f0 f1 f3 f4 f5⟩
  self := fun _ _ _ _ _ st h => wpAny_pyIter_rangeiter st h
end L2
namespace L2
open PySem PySem.Spec PyProof.Rows
section
variable {X : Cx} {tg : Expr}
theorem range_it {pins : List (Addr × Obj)} {σ : St} {H : Hp} {s : Shared} {R : It → Hp → Prop} {E : Value → Shared → Prop} {lo hi : Int} {t u v : Tok} {tk : Nat} (I : Inv X pins σ H s) (h1 : -(2 ^ 62) ≤ lo) (h2 : lo < 2 ^ 62) (h3 : -(2 ^ 62) ≤ hi) (h4 : hi < 2 ^ 62)
    (q : R (Itr lo (hi - lo).toNat) H) : wpAny (model X.prog X.w) X.A (pyIter (.ref s.heap.objs.size)) (PIE X pins σ tg R) E { s with heap := s.heap.push { cls := .type "range", data := .fields #[.int lo t, .int hi u, .int 1 v] }, toks := tk } := by
  refine wpAny_pyIter_range (IsRange.new ..) (small_one h1 h2 h3 h4) ?_
  have I1 : Inv X pins σ H { s with heap := s.heap.push { cls := .type "range", data := .fields #[.int lo t, .int hi u, .int 1 v] }, toks := tk } := I.kept fun b o e => Heap.get?_push_of_some _ e
  refine ⟨(s.heap.push { cls := .type "range", data := .fields #[.int lo t, .int hi u, .int 1 v] }).objs.size, [(s.heap.push { cls := .type "range", data := .fields #[.int lo t, .int hi u, .int 1 v] }).objs.size], _, _, H, rfl,
    I1.kept (t' := tk) fun b o e => Heap.get?_push_of_some _ e, turn_range _ lo (hi - lo).toNat, ?_, fun b hb => ?_, q⟩
  · have e1 : lo + ((0 : Nat) : Int) * 1 = lo := by simp
    have e2 : (((hi - lo).toNat : Nat) : Int) - ((0 : Nat) : Int) = Builtin.Range.rangeSize lo hi 1 := by rw [rangeSize_one]; split <;> omega
    show IsRangeIter _ _ (lo + ((0 : Nat) : Int) * 1) ((((hi - lo).toNat : Nat) : Int) - ((0 : Nat) : Int)) 1
    rw [e1, e2]
    exact Heap.get?_push_size _ rfl
  · have e : b = (s.heap.push { cls := .type "range", data := .fields #[.int lo t, .int hi u, .int 1 v] }).objs.size := by simpa using hb
    subst e
    exact I1.fpOk (Nat.le_refl _) (I1.hok.fresh (Nat.le_refl _))
def iRng1 (ta : TA) : TI := fun σ H R => ta σ H fun vs H1 => ∃ j : Int, vs = [.int j] ∧ -(2 ^ 62) ≤ j ∧ j < 2 ^ 62 ∧ R (Itr 0 j.toNat) H1
theorem pi_range1 {a : Expr} {ta : TA} {p pos : Pos} (hg : Gl X "range") (hm : X.mg "range" = none) (ha : PA X [a] ta) (hs : starEach [a] X.env = [(false, eval a X.env)] := by rfl) : PI X tg (.Call (.Name "range" p) [a] [] pos) (iRng1 ta) := by
  intro pins s σ H R I h
  refine Call_ (ld_blt I hg hm boot_range (PyProof.Rows.callWith_type1 (thn (ha pos pins s σ H _ I h) fun us s1 ⟨vs, H1, I1, r1, q1⟩ => ?_) hs rfl))
  obtain ⟨j, e, q1, q2, q⟩ := q1
  subst e
  cases r1 with
  | cons r rr =>
    cases rr
    obtain ⟨t, rfl⟩ := r
    exact call_range_1 (range_it I1 (by omega) (by omega) q1 q2 (by simpa using q))
def tFor (wi : TI) (g : TG) (tb : TS) : TS := fun D σ H => wi σ H fun J H1 => ∃ W : Nat → Nat → St → Hp → Prop, (∃ m, W 0 m σ H1) ∧ ∀ i m σ H, W i m σ H →
  (J.stop i H ∧ D.nx σ H) ∨ (J.go i H ∧ ∃ N : St → Hp → Prop, (∀ σ' H', N σ' H' → ∃ m', m' < m ∧ W (i + 1) m' σ' H') ∧ ∀ x H', J.yld i H x H' → g x σ H' fun σ2 H2 => tb { D with nx := N, ct := N, bk := D.nx } σ2 H2)
def pinsAt (fp : List Addr) (h : Heap) : List (Addr × Obj) := fp.filterMap fun b => (h.get? b).map fun o => (b, o)
theorem mem_pinsAt {fp : List Addr} {h : Heap} {b : Addr} {o : Obj} (hb : b ∈ fp) (e : h.get? b = some o) : (b, o) ∈ pinsAt fp h := List.mem_filterMap.mpr ⟨b, hb, by rw [e]; rfl⟩
theorem of_pinsAt {fp : List Addr} {h : Heap} {p : Addr × Obj} (hp : p ∈ pinsAt fp h) : p.1 ∈ fp ∧ h.get? p.1 = some p.2 := by
  obtain ⟨b, hb, e⟩ := List.mem_filterMap.mp hp
  cases q : h.get? b with
  | none => rw [q] at e; cases e
  | some o =>
    rw [q] at e
    have e' : (b, o) = p := Option.some.inj e
    subst e'
    exact ⟨hb, q⟩
theorem Inv.pinned {pins : List (Addr × Obj)} {σ : St} {H : Hp} {s : Shared} {fp : List Addr} (I : Inv X pins σ H s) (hf : ∀ b ∈ fp, FpOk X pins H b) (ho : ∀ b ∈ fp, ∃ o, s.heap.get? b = some o ∧ ∀ v, o.data ≠ .cell v) : Inv X (pins ++ pinsAt fp s.heap) σ H s :=
  I.pins_of fun p hp => (List.mem_append.mp hp).elim (fun z => I.pin p (List.mem_append_right _ z)) fun z => by
    obtain ⟨hb, e⟩ := of_pinsAt z
    obtain ⟨f0, f1, f2, _⟩ := hf p.1 hb
    obtain ⟨o, e', d⟩ := ho p.1 hb
    rw [e] at e'; cases e'
    exact ⟨e, f0, f1, f2, d⟩
theorem Inv.unpinned {pins pl : List (Addr × Obj)} {σ : St} {H : Hp} {s : Shared} (I : Inv X (pins ++ pl) σ H s) : Inv X pins σ H s := I.pins_of fun p hp => I.pin p (List.mem_append_right _ (List.mem_append_left _ hp))
theorem ps_for {iter : Expr} {body : List Stmt} {wi : TI} {g : TG} {tb : TS} {pos : Pos} (hp : PassesOwn (model X.prog X.w) X.A X.env X.xe) (hc : X.calm = true) (hi : PI X tg iter wi) (hg : PG X tg g) (hb : PSs X body tb)
    (hs : ∀ x, foldedSetIterable iter X.env x = pure x := by intro _; rfl) : PS X (.For tg iter body [] pos) (tFor wi g tb) := by
  intro pins s σ H D I h
  refine wpAny_For (thn (hi pins s σ H _ I h) fun v s1 h1 => thn h1 fun itv s2 h2 => ?_) hs
  obtain ⟨it, fp, tn, J, H2, e, I2, T, st2, f2, W, ⟨m0, w0⟩, turn⟩ := h2
  subst e
  have stat : ∀ {H' : Hp}, (∀ b ∈ fp, H' b = none) → ∀ b ∈ fp, FpOk X pins H' b := fun hn b hb => ⟨hn b hb, (f2 b hb).2⟩
  refine codeAny_forLoop_any (fun n s' => ∃ i σ' H', Inv X pins σ' H' s' ∧ tn i s'.heap ∧ (∀ b ∈ fp, H' b = none) ∧ W i n σ' H') ?_ m0 ⟨0, σ, H2, I2, st2, fun b hb => (f2 b hb).1, w0⟩
  rintro n s3 ⟨i, σ3, H3, I3, st3, fr3, w3⟩
  rcases turn i n σ3 H3 w3 with ⟨stop, qn⟩ | ⟨go, N, hN, step⟩
  · refine wpAny_passesOwn hp (thn (T.done X rfl rfl rfl hc i pins s3 σ3 H3 X.xe I3 (stat fr3) st3 stop) fun r s4 ⟨hr, I4⟩ => ?_)
    subst hr
    exact wpAny_execs_nil ⟨σ3, H3, I4, qn⟩
  · refine wpAny_passesOwn hp (thn (T.item X rfl rfl rfl hc i pins s3 σ3 H3 X.xe I3 (stat fr3) st3 go) fun r s4 ⟨u, hr, h4⟩ => ?_)
    subst hr
    refine wpAny_passesOwn hp (thn h4 fun _ s5 hq0 => ?_)
    obtain ⟨x, H5, I5, r5, y5, st5, fr5⟩ := hq0
    have I5' := I5.pinned (stat fr5) (T.obj _ _ st5)
    refine wpAny_passesOwn hp (thn (hg _ s5 σ3 H5 x u _ I5' r5 (step x H5 y5)) fun _ s6 ⟨σ6, H6, I6, q6⟩ => ?_)
    refine wpAny_passesOwn hp (thn (hb _ s6 σ6 H6 _ I6 q6) fun f s7 q7 => ?_)
    have again : ∀ {σ7 : St} {H7 : Hp}, Inv X (pins ++ pinsAt fp s5.heap) σ7 H7 s7 → N σ7 H7 → ∃ m, m < n ∧ ∃ i σ' H', Inv X pins σ' H' s7 ∧ tn i s7.heap ∧ (∀ b ∈ fp, H' b = none) ∧ W i m σ' H' := fun {σ7 H7} I7 n7 => by
      obtain ⟨m', hm, w7⟩ := hN σ7 H7 n7
      refine ⟨m', hm, i + 1, σ7, H7, I7.unpinned, T.keep _ _ _ st5 fun b hb o e => (I7.pin (b, o) (List.mem_append_right _ (List.mem_append_right _ (mem_pinsAt hb e)))).1, fun b hb => ?_, w7⟩
      obtain ⟨o, e, d⟩ := T.obj _ _ st5 b hb
      exact (I7.pin (b, o) (List.mem_append_right _ (List.mem_append_right _ (mem_pinsAt hb e)))).2.1
    cases f with
    | next => obtain ⟨σ7, H7, I7, n7⟩ := q7; exact again I7 n7
    | cont => obtain ⟨σ7, H7, I7, n7⟩ := q7; exact again I7 n7
    | brk => obtain ⟨σ7, H7, I7, q7⟩ := q7; exact ⟨σ7, H7, I7.unpinned, q7⟩
    | ret v => obtain ⟨x7, σ7, H7, I7, r7, q7⟩ := q7; exact ⟨x7, σ7, H7, I7.unpinned, r7, q7⟩
end
end L2
namespace L2
open PySem PySem.Spec PyProof.Rows
abbrev R2 := V → V → Hp → VK → Prop
def OpR (X : Cx) (f : Value → Value → Sem Value) (r : R2) : Prop :=
  ∀ (pins : List (Addr × Obj)) (s : Shared) (σ : St) (H : Hp) (x y : V) (v u : Value) (Q : VK), Inv X pins σ H s → RelV x v → RelV y u → r x y H Q →
    wpAny (model X.prog X.w) X.A (f v u) (EP X pins σ Q) X.xe s
def UnR (X : Cx) (f : Value → Sem Value) (r : V → Hp → VK → Prop) : Prop :=
  ∀ (pins : List (Addr × Obj)) (s : Shared) (σ : St) (H : Hp) (x : V) (v : Value) (Q : VK), Inv X pins σ H s → RelV x v → r x H Q →
    wpAny (model X.prog X.w) X.A (f v) (EP X pins σ Q) X.xe s
def CallR (X : Cx) (f : Value) (r : List V → Hp → VK → Prop) : Prop :=
  ∀ (pins : List (Addr × Obj)) (s : Shared) (σ : St) (H : Hp) (xs : List V) (us : List Value) (Q : VK), Inv X pins σ H s → Vals xs us → r xs H Q →
    wpAny (model X.prog X.w) X.A (call f us) (EP X pins σ Q) X.xe s
def tOp (r : R2) (ta tb : TE) : TE := fun σ H Q => ta σ H fun x H1 => tb σ H1 fun y H2 => r x y H2 Q
def tUn (r : V → Hp → VK → Prop) (ta : TE) : TE := fun σ H Q => ta σ H fun x H1 => r x H1 Q
def rI (C : Int → Int → Prop) (g : Int → Int → V) : R2 := fun x y H Q => ∃ i j, x = .int i ∧ y = .int j ∧ C i j ∧ Q (g i j) H
def rI0 (g : Int → Int → V) : R2 := fun x y H Q => ∃ i j, x = .int i ∧ y = .int j ∧ Q (g i j) H
def rU (g : Int → V) : V → Hp → VK → Prop := fun x H Q => ∃ i, x = .int i ∧ Q (g i) H
section
variable {X : Cx} {a b c : Expr} {ta tb tc : TE} {pos : Pos}
theorem binT (ha : PE X a ta) (hb : PE X b tb) {pins : List (Addr × Obj)} {s : Shared} {σ : St} {H : Hp} {R : V → V → Hp → Prop} (I : Inv X pins σ H s)
    (h : ta σ H fun x H1 => tb σ H1 fun y H2 => R x y H2) {Q : Value → Shared → Prop} {f : Value → Value → Sem Value}
    (hf : ∀ v u s2 x y H2, Inv X pins σ H2 s2 → RelV x v → RelV y u → R x y H2 → wpAny (model X.prog X.w) X.A (f v u) Q X.xe s2) :
    wpAny (model X.prog X.w) X.A (eval a X.env) (fun v s₁ => wpAny (model X.prog X.w) X.A (eval b X.env) (fun u s₂ => wpAny (model X.prog X.w) X.A (f v u) Q X.xe s₂) X.xe s₁) X.xe s := by
  refine thn (ha pins s σ H _ I h) fun v s1 hq0 => ?_
  obtain ⟨x, H1, I1, r1, q1⟩ := hq0
  refine thn (hb pins s1 σ H1 _ I1 q1) fun u s2 hq0 => ?_
  obtain ⟨y, H2, I2, r2, q2⟩ := hq0
  exact hf v u s2 x y H2 I2 r1 r2 q2
theorem pe_op {op : Operator} {r : R2} (ho : OpR X (binaryOp op) r) (ha : PE X a ta) (hb : PE X b tb) : PE X (.BinOp a op b pos) (tOp r ta tb) := by
  intro pins s σ H Q I h
  exact wpAny_BinOp (binT ha hb I h fun v u s2 x y H2 I2 rx ry q => ho pins s2 σ H2 x y v u Q I2 rx ry q)
theorem pe_un {op : UnaryOp} {r : V → Hp → VK → Prop} (ho : UnR X (unaryOp op) r) (ha : PE X a ta) : PE X (.UnaryOp op a pos) (tUn r ta) := by
  intro pins s σ H Q I h
  exact UnaryOp_ (thn (ha pins s σ H _ I h) fun v s1 ⟨x, H1, I1, r1, q1⟩ => ho pins s1 σ H1 x v Q I1 r1 q1)
theorem opI {f : Value → Value → Sem Value} {C : Int → Int → Prop} {g : Int → Int → Int}
    (rule : ∀ (i j : Int) (t u : Tok) (s : Shared) (Q : Value → Shared → Prop) (E : Value → Shared → Prop), C i j → Q (.int (g i j) s.toks) { s with toks := s.toks + 1 } → wpAny (model X.prog X.w) X.A (f (.int i t) (.int j u)) Q E s) :
    OpR X f (rI C fun i j => .int (g i j)) := by
  intro pins s σ H x y v u Q I rx ry h
  obtain ⟨i, j, rfl, rfl, hc, q⟩ := h
  obtain ⟨t, rfl⟩ := rx
  obtain ⟨t', rfl⟩ := ry
  exact rule i j t t' s _ _ hc ⟨.int (g i j), H, I.tok _, ⟨_, rfl⟩, q⟩
theorem opI0 {f : Value → Value → Sem Value} {g : Int → Int → Int}
    (rule : ∀ (i j : Int) (t u : Tok) (s : Shared) (Q : Value → Shared → Prop) (E : Value → Shared → Prop), Q (.int (g i j) s.toks) { s with toks := s.toks + 1 } → wpAny (model X.prog X.w) X.A (f (.int i t) (.int j u)) Q E s) :
    OpR X f (rI0 fun i j => .int (g i j)) := by
  intro pins s σ H x y v u Q I rx ry h
  obtain ⟨i, j, rfl, rfl, q⟩ := h
  obtain ⟨t, rfl⟩ := rx
  obtain ⟨t', rfl⟩ := ry
  exact rule i j t t' s _ _ ⟨.int (g i j), H, I.tok _, ⟨_, rfl⟩, q⟩
theorem opB0 {f : Value → Value → Sem Value} {g : Int → Int → Bool}
    (rule : ∀ (i j : Int) (t u : Tok) (s : Shared) (Q : Value → Shared → Prop) (E : Value → Shared → Prop), Q (.bool (g i j)) s → wpAny (model X.prog X.w) X.A (f (.int i t) (.int j u)) Q E s) :
    OpR X f (rI0 fun i j => .bl (g i j)) := by
  intro pins s σ H x y v u Q I rx ry h
  obtain ⟨i, j, rfl, rfl, q⟩ := h
  obtain ⟨t, rfl⟩ := rx
  obtain ⟨t', rfl⟩ := ry
  exact rule i j t t' s _ _ ⟨.bl (g i j), H, I, rfl, q⟩
def CPow (i j : Int) : Prop := 0 ≤ j ∧ j ≤ 1000000 ∧ i.natAbs < 2 ^ 64
def CMul (i j : Int) : Prop := (-(2 ^ 64) < i ∧ i < 2 ^ 64) ∨ (-(2 ^ 64) < j ∧ j < 2 ^ 64)
theorem CMul.ok {i j : Int} (h : CMul i j) : IntMulOk i j := by
  rcases h with ⟨h1, h2⟩ | ⟨h1, h2⟩
  · exact .of_left (intBits_le_64 h1 h2)
  · exact .of_right (intBits_le_64 h1 h2)
theorem op_add : OpR X (binaryOp .Add) (rI0 fun i j => .int (i + j)) := opI0 fun _ _ _ _ _ _ _ q => add_int q
theorem op_sub : OpR X (binaryOp .Sub) (rI0 fun i j => .int (i - j)) := opI0 fun _ _ _ _ _ _ _ q => sub_int q
theorem op_modN : OpR X (binaryOp .Mod) (rI (fun _ j => j ≠ 0) fun i j => .int (i.fmod j)) := opI fun _ _ _ _ _ _ _ hc q => mod_int' hc q
theorem op_pow : OpR X (binaryOp .Pow) (rI CPow fun i j => .int (i ^ j.toNat)) := opI fun _ _ _ _ _ _ _ hc q => pow_int_small hc.1 hc.2.1 hc.2.2 q
theorem unI {f : Value → Sem Value} {g : Int → Int}
    (rule : ∀ (i : Int) (t : Tok) (s : Shared) (Q : Value → Shared → Prop) (E : Value → Shared → Prop), Q (.int (g i) s.toks) { s with toks := s.toks + 1 } → wpAny (model X.prog X.w) X.A (f (.int i t)) Q E s) :
    UnR X f (rU fun i => .int (g i)) := by
  intro pins s σ H x v Q I rx h
  obtain ⟨i, rfl, q⟩ := h
  obtain ⟨t, rfl⟩ := rx
  exact rule i t s _ _ ⟨.int (g i), H, I.tok _, ⟨_, rfl⟩, q⟩
theorem un_neg : UnR X (unaryOp .USub) (rU fun i => .int (-i)) := unI fun _ _ _ _ _ q => neg_int q
end
section
variable {X : Cx} {a b c : Expr} {ta tb tc : TE} {pos : Pos}
theorem fin_bl {pins : List (Addr × Obj)} {σ : St} {H : Hp} {s : Shared} {Q : VK} {k k' : Bool} (I : Inv X pins σ H s) (q : Q (.bl k) H) (e : k = k') : EP X pins σ Q (.bool k') s := by
  subst e
  exact ⟨.bl k, H, I, rfl, q⟩
theorem op_lt : OpR X (compareOp .Lt) (rI0 fun i j => .bl (decide (i < j))) := opB0 fun _ _ _ _ _ _ _ q => lt_int q
theorem op_gt : OpR X (compareOp .Gt) (rI0 fun i j => .bl (decide (j < i))) := opB0 fun _ _ _ _ _ _ _ q => gt_int q
theorem op_ge : OpR X (compareOp .GtE) (rI0 fun i j => .bl (decide (j ≤ i))) := opB0 fun _ _ _ _ _ _ _ q => ge_int q
theorem op_notN : OpR X (compareOp .IsNot) (fun x y H Q => y = .non ∧ Q (.bl (!decide (x = .non))) H) := by
  intro pins s σ H x y v u Q I rx ry h
  obtain ⟨rfl, q⟩ := h
  cases ry
  refine isnot_none_gen (fin_bl I q ?_)
  cases x <;> first
    | (cases rx; rfl)
    | (obtain ⟨t, rfl⟩ := rx; rfl)
theorem OpR.or {f : Value → Value → Sem Value} {r r' : R2} (h : OpR X f r) (h' : OpR X f r') : OpR X f (fun x y H Q => r x y H Q ∨ r' x y H Q) := by
  intro pins s σ H x y v u Q I rx ry q
  rcases q with q | q
  · exact h pins s σ H x y v u Q I rx ry q
  · exact h' pins s σ H x y v u Q I rx ry q
theorem nomark (b : Expr) {op : CmpOp} (h : op ≠ .In := by decide) (h2 : op ≠ .NotIn := by decide) : behindInMarks op b = false := by
  have e1 : (op == CmpOp.In) = false := by cases op <;> first | rfl | exact absurd rfl h
  have e2 : (op == CmpOp.NotIn) = false := by cases op <;> first | rfl | exact absurd rfl h2
  cases b <;> simp [behindInMarks, e1, e2]
theorem pe_cmpR {op : CmpOp} {r : R2} (ho : OpR X (compareOp op) r) (ha : PE X a ta) (hb : PE X b tb) (hm : behindInMarks op b = false) : PE X (.Compare a [op] [b] pos) (tOp r ta tb) := by
  intro pins s σ H Q I h
  exact wpAny_Compare1 (binT ha hb I h fun v u s2 x y H2 I2 rx ry q => ho pins s2 σ H2 x y v u Q I2 rx ry q) hm
def tTest (t : TE) : TT := fun σ H Q => t σ H fun x H' => ∃ k, x = .bl k ∧ Q k H'
theorem pt_cmpR {op : CmpOp} {r : R2} (ho : OpR X (compareOp op) r) (ha : PE X a ta) (hb : PE X b tb) (hm : behindInMarks op b = false) : PT X (.Compare a [op] [b] pos) (tTest (tOp r ta tb)) := by
  intro pins s σ H Q I h
  refine wpAny_isTrue_Compare1 (thn (ha pins s σ H _ I h) fun v s1 ⟨x, H1, I1, r1, q1⟩ => thn (hb pins s1 σ H1 _ I1 q1) fun u s2 ⟨y, H2, I2, r2, q2⟩ =>
    thn (ho pins s2 σ H2 x y v u _ I2 r1 r2 q2) fun c s3 ⟨z, H3, I3, r3, k, e, q3⟩ => ?_) hm
  subst e
  cases r3
  exact wpAny_truthy_bool ⟨H3, I3, q3⟩
theorem line63 : (sizeLine : Nat) < 2 ^ 63 := by rw [sizeLine_eq]; decide
theorem op_add_str : OpR X (binaryOp .Add) (fun x y H Q => ∃ i j, x = .str i ∧ y = .str j ∧ i.length + j.length ≤ sizeLine ∧ Q (.str (i ++ j)) H) := by
  intro pins s σ H x y v u Q I rx ry h
  obtain ⟨i, j, rfl, rfl, hz, q⟩ := h
  obtain ⟨t, rfl⟩ := rx
  obtain ⟨t', rfl⟩ := ry
  exact add_str (fun t' tk => ⟨.str (i ++ j), H, I.tok _, ⟨_, rfl⟩, q⟩) hz
theorem vals1 {x : V} {us : List Value} (r : Vals [x] us) : ∃ u, us = [u] ∧ RelV x u := by
  cases r with
  | cons r1 r2 => cases r2; exact ⟨_, rfl, r1⟩
theorem vals2 {x y : V} {us : List Value} (r : Vals [x, y] us) : ∃ u w', us = [u, w'] ∧ RelV x u ∧ RelV y w' := by
  cases r with
  | cons r1 r2 =>
    cases r2 with
    | cons r3 r4 => cases r4; exact ⟨_, _, rfl, r1, r3⟩
theorem call_abs : CallR X (.builtin "abs") (fun xs H Q => ∃ i, xs = [.int i] ∧ Q (.int (if i < 0 then -i else i)) H) := by
  intro pins s σ H xs us Q I r h
  obtain ⟨i, rfl, q⟩ := h
  obtain ⟨u, rfl, t, rfl⟩ := vals1 r
  exact call_abs_int fun u tk => ⟨.int (if i < 0 then -i else i), H, I.tok _, ⟨_, rfl⟩, q⟩
theorem call_max2 (hc : X.calm = true) : CallR X (.builtin "max") (fun xs H Q => ∃ i j, xs = [.int i, .int j] ∧ Q (.int (if j > i then j else i)) H) := by
  intro pins s σ H xs us Q I r h
  obtain ⟨i, j, rfl, q⟩ := h
  obtain ⟨u, w', rfl, ⟨t, rfl⟩, ⟨t', rfl⟩⟩ := vals2 r
  refine max_two_ints (I.ok.hd hc) fun h' tk k => ⟨_, H, I.kept k, ?_, q⟩
  by_cases hj : j > i
  · rw [if_pos hj, if_pos hj]; exact ⟨_, rfl⟩
  · rw [if_neg hj, if_neg hj]; exact ⟨_, rfl⟩
theorem call_min2 (hc : X.calm = true) : CallR X (.builtin "min") (fun xs H Q => ∃ i j, xs = [.int i, .int j] ∧ Q (.int (if j < i then j else i)) H) := by
  intro pins s σ H xs us Q I r h
  obtain ⟨i, j, rfl, q⟩ := h
  obtain ⟨u, w', rfl, ⟨t, rfl⟩, ⟨t', rfl⟩⟩ := vals2 r
  refine min_two_ints (I.ok.hd hc) fun h' tk k => ⟨_, H, I.kept k, ?_, q⟩
  by_cases hj : j < i
  · rw [if_pos hj, if_pos hj]; exact ⟨_, rfl⟩
  · rw [if_neg hj, if_neg hj]; exact ⟨_, rfl⟩
theorem call_int1 : CallR X (.type "int") (fun xs H Q => (∃ i, xs = [.int i] ∧ Q (.int i) H) ∨ ∃ k, xs = [.bl k] ∧ Q (.int (if k then 1 else 0)) H) := by
  intro pins s σ H xs us Q I r h
  rcases h with ⟨i, rfl, q⟩ | ⟨k, rfl, q⟩
  · obtain ⟨u, rfl, t, rfl⟩ := vals1 r
    exact call_int_int ⟨.int i, H, I, ⟨_, rfl⟩, q⟩
  · obtain ⟨u, rfl, r1⟩ := vals1 r
    cases r1
    exact call_int_bool ⟨.int (if k then 1 else 0), H, I.tok _, ⟨_, rfl⟩, q⟩
end
end L2
namespace L2
open PySem PySem.Spec PyProof.Rows
structure ObjM (h : Heap) (x dx C : Addr) (mA : Str → Option Value) : Prop where
  obj : h.get? x = some (PySem.W.instObj C dx)
  ns : h.Ns1 dx mA
  ne : dx ≠ x
theorem lookIn_ns {h : Heap} {dx : Addr} {mA : Str → Option Value} (n : h.Ns1 dx mA) : ∃ od, h.get? dx = some od ∧ ∀ name, PySem.W.lookIn name od = some (mA name) := by
  obtain ⟨o, es, ep, ho, hd, hk, _, hm⟩ := n
  refine ⟨o, ho, fun name => ?_⟩
  have e := hm name
  unfold nsFind findBy at e
  rw [← Array.find?_toList] at e
  unfold PySem.W.lookIn
  rw [hd]
  dsimp only
  split
  · rename_i y q
    rw [q] at e
    exact congrArg some e
  · rename_i q
    rw [q] at e
    have a : es.toList.any (·.refKey) = false := by
      rw [List.any_eq_false]
      intro y hy
      obtain ⟨z, t, hkey⟩ := hk y (Array.mem_toList_iff.mp hy)
      simp [DictEntry.refKey, hkey]
    have a' : ¬ es.toList.any (·.refKey) = true := by rw [a]; exact Bool.false_ne_true
    rw [if_neg a']
    exact congrArg some e
theorem ObjM.look {h : Heap} {x dx C : Addr} {mA : Str → Option Value} (I : ObjM h x dx C mA) : ∃ od, PySem.W.InstAt h x (PySem.W.instObj C dx) C (some od) ∧ ∀ name, PySem.W.lookIn name od = some (mA name) :=
  let ⟨od, ho, hl⟩ := lookIn_ns I.ns
  ⟨od, ⟨I.obj, rfl, rfl, ho⟩, hl⟩
def putF (f : Str) (v : V) : List (Str × V) → List (Str × V)
  | [] => [(f, v)]
  | (g, x) :: r => if g = f then (g, v) :: r else (g, x) :: putF f v r
theorem lookup_putF (f g : Str) (v : V) : ∀ fs : List (Str × V), (putF f v fs).lookup g = if g = f then some v else fs.lookup g
  | [] => by
    show List.lookup g [(f, v)] = _
    by_cases h : g = f
    · have hb : (g == f) = true := beq_iff_eq.mpr h
      simp only [List.lookup, hb, if_pos h]
    · have hb : (g == f) = false := beq_eq_false_iff_ne.mpr h
      simp only [List.lookup, hb, if_neg h]
  | (k, x) :: r => by
    have ih := lookup_putF f g v r
    rw [show putF f v ((k, x) :: r) = (if k = f then (k, v) :: r else (k, x) :: putF f v r) from rfl]
    by_cases hk : k = f
    · rw [if_pos hk]
      by_cases h : g = k
      · have hb : (g == k) = true := beq_iff_eq.mpr h
        simp only [List.lookup, hb, if_pos (h.trans hk)]
      · have hb : (g == k) = false := beq_eq_false_iff_ne.mpr h
        simp only [List.lookup, hb, if_neg (fun e : g = f => h (e.trans hk.symm))]
    · rw [if_neg hk]
      by_cases h : g = k
      · have hb : (g == k) = true := beq_iff_eq.mpr h
        simp only [List.lookup, hb, if_neg (fun e : g = f => hk (h.symm.trans e))]
      · have hb : (g == k) = false := beq_eq_false_iff_ne.mpr h
        simp only [List.lookup, hb]
        exact ih
theorem keys_putF (f : Str) (v : V) : ∀ fs : List (Str × V), f ∈ (putF f v fs).map (·.1) ∧ ∀ g, g ∈ fs.map (·.1) → g ∈ (putF f v fs).map (·.1)
  | [] => ⟨by simp [putF], fun g h => by simp at h⟩
  | (k, x) :: r => by
    obtain ⟨i1, i2⟩ := keys_putF f v r
    rw [show putF f v ((k, x) :: r) = (if k = f then (k, v) :: r else (k, x) :: putF f v r) from rfl]
    by_cases hk : k = f
    · rw [if_pos hk]
      subst hk
      exact ⟨by simp, fun g h => by simpa using h⟩
    · rw [if_neg hk]
      refine ⟨?_, fun g h => ?_⟩
      · rw [List.map_cons]
        exact List.mem_cons_of_mem _ i1
      · rw [List.map_cons] at h ⊢
        rcases List.mem_cons.mp h with e | e
        · exact List.mem_cons.mpr (.inl e)
        · exact List.mem_cons_of_mem _ (i2 g e)
theorem length_putF (f : Str) (v : V) : ∀ fs : List (Str × V), (putF f v fs).length ≤ fs.length + 1
  | [] => by simp [putF]
  | (k, x) :: r => by
    have ih := length_putF f v r
    rw [show putF f v ((k, x) :: r) = (if k = f then (k, v) :: r else (k, x) :: putF f v r) from rfl]
    by_cases hk : k = f
    · rw [if_pos hk, List.length_cons, List.length_cons]; omega
    · rw [if_neg hk, List.length_cons, List.length_cons]; omega
theorem RelO.some_of {v : V} {o : Option Value} (r : RelO (some v) o) : ∃ u, o = some u ∧ RelV v u := by
  cases o with
  | none => exact (show False from r).elim
  | some u => exact ⟨u, rfl, r⟩
theorem handed_of {v : V} {u : Value} (r : RelV v u) : PySem.W.handedIn u = true := by
  cases v with
  | non => cases (show u = Value.none from r); rfl
  | bl b => cases (show u = Value.bool b from r); rfl
  | int i => obtain ⟨t, e⟩ := (show ∃ t, u = Value.int i t from r); cases e; rfl
  | str x => obtain ⟨t, e⟩ := (show ∃ t, u = Value.str x t from r); cases e; rfl
  | byt b => obtain ⟨t, e⟩ := (show ∃ t, u = Value.bytes b t from r); cases e; rfl
  | flt b => obtain ⟨t, e⟩ := (show ∃ t, u = Value.float b t from r); cases e; rfl
  | ref a => cases (show u = Value.ref a from r); rfl
  | ty n => cases (show u = Value.type n from r); rfl
structure Cls (K : PySem.W.Frag) (C : Addr) : Prop where
  pg : PySem.W.plainGet K C Str.empty = true
  hd : PySem.W.hasDictIn K C = true
  po : PySem.W.plainOver K C = true
  sa : PySem.W.findIn K (.ref C) "__setattr__" = some (some (.builtin "object.__setattr__"))
theorem Cls.get {K : PySem.W.Frag} {C : Addr} (c : Cls K C) (f : Str) : PySem.W.plainGet K C f = true := c.pg
structure Meth (K : PySem.W.Frag) (C : Addr) (m : Str) (f : Addr) : Prop where
  at_ : PySem.W.findIn K (.ref C) m = some (some (.ref f))
  fn : PySem.W.isFn K (.ref f) = true
  kp : PySem.W.keepIn K (.ref f) = true
section
variable {X : Cx} {pins : List (Addr × Obj)} {σ : St} {H : Hp} {s : Shared} {a C dx : Addr} {fs : List (Str × V)} {f : Str} {v : V} {A : Around} {E : Value → Shared → Prop}
theorem Inv.made (I : Inv X pins σ H s) : Inv X pins σ (upd (upd H s.heap.objs.size (.own (s.heap.objs.size + 1))) (s.heap.objs.size + 1) (.ins C s.heap.objs.size []))
    { s with heap := (s.heap.push PySem.W.emptyDict).push (PySem.W.instObj C s.heap.objs.size) } := by
  have e1 : (s.heap.push PySem.W.emptyDict).get? s.heap.objs.size = some PySem.W.emptyDict := Heap.get?_push_size s.heap rfl
  have e2 : ((s.heap.push PySem.W.emptyDict).push (PySem.W.instObj C s.heap.objs.size)).get? (s.heap.objs.size + 1) = some (PySem.W.instObj C s.heap.objs.size) := by
    have := Heap.get?_push_size (s.heap.push PySem.W.emptyDict) (o := PySem.W.instObj C s.heap.objs.size) rfl
    rwa [Heap.size_push] at this
  have e3 : (s.heap.push PySem.W.emptyDict).Ns s.heap.objs.size (fun _ => none) := ⟨PySem.W.emptyDict, #[], _, e1, rfl, (fun e he => absurd he (by simp)), fun _ => rfl⟩
  have I1 := I.laid (a := s.heap.objs.size) (o := .own (s.heap.objs.size + 1)) (h' := s.heap.push PySem.W.emptyDict) (t' := s.toks) (fun b u q => Heap.get?_push_of_some _ q) (Nat.le_refl _) ⟨_, e1⟩
  refine I1.laid (a := s.heap.objs.size + 1) (o := .ins C s.heap.objs.size []) (t' := s.toks) (fun b u q => Heap.get?_push_of_some _ q) (Nat.le_of_eq (Heap.size_push _ _)) ?_
  have ne : s.heap.objs.size ≠ s.heap.objs.size + 1 := Nat.ne_of_lt (Nat.lt_succ_self _)
  refine ⟨by rw [upd_ne ne, upd_same], Nat.zero_le _, ne, e2, fun _ => none, (Heap.Ns1.of_empty e3).at fun o q => Heap.get?_push_of_some _ q, fun _ => True.intro, fun y hy => absurd rfl hy⟩
theorem attr_of {prog : Program} {w : World} {env : Env} {e : Expr} {f : Str} {pos : Pos} {s : Shared} {Q : Value → Shared → Prop} (hb : attributeBase e f env (eval e env) = eval e env)
    (h : wpAny (model prog w) A (eval e env) (fun o s₁ => wpAny (model prog w) A (getAttr o f true) Q E s₁) E s) : wpAny (model prog w) A (eval (.Attribute e f pos) env) Q E s :=
  Attribute_any_ h (by rw [arm_eval_Attribute, hb])
end
end L2
namespace L2
open PySem PySem.Spec PyProof.Rows
structure Room (k : Nat) (A : Around) : Prop where
  hd : A.handled = none
  dp : A.depth + 3 * k + 5 < recursionLimit
  un : A.units + 16 * k + 200 < cLine
theorem Room.mono {j k : Nat} {A : Around} (r : Room k A) (h : j ≤ k) : Room j A := ⟨r.hd, by have := r.dp; omega, by have := r.un; omega⟩
theorem Room.deeper {k : Nat} {A : Around} (r : Room (k + 1) A) (env : Env) : Room k (A.deeper env) :=
  ⟨r.hd, by have := r.dp; show A.depth + 1 + 3 * k + 5 < _; omega, by have := r.un; show A.units + 3 + 16 * k + 200 < _; omega⟩
theorem Room.in1 {k : Nat} {A : Around} (r : Room (k + 1) A) : Room k A.in1 :=
  ⟨r.hd, by have := r.dp; show A.depth + 3 * k + 5 < _; omega, by have := r.un; show A.units + 1 + 16 * k + 200 < _; omega⟩
theorem make_depth {A : Around} {C : Addr} {us : List Value} {kw : List (Str × Value)} : (A.under (.builtin "type.__call__" ⟨.ref C :: us, kw⟩)).depth = A.depth + 1 := by
  first | rfl | simp [Around.under, Code.weight, Code.isCreation, Code.isGuard, Code.isCaller, Code.frames, Code.isFrame, guardIds]
theorem make_units {A : Around} {C : Addr} {us : List Value} {kw : List (Str × Value)} : (A.under (.builtin "type.__call__" ⟨.ref C :: us, kw⟩)).units = A.units + 1 := by
  first | rfl | simp [Around.under, Code.cUnits, Code.frames, Code.isFrame]
theorem Room.make {k : Nat} {A : Around} (r : Room (k + 1) A) (C : Addr) (us : List Value) (kw : List (Str × Value)) : Room k (A.under (.builtin "type.__call__" ⟨.ref C :: us, kw⟩)) :=
  ⟨r.hd, by have := r.dp; rw [make_depth]; omega, by have := r.un; rw [make_units]; omega⟩
theorem Room.depth {k : Nat} {A : Around} (r : Room k A) : A.depth < recursionLimit := by have := r.dp; omega
theorem Room.units {k : Nat} {A : Around} (r : Room k A) : A.units + 64 < cLine := by have := r.un; omega
def tNil : TA := fun _ H Q => Q [] H
def tCons (ta : TE) (tr : TA) : TA := fun σ H Q => ta σ H fun x H1 => tr σ H1 fun xs H2 => Q (x :: xs) H2
section
variable {X : Cx} {e : Expr} {es : List Expr} {te : TE} {t : TA} {pos : Pos}
theorem pa_nil : PA X [] tNil := fun _ _ _ _ H Q I h => Calls.spliced_nil ⟨[], H, I, .nil, h⟩
theorem pa_cons (ha : PE X e te) (hr : PA X es t) (hs : starEach (e :: es) X.env = (false, eval e X.env) :: starEach es X.env := by rfl) : PA X (e :: es) (tCons te t) := by
  intro pos pins s σ H Q I h
  rw [hs]
  show wpAny _ _ (spliced ((false, eval e X.env) :: backTo pos (starEach es X.env))) _ _ s
  refine Calls.spliced_cons (thn (ha pins s σ H _ I h) fun u s1 hq0 => ?_)
  obtain ⟨x, H1, I1, r1, q1⟩ := hq0
  exact thn (hr pos pins s1 σ H1 _ I1 q1) fun us s2 ⟨xs, H2, I2, r2, q2⟩ => ⟨x :: xs, H2, I2, .cons r1 r2, q2⟩
def tTup (t : TA) : TE := fun σ H Q => t σ H fun xs H1 => xs.length ≤ sizeLine ∧ ∀ p, H1 p = none → Q (.ref p) (upd H1 p (.tup xs))
def tLst (t : TA) : TE := fun σ H Q => t σ H fun xs H1 => xs.length ≤ sizeLine ∧ ∀ p, H1 p = none → Q (.ref p) (upd H1 p (.lst xs))
theorem pe_tup {x1} (h : PA X es t) : PE X (.Tuple es x1 pos) (tTup t) := by
  intro pins s σ H Q I hq
  refine wpAny_Tuple_spliced (thn (h pos pins s σ H _ I hq) fun us s1 ⟨xs, H1, I1, r, z, q⟩ => ⟨by rw [← r.length]; exact z, ?_⟩)
  have hf : H1 s1.heap.objs.size = none := I1.hok.fresh (Nat.le_refl _)
  refine ⟨.ref s1.heap.objs.size, upd H1 s1.heap.objs.size (.tup xs), I1.laid (t' := s1.toks) (fun b u e => Heap.get?_push_of_some _ e) (Nat.le_refl _) ?_, rfl, q _ hf⟩
  exact ⟨z, us, r, ⟨_, Heap.get?_push_size _ rfl, rfl, ⟨_, rfl⟩, rfl⟩⟩
theorem pe_lst (h : PA X es t) : PE X (.List es pos) (tLst t) := by
  intro pins s σ H Q I hq
  refine wpAny_List_spliced (thn (h pos pins s σ H _ I hq) fun us s1 ⟨xs, H1, I1, r, z, q⟩ => ⟨by rw [← r.length]; exact z, ?_⟩)
  have hf : H1 s1.heap.objs.size = none := I1.hok.fresh (Nat.le_refl _)
  refine ⟨.ref s1.heap.objs.size, upd H1 s1.heap.objs.size (.lst xs), I1.laid (t' := s1.toks) (fun b u e => Heap.get?_push_of_some _ e) (Nat.le_refl _) ?_, rfl, q _ hf⟩
  exact ⟨z, us, 0, r, Heap.get?_push_size _ rfl⟩
end
abbrev Sp := List V → Hp → VK → XK → Prop
abbrev CXT := List Env → Hp → Shared → XK → Value → Shared → Prop
structure Env0 (P : Program) (w : World) (K : PySem.W.Frag) (mg : Str → Option Value) (base : Heap) (A : Around) (outer : List Env) (s : Shared) (H : Hp) : Prop where
  frames : A.frames = some outer
  mod : Mod K mg base
  bs : ∀ b o, base.get? b = some o → s.heap.get? b = some o ∧ H b = none
  bsz : base.objs.size ≤ s.heap.objs.size
  funs : s.heap.FunFrames base outer
  frf : (∀ b ∈ frs outer, H b = none) ∧ TbOk K H
  hok : HOk P w H s.heap
  bare : AllBare s.gens
def CE (outer : List Env) (P : Program) (w : World) (H : Hp) (s : Shared) (Q : VK) (u : Value) (s' : Shared) : Prop :=
  ∃ v H', s'.os = s.os ∧ AllBare s'.gens ∧ Un (frs outer) [] H H' s.heap s'.heap ∧ HOk P w H' s'.heap ∧ RelV v u ∧ Q v H'
def CR (CX : CXT) (outer : List Env) (P : Program) (w : World) (H : Hp) (s : Shared) (Q : VK) (E : XK) (r : Result) (s' : Shared) : Prop :=
  match r with
  | .ok (.ret u) => CE outer P w H s Q u s'
  | .ok _ => False
  | .error e => CX outer H s E e s'
structure FnOk (P : Program) (w : World) (K : PySem.W.Frag) (mg : Str → Option Value) (base : Heap) (CX : CXT) (k : Nat) (f : Addr) (fd : FuncData) (ps : List Str) (sp : Sp) : Prop where
  len : ∀ vs H Q E, sp vs H Q E → vs.length = ps.length
  run : ∀ (A : Around) (outer : List Env) (s : Shared) (H : Hp) (args : Args) (us : List Value) (vs : List V) (Q : VK) (E : XK), Room k A → Env0 P w K mg base A outer s H → BindsTo s fd args (ps.zip us) → Vals vs us → sp vs H Q E →
    codeAny (model P w) A (.call (.ref f) args) (CR CX outer P w H s Q E) s
theorem FnOk.mono {P : Program} {w : World} {K : PySem.W.Frag} {mg : Str → Option Value} {base : Heap} {CX : CXT} {j k : Nat} {f : Addr} {fd : FuncData} {ps : List Str} {sp : Sp} (F : FnOk P w K mg base CX j f fd ps sp) (h : j ≤ k) :
    FnOk P w K mg base CX k f fd ps sp := ⟨F.len, fun A outer s H args us vs Q E hr => F.run A outer s H args us vs Q E (hr.mono h)⟩
theorem FnOk.imp {P : Program} {w : World} {K : PySem.W.Frag} {mg : Str → Option Value} {base : Heap} {CX : CXT} {k : Nat} {f : Addr} {fd : FuncData} {ps : List Str} {sp sp' : Sp} (F : FnOk P w K mg base CX k f fd ps sp)
    (h : ∀ vs H Q E, sp' vs H Q E → sp vs H Q E) : FnOk P w K mg base CX k f fd ps sp' :=
  ⟨fun vs H Q E q => F.len vs H Q E (h _ _ _ _ q), fun A outer s H args us vs Q E hr he hb hv hs => F.run A outer s H args us vs Q E hr he hb hv (h _ _ _ _ hs)⟩
theorem Env0.make {P : Program} {w : World} {K : PySem.W.Frag} {mg : Str → Option Value} {base : Heap} {A : Around} {outer : List Env} {s : Shared} {H : Hp} (e : Env0 P w K mg base A outer s H) (C : Addr) (us : List Value) (kw : List (Str × Value)) :
    Env0 P w K mg base (A.under (.builtin "type.__call__" ⟨.ref C :: us, kw⟩)) outer s H := ⟨by first | exact e.frames | (simpa [Around.under, Code.envs, Code.isFrame, pushEnvs] using e.frames), e.mod, e.bs, e.bsz, e.funs, e.frf, e.hok, e.bare⟩
theorem Env0.in1 {P : Program} {w : World} {K : PySem.W.Frag} {mg : Str → Option Value} {base : Heap} {A : Around} {outer : List Env} {s : Shared} {H : Hp} (e : Env0 P w K mg base A outer s H) :
    Env0 P w K mg base A.in1 outer s H := ⟨e.frames, e.mod, e.bs, e.bsz, e.funs, e.frf, e.hok, e.bare⟩
section
variable {X : Cx} {pins : List (Addr × Obj)} {σ : St} {H : Hp} {s s' : Shared}
theorem Inv.env0 (I : Inv X pins σ H s) : Env0 X.prog X.w X.K X.mg X.base X.A X.stack s H :=
  ⟨I.ok.frames, I.ok.mod, I.bs, Nat.le_trans I.ok.bsz I.sz, I.stack, ⟨I.stkFree, I.tb⟩, I.hok, I.bare⟩
theorem Inv.after {Q : VK} {u : Value} (I : Inv X pins σ H s) (h : CE X.stack X.prog X.w H s Q u s') : EP X pins σ Q u s' := by
  obtain ⟨v, H', os, bare, un, hok, r, q⟩ := h
  obtain ⟨hh, g, d, t, os'⟩ := s'
  obtain rfl : os' = s.os := os
  exact ⟨v, H', I.call (h' := hh) (g' := g) (d' := d) (t' := t) (ch := []) un hok bare (fun b z => absurd z (by simp)), r, q⟩
end
def tCall (sp : Sp) (dvs : List V) (E : XK) (t : TA) : TE := fun σ H Q => t σ H fun vs H1 => sp (vs ++ dvs) H1 Q E
def Binds (K : PySem.W.Frag) (fd : FuncData) (ps : List Str) (ds : List Value) : Prop :=
  ∀ (s : Shared) (us : List Value), K.In s.heap → (us ++ ds).length = ps.length → BindsTo s fd ⟨us, []⟩ (ps.zip (us ++ ds))
theorem Binds.all {K : PySem.W.Frag} {fd : FuncData} {ps : List Str} (h : ∀ us : List Value, us.length = ps.length → bindArgs fd ⟨us, []⟩ = pure (ps.zip us)) : Binds K fd ps [] := fun s us _ hl => by
  rw [List.append_nil] at hl ⊢
  exact .of_eq (h us hl)
def Passes (CX : CXT) (X : Cx) (E : XK) : Prop := ∀ (pins : List (Addr × Obj)) (σ : St) (H : Hp) (s : Shared) (e : Value) (s' : Shared), Inv X pins σ H s → CX X.stack H s E e s' → X.xe e s'
section
variable {X : Cx} {CX : CXT} {k : Nat} {f C : Addr} {fd : FuncData} {ps : List Str} {sp : Sp} {dvs : List V} {ds : List Value} {E : XK} {x m : Str} {p pos apos : Pos} {e o : Expr} {es : List Expr} {ta : TE} {t : TA}
theorem run_fn {pins : List (Addr × Obj)} {σ : St} {H : Hp} {s : Shared} {Q : VK} {us : List Value} {vs : List V} (F : FnOk X.prog X.w X.K X.mg X.base CX k f fd ps sp) (hr : Room k X.A) (hb : Binds X.K fd ps ds) (hd : Vals dvs ds) (hx : Passes CX X E)
    (I : Inv X pins σ H s) (r : Vals vs us) (h : sp (vs ++ dvs) H Q E) : wpAny (model X.prog X.w) X.A (call (.ref f) us) (EP X pins σ Q) X.xe s := by
  have r2 : Vals (vs ++ dvs) (us ++ ds) := r.append hd
  have hl : (us ++ ds).length = ps.length := by rw [← r2.length]; exact F.len _ _ _ _ h
  refine wpAny_call (codeAny_mono (F.run X.A X.stack s H ⟨us, []⟩ (us ++ ds) (vs ++ dvs) Q E hr I.env0 (hb s us I.kIn hl) r2 h) fun r s' hq => ?_)
  cases r with
  | error e => exact hx pins σ H s e s' I hq
  | ok fl =>
    cases fl with
    | ret u => exact I.after hq
    | next => exact False.elim hq
    | brk => exact False.elim hq
    | cont => exact False.elim hq
theorem pe_call (F : FnOk X.prog X.w X.K X.mg X.base CX k f fd ps sp) (hr : Room k X.A) (hg : Gl X x) (hm : X.mg x = some (.ref f)) (hk : PySem.W.keepIn X.K (.ref f) = true) (hb : Binds X.K fd ps ds) (hd : Vals dvs ds) (hx : Passes CX X E)
    (ha : PA X (e :: es) t) (hdb : (x == ("__debug__" : Str)) = false := by decide) (he : starEach (e :: es) X.env = (false, eval e X.env) :: starEach es X.env := by rfl) (hpl : (backTo pos (starEach es X.env)).any (·.1) = false := by rfl) :
    PE X (.Call (.Name x p) (e :: es) [] pos) (tCall sp dvs E t) := by
  intro pins s σ H Q I h
  refine wpAny_Call_Name_kw (ld_glob I hg hm ?_ hdb)
  refine PySem.W.callWith_K (h₀ := X.base) I.ok.mod.kin hk (thn (ha pos pins s σ H _ I h) fun us s1 ⟨vs, H1, I1, r, q⟩ => ⟨I1.kIn, ?_⟩) he hpl
  exact run_fn F hr hb hd hx I1 r q
end
structure FnScope (N P : List Str) (sc : Scope) : Prop where
  kind : sc.kind = .function
  co : sc.isCoroutine = false
  gen : sc.isGenerator = false
  nd : N.Nodup
  pre : N.take P.length = P
  par : ∀ x ∈ P, sc.names.lookup x = some .local ∨ sc.names.lookup x = some .cell
  nofree : ∀ y ∈ sc.names, y.2 ≠ .free
theorem bindL_out {kindOf : Str → Option NameKind} {x : Str} : ∀ {binds : List (Str × Value)} {m : Str → Option Value}, (∀ v, (x, v) ∉ binds) → bindL kindOf binds m x = m x
  | [], _, _ => rfl
  | (n, v) :: r, m, h => by
    unfold bindL
    rw [bindL_out fun w hw => h w (List.mem_cons_of_mem _ hw)]
    split
    · have : x ≠ n := by rintro rfl; exact h v List.mem_cons_self
      simp [this]
    · rfl
theorem bindC_out {kindOf : Str → Option NameKind} {x : Str} : ∀ {binds : List (Str × Value)} {m : Str → Option Value}, (∀ v, (x, v) ∉ binds) → bindC kindOf binds m x = m x
  | [], _, _ => rfl
  | (n, v) :: r, m, h => by
    unfold bindC
    rw [bindC_out fun w hw => h w (List.mem_cons_of_mem _ hw)]
    split
    · rfl
    · have : x ≠ n := by rintro rfl; exact h v List.mem_cons_self
      simp [this]
theorem bindL_get {kindOf : Str → Option NameKind} {x : Str} {v : Value} : ∀ {P : List Str} {vs : List Value} {i : Nat} {m : Str → Option Value}, P.Nodup → P[i]? = some x → vs[i]? = some v → kindOf x = some .local →
    bindL kindOf (P.zip vs) m x = some v
  | [], _, _, _, _, h, _, _ => by simp at h
  | _ :: _, [], _, _, _, _, h, _ => by simp at h
  | p :: P, w :: vs, 0, m, nd, h1, h2, hk => by
    simp at h1 h2; subst h1; subst h2
    show bindL kindOf ((p, w) :: P.zip vs) m p = _
    unfold bindL
    rw [bindL_out fun v hv => (List.nodup_cons.mp nd).1 (List.of_mem_zip hv).1, if_pos hk]
    simp
  | p :: P, w :: vs, i + 1, m, nd, h1, h2, hk => by
    show bindL kindOf ((p, w) :: P.zip vs) m x = _
    unfold bindL
    exact bindL_get (i := i) (List.nodup_cons.mp nd).2 (by simpa using h1) (by simpa using h2) hk
theorem bindC_get {kindOf : Str → Option NameKind} {x : Str} {v : Value} : ∀ {P : List Str} {vs : List Value} {i : Nat} {m : Str → Option Value}, P.Nodup → P[i]? = some x → vs[i]? = some v → kindOf x ≠ some .local →
    bindC kindOf (P.zip vs) m x = some v
  | [], _, _, _, _, h, _, _ => by simp at h
  | _ :: _, [], _, _, _, _, h, _ => by simp at h
  | p :: P, w :: vs, 0, m, nd, h1, h2, hk => by
    simp at h1 h2; subst h1; subst h2
    show bindC kindOf ((p, w) :: P.zip vs) m p = _
    unfold bindC
    rw [bindC_out fun v hv => (List.nodup_cons.mp nd).1 (List.of_mem_zip hv).1, if_neg hk]
    simp
  | p :: P, w :: vs, i + 1, m, nd, h1, h2, hk => by
    show bindC kindOf ((p, w) :: P.zip vs) m x = _
    unfold bindC
    exact bindC_get (i := i) (List.nodup_cons.mp nd).2 (by simpa using h1) (by simpa using h2) hk
def start (N : List Str) (vs : List V) : St := vs.map some ++ List.replicate (N.length - vs.length) none
def cxOf (CX : CXT) (P : Program) (w : World) (K : PySem.W.Frag) (mg : Str → Option Value) (base : Heap) (N : List Str) (qual : Str) (scope : Scope) (f : Addr) (cd : Value) (A : Around) (outer : List Env) (s : Shared) (H : Hp) (E : XK) : Cx where
  prog := P
  w := w
  K := K
  mg := mg
  base := base
  A := A.deeper (envOfC qual scope s.heap.objs.size f cd)
  N := N
  s₀ := s
  H₀ := H
  env := envOfC qual scope s.heap.objs.size f cd
  outer := outer
  stack := envOfC qual scope s.heap.objs.size f cd :: outer
  ex := []
  calm := true
  fn := fun _ => true
  pn := []
  xe := fun e s' => wpAny (model P w) (A.deeper (envOfC qual scope s.heap.objs.size f cd)) (leaving (envOfC qual scope s.heap.objs.size f cd) e) (fun _ s'' => CX outer H s E e s'') (fun e' s'' => CX outer H s E e' s'') s'
theorem cell_has {sc : Scope} {n : Nat} {x : Str} (h : sc.names.lookup x = some .cell) : ∃ c, (cellsFrom n sc.names []).lookup x = some c := by
  have q := PySem.W.cellsFrom_some sc.names n [] (.inl h)
  exact Option.isSome_iff_exists.mp q
theorem inv_start {CX : CXT} {P : Program} {w : World} {K : PySem.W.Frag} {mg : Str → Option Value} {base : Heap} {N ps : List Str} {qual : Str} {scope : Scope} {f : Addr} {cd : Value} {A : Around} {outer : List Env} {s s1 : Shared} {H : Hp} {E : XK} {us : List Value} {vs : List V}
    (S : FnScope N ps scope) (hd : A.handled = none) (e0 : Env0 P w K mg base A outer s H) (hl : vs.length = ps.length) (r : Vals vs us)
    (x : InCallC s s.heap.objs.size (bindL (envOfC qual scope s.heap.objs.size f cd).kindOf (ps.zip us) fun _ => none) (cellsFrom (s.heap.objs.size + 1) scope.names []) (bindC (envOfC qual scope s.heap.objs.size f cd).kindOf (ps.zip us) fun _ => none) s1) :
    Inv (cxOf CX P w K mg base N qual scope f cd A outer s H E) [] (start N vs) H s1 := by
  have hpl : ps.length ≤ N.length := by have := congrArg List.length S.pre; rw [List.length_take] at this; omega
  obtain ⟨h1, tk, rfl, hk⟩ := x.done
  have noA : ∀ b : Addr, b ∉ (cxOf CX P w K mg base N qual scope f cd A outer s H E).ex := fun b z => absurd (show b ∈ ([] : List Addr) from z) (by simp)
  refine ⟨⟨e0.mod, S.kind, rfl, rfl, Nat.le_refl _, fun y z c h1 h2 => ?_, fun y hy => ?_, fun y c _ h => ?_, fun _ => hd, Around.frames_deeper e0.frames, .inr ⟨rfl, rfl⟩, fun b z => absurd z (noA b), e0.bs, e0.bsz, fun b _ _ => noA b, fun b z => absurd z (noA b), e0.funs, e0.frf⟩,
    rfl, e0.bare, Un.kept hk, ⟨_, x.toInCall.ns, fun i y v h1 h2 h3 => ?_⟩, fun y c h => ⟨_, x.cell y c h⟩, e0.hok.fresh (Nat.le_refl _), fun y c h => ?_, fun p hp => absurd (show p ∈ ([] : List (Addr × Obj)) from hp) (by simp), e0.hok.kept hk, ?_⟩
  · exact name_of_addr x.apart (PySem.mem_of_lookup h1) (PySem.mem_of_lookup h2)
  · have hy : scope.names.lookup y = some .cell ∨ scope.names.lookup y = some .free := hy
    rcases hy with hy | hy
    · exact cell_has hy
    · exact absurd rfl (S.nofree _ (PySem.mem_of_lookup hy))
  · exact Nat.le_of_lt (x.above y c (PySem.mem_of_lookup h))
  · have hi : i < vs.length := by
      unfold start at h2
      by_cases hi : i < vs.length
      · exact hi
      · rw [List.getElem?_append_right (by simpa using hi)] at h2
        rw [List.getElem?_replicate] at h2
        split at h2 <;> cases h2
    have ha : vs[i]? = some v := by
      unfold start at h2
      rw [List.getElem?_append_left (by simpa using hi), List.getElem?_map] at h2
      cases e : vs[i]? with
      | none => rw [e] at h2; cases h2
      | some a => rw [e] at h2; cases h2; rfl
    obtain ⟨u, hu, rv⟩ := r.get ha
    have hp : ps[i]? = some y := by
      rw [← S.pre, List.getElem?_take_of_lt (by omega)]; exact h1
    have ndP : ps.Nodup := by rw [← S.pre]; exact S.nd.sublist (List.take_sublist _ _)
    refine ⟨u, rv, ?_⟩
    rcases S.par y (List.mem_of_getElem? hp) with k | k
    · exact .inl ⟨k, bindL_get ndP hp hu k⟩
    · obtain ⟨c, e⟩ := cell_has (n := s.heap.objs.size + 1) k
      refine .inr ⟨.inl k, c, e, ?_⟩
      have q := x.cell y c e
      rw [bindC_get ndP hp hu (by show scope.names.lookup y ≠ _; rw [k]; decide)] at q
      exact q
  · exact e0.hok.fresh (Nat.le_of_lt (x.above y c (PySem.mem_of_lookup h)))
  · unfold start
    show _ = N.length
    rw [List.length_append, List.length_map, List.length_replicate]
    omega
theorem fn_of {CX : CXT} {P : Program} {w : World} {K : PySem.W.Frag} {mg : Str → Option Value} {base : Heap} {k : Nat} {f : Addr} {name qual : Str} {params : Arguments} {body : List Stmt} {scope : Scope} {dV kV doc pm cdv ct oc : Value} {an od : Option Addr}
    {osl : Array (Option Value)} {N ps : List Str} {sp : Sp} (lk : K.lookup f = some ⟨oc, od, .func (PySem.W.fnOf name qual params body scope dV kV doc pm an cdv ct), osl⟩) (hcd : PySem.W.codeIn K cdv qual = true) (S : FnScope N ps scope)
    (len : ∀ vs H Q E, sp vs H Q E → vs.length = ps.length)
    (hbody : ∀ (A : Around) (outer : List Env) (s : Shared) (H : Hp) (vs : List V) (Q : VK) (E : XK), Room k (A.deeper (envOfC qual scope s.heap.objs.size f cdv)) → sp vs H Q E →
      ∃ t, PSs (cxOf CX P w K mg base N qual scope f cdv A outer s H E) body t ∧ t { nx := fun _ H' => Q .non H', rt := Q } (start N vs) H) :
    FnOk P w K mg base CX (k + 1) f (PySem.W.fnOf name qual params body scope dV kV doc pm an cdv ct) ps sp := by
  refine ⟨len, fun A outer s H args us vs Q E hr e0 hb r hsp => ?_⟩
  have hl := len _ _ _ _ hsp
  have KX : K.In s.heap := e0.mod.kin.keeps fun b o e => (e0.bs b o e).1
  have lim : s.heap.NoLimit := e0.mod.nolimit.keeps fun b o e => (e0.bs b o e).1
  have hkind : ∀ y ∈ ps.zip us, scope.names.lookup y.1 = some .local ∨ (scope.names.lookup y.1 = some .cell ∧ ((cellsFrom (s.heap.objs.size + 1) scope.names []).lookup y.1).isSome = true) := fun ⟨n, v⟩ hy => by
    rcases S.par n (List.of_mem_zip hy).1 with q | q
    · exact .inl q
    · exact .inr ⟨q, PySem.W.cellsFrom_some _ _ _ (.inl q)⟩
  refine codeAny_call_function hr.depth (KX _ _ lk) rfl S.co S.gen rfl (PySem.W.codeRec_of KX hcd) (hb _ _ _ _ ?_)
  refine wpAny_newFunctionEnv_cells S.kind hkind fun env he s1 x => ?_
  subst he
  refine ⟨lim.keeps x.toInCall.keep, codeAny_func ?_⟩
  obtain ⟨t, ht, hq⟩ := hbody A outer s H vs Q E (hr.deeper _) hsp
  have I : Inv (cxOf CX P w K mg base N qual scope f cdv A outer s H E) [] (start N vs) H s1 := inv_start S hr.hd e0 hl r x
  refine wpAny_mono (ht [] s1 (start N vs) H _ I hq) (fun fl s' hs => ?_) fun e s' hs => hs
  have fin : ∀ {σ' : St} {H' : Hp} {v : V} {u : Value}, Inv (cxOf CX P w K mg base N qual scope f cdv A outer s H E) [] σ' H' s' → RelV v u → Q v H' → CE outer P w H s Q u s' :=
    fun {σ' H' v u} J rv q => ⟨v, H', J.os, J.bare, J.base, J.hok, rv, q⟩
  cases fl with
  | ret u =>
    obtain ⟨v, σ', H', J, rv, q⟩ := hs
    exact fin J rv q
  | next =>
    obtain ⟨σ', H', J, q⟩ := hs
    exact fin (v := V.non) (u := Value.none) J rfl q
  | brk =>
    obtain ⟨_, _, _, q⟩ := hs
    exact False.elim q
  | cont =>
    obtain ⟨_, _, _, q⟩ := hs
    exact False.elim q
end L2
namespace L2
open PySem PySem.Spec PyProof.Rows
section
variable {X : Cx} {x : Str} {p pos : Pos} {e : Expr} {es : List Expr} {t : TA} {id T : String} {r : List V → Hp → VK → Prop}
def tCB (r : List V → Hp → VK → Prop) (t : TA) : TE := fun σ H Q => t σ H fun vs H1 => r vs H1 Q
theorem pe_callB (hc : CallR X (.builtin id) r) (hg : Gl X x) (hm : X.mg x = none) (hv : bootBuiltins x = some (.builtin id)) (ha : PA X (e :: es) t) (hn : x ≠ "__name__" := by decide) (hdb : (x == ("__debug__" : Str)) = false := by decide)
    (he : starEach (e :: es) X.env = (false, eval e X.env) :: starEach es X.env := by rfl) (hpl : (backTo pos (starEach es X.env)).any (·.1) = false := by rfl) : PE X (.Call (.Name x p) (e :: es) [] pos) (tCB r t) := by
  intro pins s σ H Q I h
  refine wpAny_Call_Name_kw (ld_blt I hg hm hv ?_ hn hdb)
  exact PyProof.Rows.callWith_builtin1 (thn (ha pos pins s σ H _ I h) fun us s1 ⟨vs, H1, I1, r1, q1⟩ => hc pins s1 σ H1 vs us Q I1 r1 q1) he hpl
theorem pe_callTy (hc : CallR X (.type T) r) (hg : Gl X x) (hm : X.mg x = none) (hv : bootBuiltins x = some (.type T)) (ha : PA X (e :: es) t) (hn : x ≠ "__name__" := by decide) (hdb : (x == ("__debug__" : Str)) = false := by decide)
    (he : starEach (e :: es) X.env = (false, eval e X.env) :: starEach es X.env := by rfl) (hpl : (backTo pos (starEach es X.env)).any (·.1) = false := by rfl) : PE X (.Call (.Name x p) (e :: es) [] pos) (tCB r t) := by
  intro pins s σ H Q I h
  refine wpAny_Call_Name_kw (ld_blt I hg hm hv ?_ hn hdb)
  exact PyProof.Rows.callWith_type1 (thn (ha pos pins s σ H _ I h) fun us s1 ⟨vs, H1, I1, r1, q1⟩ => hc pins s1 σ H1 vs us Q I1 r1 q1) he hpl
end
end L2
namespace HT
open PySem PyProof.Rows
section
variable {prog : Program} {w : World} {A : Around} {E : Value → Shared → Prop} {s : Shared}
theorem cat_tup {t b : Addr} {vs ws : List Value} {Q : Value → Shared → Prop} (ht : IsTup s.heap t vs.toArray) (hb : IsTup s.heap b ws.toArray) (hv : vs ≠ [])
    (h1 : ws = [] → Q (.ref t) s) (h2 : ws ≠ [] → Q (.ref s.heap.objs.size) { s with heap := s.heap.push { cls := .type "tuple", data := .seq (vs ++ ws).toArray } })
    (hsz : vs.length + ws.length ≤ sizeLine) : wpAny (model prog w) A (binaryOp .Add (.ref t) (.ref b)) Q E s := by
  obtain ⟨⟨cls, dd, data, sl⟩, ho, hc, n, hd⟩ := id ht
  obtain ⟨⟨cls2, dd2, data2, sl2⟩, ho2, hc2, n2, hd2⟩ := id hb
  simp only at hc hd hc2 hd2
  subst hc hd hc2 hd2
  have e : vs.toArray ++ ws.toArray = (vs ++ ws).toArray := by simp
  by_cases hw : ws = []
  · exact concat_meets ⟨_, ho, rfl⟩ ⟨_, ho2, rfl⟩ noFill_tuple_add seq_tuple_add PySem.F.slot_tuple_add PySem.F.entry_tuple_add (PySem.F.args_tuple_add_2 _ _)
      (tuple_addW1 t b vs.toArray ws.toArray n n2 dd dd2 sl sl2 (by simpa using hv) (by simp [hw])) ⟨ho, ho2, h1 hw⟩
  · refine concat_meets ⟨_, ho, rfl⟩ ⟨_, ho2, rfl⟩ noFill_tuple_add seq_tuple_add PySem.F.slot_tuple_add PySem.F.entry_tuple_add (PySem.F.args_tuple_add_2 _ _)
      (tuple_addW2 t b vs.toArray ws.toArray n n2 dd dd2 sl sl2 (by simpa using hv) (by simpa using hw) (by rw [List.size_toArray, List.size_toArray]; exact hsz)) ⟨ho, ho2, ?_⟩
    rw [e]
    exact h2 hw
def sIx (n d : Nat) : Option Int → Nat
  | none => d
  | some v => if v < 0 then (v + (n : Int)).toNat else min v.toNat n
theorem sIx_le (n d : Nat) (hd : d ≤ n) (o : Option Int) : sIx n d o ≤ n := by
  cases o with
  | none => exact hd
  | some v =>
    show (if v < 0 then (v + (n : Int)).toNat else min v.toNat n) ≤ n
    by_cases hv : v < 0
    · rw [if_pos hv]; omega
    · rw [if_neg hv]; exact Nat.min_le_right _ _
theorem clip_eq (v : Int) (n d : Nat) : (if v < 0 then max (v + (n : Int)) 0 else min v (n : Int)) = ((sIx n d (some v) : Nat) : Int) := by
  show (if v < 0 then max (v + (n : Int)) 0 else min v (n : Int)) = (((if v < 0 then (v + (n : Int)).toNat else min v.toNat n) : Nat) : Int)
  by_cases hv : v < 0
  · simp only [if_pos hv]; omega
  · simp only [if_neg hv]; omega
theorem adjust_gen (lo hi : Option Int) (n : Nat) : Builtin.Slice.sliceAdjust lo hi 1 (n : Int) = (((sIx n 0 lo : Nat) : Int), ((sIx n n hi : Nat) : Int)) := by
  have h1 : ¬ ((1 : Int) < 0) := by omega
  unfold Builtin.Slice.sliceAdjust
  simp only [h1, if_false]
  refine Prod.ext ?_ ?_
  · cases lo with
    | none => rfl
    | some v => exact clip_eq v n 0
  · cases hi with
    | none => rfl
    | some v => exact clip_eq v n n
theorem places_gen (i j : Nat) : Builtin.Slice.slicePlaces (i : Int) (j : Int) 1 = j - i := by
  unfold Builtin.Slice.slicePlaces
  have h1 : (1 : Int) > 0 := by omega
  simp only [h1, if_true, Int.ediv_one]
  split <;> omega
theorem slicePart_ {v : Value} {o : Option Int} {Q : Option Int → Shared → Prop} (p : IsPart v o) (h : Q o s) : wpAny (model prog w) A (Builtin.Slice.slicePartIndex v) Q E s := by
  cases p with
  | none => exact slicePart_none h
  | int i t => exact slicePart_int h
theorem sliceApplied_gen {sl : Addr} {vl vu : Value} {lo hi : Option Int} {n : Nat} {Q : Int × Int × Nat → Shared → Prop} (hs : s.heap.IsSliceOf sl vl vu .none) (pl : IsPart vl lo) (pu : IsPart vu hi)
    (h : Q (((sIx n 0 lo : Nat) : Int), 1, sIx n n hi - sIx n 0 lo) s) : wpAny (model prog w) A (Builtin.Slice.sliceApplied (.ref sl) (pure (n : Int))) Q E s := by
  obtain ⟨os, hos, hcs, hds⟩ := id hs
  unfold Builtin.Slice.sliceApplied Builtin.Slice.sliceFields
  refine wpAny_bind (wpAny_bind (wpAny_field hos hds (x := vl) rfl (wpAny_bind (wpAny_field hos hds (x := vu) rfl (wpAny_bind (wpAny_field hos hds (x := .none) rfl (wpAny_pure ?_)))))))
  refine wpAny_bind (slicePart_none ?_)
  show wpAny _ _ (if ((1 : Int) == 0) = true then _ else _) _ _ s
  rw [if_neg (by decide)]
  refine wpAny_bind (slicePart_ pl (wpAny_bind (slicePart_ pu (wpAny_bind (wpAny_pure ?_)))))
  show wpAny _ _ (match Builtin.Slice.sliceAdjust lo hi 1 (n : Int) with | (lo, hi) => pure (lo, (1 : Int), Builtin.Slice.slicePlaces lo hi 1)) _ _ s
  rw [adjust_gen lo hi n]
  show wpAny _ _ (pure (((sIx n 0 lo : Nat) : Int), (1 : Int), Builtin.Slice.slicePlaces ((sIx n 0 lo : Nat) : Int) ((sIx n n hi : Nat) : Int) 1)) _ _ s
  rw [places_gen]
  exact wpAny_pure h
theorem pick_gen (xs : Array Value) (i k : Nat) : ((List.range k).filterMap fun (m : Nat) => xs[((i : Int) + (m : Int) * 1).toNat]?).toArray = ((xs.toList.drop i).take k).toArray := by
  have e : (fun (m : Nat) => xs[((i : Int) + (m : Int) * 1).toNat]?) = fun m => xs[i + m]? := by
    funext m
    have : ((i : Int) + (m : Int) * 1).toNat = i + m := by omega
    rw [this]
  rw [e]
  have := pick_run xs i k
  rw [List.filterMap_map] at this
  have e2 : ((fun x => xs[x]?) ∘ fun x => i + x) = fun m => xs[i + m]? := rfl
  rw [e2] at this
  rw [this]
theorem getItem_tuple_cut {t sl : Addr} {items : Array Value} {vl vu : Value} {lo hi : Option Int} {Q : Value → Shared → Prop} (ht : IsTup s.heap t items) (hs : s.heap.IsSliceOf sl vl vu .none) (pl : IsPart vl lo) (pu : IsPart vu hi)
    (hw : ¬ (sIx items.size 0 lo = 0 ∧ sIx items.size items.size hi = items.size))
    (h : Q (.ref s.heap.objs.size) { s with heap := s.heap.push { cls := .type "tuple", data := .seq ((items.toList.drop (sIx items.size 0 lo)).take (sIx items.size items.size hi - sIx items.size 0 lo)).toArray } })
    (hsz : items.size ≤ sizeLine) : wpAny (model prog w) A (getItem (.ref t) (.ref sl)) Q E s := by
  have htake : sizeOk (.seq ((items.toList.drop (sIx items.size 0 lo)).take (sIx items.size items.size hi - sIx items.size 0 lo)).toArray) := by
    show ((items.toList.drop (sIx items.size 0 lo)).take (sIx items.size items.size hi - sIx items.size 0 lo)).toArray.size ≤ sizeLine
    rw [List.size_toArray, List.length_take, List.length_drop, Array.length_toList]
    omega
  have hj : sIx items.size items.size hi ≤ items.size := sIx_le _ _ (Nat.le_refl _) hi
  obtain ⟨os, hos, hcs, hds⟩ := id hs
  have hTs : s.TypeIs (.ref sl) "slice" := ⟨os, hos, hcs⟩
  unfold getItem
  try with_reducible refine wpAny_holding ?_
  first | refine wpAny_bind (wpAny_pure ?_) | skip
  refine wpAny_bind (wpAny_sequenceKey ht.typeIs (by decide) ?_)
  refine wpAny_bind (wpAny_callSpecial?_slot (name := Str.ofString "__getitem__") ht.typeIs PyProof.Rows.slot_tuple_getitem
    (wpAny_call_entry PyProof.Rows.slot_tuple_getitem ht.typeIs entry_tuple_getitem ?_ (args_tuple_getitem _ _)))
  show wpAny _ _ (Builtin.Tuple.tupleItemsOf (.ref t) >>= _) _ _ s
  refine wpAny_bind (tupleItemsOf_ ht ?_)
  refine wpAny_bind (wpAny_typeOf hTs ?_)
  rw [if_pos (by decide)]
  refine wpAny_bind (sliceApplied_gen hs pl pu ?_)
  have hno : ¬ ((((sIx items.size 0 lo : Nat) : Int) == 0 && (1 : Int) == 1 && (sIx items.size items.size hi - sIx items.size 0 lo) == items.size) = true) := by
    intro q
    rw [Bool.and_eq_true, Bool.and_eq_true] at q
    have q1 : ((sIx items.size 0 lo : Nat) : Int) = 0 := eq_of_beq q.1.1
    have q2 : sIx items.size items.size hi - sIx items.size 0 lo = items.size := eq_of_beq q.2
    exact hw ⟨by omega, by omega⟩
  show wpAny _ _ (if (((sIx items.size 0 lo : Nat) : Int) == 0 && (1 : Int) == 1 && (sIx items.size items.size hi - sIx items.size 0 lo) == items.size) = true then _ else _) _ _ s
  rw [if_neg hno, pick_gen]
  first
    | exact wpAny_bind (m := Builtin.Tuple.tupleExact _) (wpAny_newObj_type (wpAny_pure ⟨_, rfl, wpAny_pure h⟩) htake)
    | exact wpAny_bind (m := Builtin.Tuple.tupleExact _) (wpAny_newObj_type (wpAny_bind (wpAny_pure (wpAny_pure ⟨_, rfl, wpAny_pure h⟩))) htake)
    | exact wpAny_bind (wpAny_bind (m := Builtin.Tuple.tupleExact _) (wpAny_newObj_type (wpAny_pure (wpAny_pure ⟨_, rfl, wpAny_pure h⟩)) htake))
    | exact wpAny_bind (wpAny_bind (m := Builtin.Tuple.tupleExact _) (wpAny_newObj_type (wpAny_pure ⟨_, rfl, wpAny_pure h⟩) htake))
end
end HT
namespace L2
open PySem PySem.Spec PyProof.Rows
abbrev TO := St → Hp → (Option Int → Hp → Prop) → Prop
def PO (X : Cx) (e : Option Expr) (t : TO) : Prop :=
  ∀ (pins : List (Addr × Obj)) (s : Shared) (σ : St) (H : Hp) (Q : Option Int → Hp → Prop), Inv X pins σ H s → t σ H Q →
    wpAny (model X.prog X.w) X.A (evalPart e X.env) (fun u s' => ∃ o H', Inv X pins σ H' s' ∧ IsPart u o ∧ Q o H') X.xe s
def tNoPart : TO := fun _ H Q => Q none H
def tPart (t : TE) : TO := fun σ H Q => t σ H fun x H1 => ∃ i, x = .int i ∧ Q (some i) H1
section
variable {X : Cx} {e : Expr} {te : TE} {lo hi : Option Expr} {tl th : TO} {pos p2 : Pos}
theorem po_none : PO X none tNoPart := by
  intro pins s σ H Q I h
  rw [evalPart_none]
  exact wpAny_pure ⟨none, H, I, .none, h⟩
theorem po_some (h : PE X e te) : PO X (some e) (tPart te) := by
  intro pins s σ H Q I hw
  rw [evalPart_some]
  refine thn (h pins s σ H _ I hw) fun u s1 hq0 => ?_
  obtain ⟨x, H1, I1, r1, q1⟩ := hq0
  obtain ⟨i, rfl, q⟩ := q1
  obtain ⟨t, rfl⟩ := r1
  exact ⟨some i, H1, I1, .int i t, q⟩
def SlR (X : Cx) (r : V → Option Int → Option Int → Hp → VK → Prop) : Prop :=
  ∀ (pins : List (Addr × Obj)) (s : Shared) (σ : St) (H : Hp) (x : V) (v vl vu : Value) (lo hi : Option Int) (sl : Addr) (Q : VK), Inv X pins σ H s → RelV x v → s.heap.IsSliceOf sl vl vu .none → IsPart vl lo → IsPart vu hi → r x lo hi H Q →
    ∃ T id, typeLookup (.type T) "__getitem__" = pure (some (.builtin id)) ∧ s.TypeIs v T ∧ wpAny (model X.prog X.w) X.A (getItem v (.ref sl)) (EP X pins σ Q) X.xe s
theorem SlR.or {r r' : V → Option Int → Option Int → Hp → VK → Prop} (h : SlR X r) (h' : SlR X r') : SlR X (fun x lo hi H Q => r x lo hi H Q ∨ r' x lo hi H Q) := by
  intro pins s σ H x v vl vu lo hi sl Q I rx hs pl pu q
  rcases q with q | q
  · exact h pins s σ H x v vl vu lo hi sl Q I rx hs pl pu q
  · exact h' pins s σ H x v vl vu lo hi sl Q I rx hs pl pu q
def tSl (r : V → Option Int → Option Int → Hp → VK → Prop) (te : TE) (tl th : TO) : TE := fun σ H Q => te σ H fun x H1 => tl σ H1 fun l H2 => th σ H2 fun u H3 => r x l u H3 Q
theorem pe_slice {r : V → Option Int → Option Int → Hp → VK → Prop} (hr : SlR X r) (he : PE X e te) (hl : PO X lo tl) (hu : PO X hi th) : PE X (.Subscript e (.Slice lo hi none p2) pos) (tSl r te tl th) := by
  intro pins s σ H Q I h
  refine Subscript_ (thn (he pins s σ H _ I h) fun v s1 hq0 => ?_)
  obtain ⟨x, H1, I1, r1, q1⟩ := hq0
  refine wpAny_Slice (thn (hl pins s1 σ H1 _ I1 q1) fun vl s2 ⟨l, H2, I2, pl, q2⟩ => thn (hu pins s2 σ H2 _ I2 q2) fun vu s3 hq0 => ?_)
  obtain ⟨u, H3, I3, pu, q3⟩ := hq0
  rw [evalPart_none]
  refine wpAny_pure ?_
  have I4 : Inv X pins σ H3 { s3 with heap := s3.heap.push { cls := .type "slice", data := .fields #[vl, vu, .none] } } := I3.kept (t' := s3.toks) fun b ob q => Heap.get?_push_of_some _ q
  obtain ⟨T, id, hT, ht, hg⟩ := hr pins { s3 with heap := s3.heap.push { cls := .type "slice", data := .fields #[vl, vu, .none] } } σ H3 x v vl vu l u s3.heap.objs.size Q I4 r1 (Heap.IsSliceOf.new ..) pl pu q3
  show wpAny (model X.prog X.w) X.A (subscriptTail e (.Slice lo hi none p2) v (.ref s3.heap.objs.size)) (EP X pins σ Q) X.xe { s3 with heap := s3.heap.push { cls := .type "slice", data := .fields #[vl, vu, .none] } }
  exact tail_any (ops := [.ref s3.heap.objs.size, v]) ht hT hg (by with_unfolding_all rfl)
def cutV (xs : List V) (lo hi : Option Int) : List V := (xs.drop (HT.sIx xs.length 0 lo)).take (HT.sIx xs.length xs.length hi - HT.sIx xs.length 0 lo)
theorem cutV_length (xs : List V) (lo hi : Option Int) : (cutV xs lo hi).length ≤ xs.length := by
  unfold cutV
  rw [List.length_take, List.length_drop]
  omega
def rSlT (K : PySem.W.Frag) : V → Option Int → Option Int → Hp → VK → Prop := fun x lo hi H Q => ∃ a xs, x = .ref a ∧ SqT K H a xs ∧
  ¬ (HT.sIx xs.length 0 lo = 0 ∧ HT.sIx xs.length xs.length hi = xs.length) ∧ ∀ p, H p = none → Q (.ref p) (upd H p (.tup (cutV xs lo hi)))
theorem sl_tup : SlR X (rSlT X.K) := by
  intro pins s σ H x v vl vu lo hi sl Q I rx hs pl pu h
  obtain ⟨a, xs, rfl, hx, hw, q⟩ := h
  cases rx
  obtain ⟨its, r, ht, hz⟩ := I.tuple hx
  have hlen : its.toArray.size = xs.length := by rw [List.size_toArray]; exact r.length.symm
  refine ⟨"tuple", _, PyProof.Rows.slot_tuple_getitem.lookup, ht.typeIs, ?_⟩
  refine HT.getItem_tuple_cut ht hs pl pu (by rw [hlen]; exact hw) ?_ (by rw [hlen]; exact hz)
  rw [hlen]
  refine ⟨.ref s.heap.objs.size, _, I.laid (t' := s.toks) (o := .tup (cutV xs lo hi)) (fun b ob q => Heap.get?_push_of_some _ q) (Nat.le_refl _) ?_, rfl, q _ (I.hok.fresh (Nat.le_refl _))⟩
  exact ⟨Nat.le_trans (cutV_length xs lo hi) hz, _, (r.drop (HT.sIx xs.length 0 lo)).take (HT.sIx xs.length xs.length hi - HT.sIx xs.length 0 lo), TupN.new _ _⟩
def rCatT (K : PySem.W.Frag) : R2 := fun x y H Q => ∃ a b xs ys, x = .ref a ∧ y = .ref b ∧ SqT K H a xs ∧ SqT K H b ys ∧ xs ≠ [] ∧ xs.length + ys.length ≤ sizeLine ∧
  (ys = [] → Q (.ref a) H) ∧ (ys ≠ [] → ∀ p, H p = none → Q (.ref p) (upd H p (.tup (xs ++ ys))))
theorem Vals.nil_iff {xs : List V} {us : List Value} (r : Vals xs us) : us = [] ↔ xs = [] := by
  cases r with
  | nil => simp
  | cons _ _ => simp
theorem op_catT : OpR X (binaryOp .Add) (rCatT X.K) := by
  intro pins s σ H x y v u Q I rx ry h
  obtain ⟨a, b, xs, ys, rfl, rfl, ha, hb, hx, hz, q1, q2⟩ := h
  cases rx
  cases ry
  obtain ⟨its, r1, p1, _⟩ := I.tuple ha
  obtain ⟨its2, r2, p2, _⟩ := I.tuple hb
  refine HT.cat_tup p1 p2 (fun z => hx (r1.nil_iff.mp z)) (fun z => ⟨.ref a, H, I, rfl, q1 (r2.nil_iff.mp z)⟩) (fun z => ?_) (by rw [← r1.length, ← r2.length]; exact hz)
  refine ⟨.ref s.heap.objs.size, _, I.laid (t' := s.toks) (o := .tup (xs ++ ys)) (fun b ob q => Heap.get?_push_of_some _ q) (Nat.le_refl _) ?_, rfl, q2 (fun w => z (r2.nil_iff.mpr w)) _ (I.hok.fresh (Nat.le_refl _))⟩
  exact ⟨by rw [List.length_append]; exact hz, _, r1.append r2, TupN.new _ _⟩
end
end L2
namespace L2
open PySem PySem.Spec PyProof.Rows
def ixN (n : Nat) (i : Int) : Option Nat := if 0 ≤ i then (if i < n then some i.toNat else none) else if -(n : Int) ≤ i then some (i + n).toNat else none
def atI {α : Type} (xs : List α) (i : Int) : Option α := (ixN xs.length i).bind fun j => xs[j]?
theorem ixN_seq {n : Nat} {i : Int} {j : Nat} (h : ixN n i = some j) : seqIndex? i n = some j ∧ j < n ∧ -(n : Int) ≤ i ∧ i < n := by
  unfold ixN at h
  by_cases h0 : 0 ≤ i
  · rw [if_pos h0] at h
    by_cases h1 : i < n
    · rw [if_pos h1] at h
      have e : i.toNat = j := Option.some.inj h
      exact ⟨by rw [seqIndex_of h0 h1, e], by omega, by omega, h1⟩
    · rw [if_neg h1] at h; cases h
  · rw [if_neg h0] at h
    by_cases h1 : -(n : Int) ≤ i
    · rw [if_pos h1] at h
      have e : (i + n).toNat = j := Option.some.inj h
      exact ⟨by rw [seqIndex_neg (by omega) h1, e], by omega, h1, by omega⟩
    · rw [if_neg h1] at h; cases h
theorem atI_get {α : Type} {xs : List α} {i : Int} {v : α} (h : atI xs i = some v) : ∃ j, seqIndex? i xs.length = some j ∧ xs[j]? = some v ∧ j < xs.length ∧ -(xs.length : Int) ≤ i ∧ i < xs.length := by
  unfold atI at h
  cases e : ixN xs.length i with
  | none => rw [e] at h; cases h
  | some j =>
    rw [e] at h
    obtain ⟨h1, h2, h3, h4⟩ := ixN_seq e
    exact ⟨j, h1, h, h2, h3, h4⟩
theorem atI_nat {α : Type} {xs : List α} {j : Nat} {v : α} (h : xs[j]? = some v) : atI xs (j : Int) = some v := by
  have hj : j < xs.length := (List.getElem?_eq_some_iff.mp h).1
  have e : ixN xs.length (j : Int) = some j := by
    unfold ixN
    rw [if_pos (by omega), if_pos (by omega)]; simp
  unfold atI; rw [e]; exact h
def PlainIx (b : Expr) : Prop := ∀ o i, subscripted b false o i = operate [o, i] (getItem o i)
def IxR (X : Cx) (r : R2) : Prop :=
  ∀ (value slice : Expr) (pins : List (Addr × Obj)) (s : Shared) (σ : St) (H : Hp) (x y : V) (v u : Value) (Q : VK), Inv X pins σ H s → RelV x v → RelV y u → r x y H Q →
    subscripted slice false v u = operate [v, u] (getItem v u) → wpAny (model X.prog X.w) X.A (subscriptTail value slice v u) (EP X pins σ Q) X.xe s
def MtR (X : Cx) (id : String) (r : V → List V → Hp → VK → Prop) : Prop :=
  ∀ (pins : List (Addr × Obj)) (s : Shared) (σ : St) (H : Hp) (x : V) (xs : List V) (v : Value) (us : List Value) (Q : VK), Inv X pins σ H s → RelV x v → Vals xs us → r x xs H Q →
    wpAny (model X.prog X.w) X.A (call (.builtin id) (v :: us)) (EP X pins σ Q) X.xe s
section
variable {X : Cx} {a b : Expr} {ta tb : TE} {pos : Pos}
theorem IxR.or {r r' : R2} (h : IxR X r) (h' : IxR X r') : IxR X (fun x y H Q => r x y H Q ∨ r' x y H Q) := by
  intro value slice pins s σ H x y v u Q I rx ry q hs
  rcases q with q | q
  · exact h value slice pins s σ H x y v u Q I rx ry q hs
  · exact h' value slice pins s σ H x y v u Q I rx ry q hs
theorem MtR.or {id : String} {r r' : V → List V → Hp → VK → Prop} (h : MtR X id r) (h' : MtR X id r') : MtR X id (fun x xs H Q => r x xs H Q ∨ r' x xs H Q) := by
  intro pins s σ H x xs v us Q I rx rs q
  rcases q with q | q
  · exact h pins s σ H x xs v us Q I rx rs q
  · exact h' pins s σ H x xs v us Q I rx rs q
theorem pe_ix {r : R2} (hr : IxR X r) (ha : PE X a ta) (hb : PE X b tb) (hs : PlainIx b) : PE X (.Subscript a b pos) (tOp r ta tb) := by
  intro pins s σ H Q I h
  exact Subscript_ (binT ha hb I h fun v u s2 x y H2 I2 rx ry q => hr a b pins s2 σ H2 x y v u Q I2 rx ry q (hs _ _))
def rIxL (K : PySem.W.Frag) : R2 := fun x y H Q => ∃ p xs i v, x = .ref p ∧ y = .int i ∧ SqL K H p xs ∧ atI xs i = some v ∧ Q v H
def rIxT (K : PySem.W.Frag) : R2 := fun x y H Q => ∃ p xs i v, x = .ref p ∧ y = .int i ∧ SqT K H p xs ∧ atI xs i = some v ∧ Q v H
def rIxS : R2 := fun x y H Q => ∃ z i c, x = .str z ∧ y = .int i ∧ z.length ≤ sizeLine ∧ atI z.cps.toList i = some c ∧ Q (.str ⟨#[c]⟩) H
theorem ix_list : IxR X (rIxL X.K) := by
  intro value slice pins s σ H x y v u Q I rx ry h hs
  obtain ⟨p, xs, i, z, rfl, rfl, hq, he, q⟩ := h
  cases rx
  obtain ⟨t, rfl⟩ := ry
  obtain ⟨its, r, pl, hz⟩ := I.list hq
  obtain ⟨j, h1, h2, h3, h4, h5⟩ := atI_get he
  obtain ⟨w, ew, rw'⟩ := r.get h2
  have hl := r.length
  have hn := line63
  have fin : EP X pins σ Q w s := ⟨z, H, I, rw', q⟩
  by_cases h0 : 0 ≤ i
  · have hj : i.toNat = j := by
      rw [seqIndex_of h0 h5] at h1
      exact Option.some.inj h1
    exact item_listR pl.isList h0 (by omega) (by rw [hj]; simpa using ew) fin hs
  · have hj : (i + (its.toArray.size : Int)).toNat = j := by
      rw [seqIndex_neg (by omega) h4] at h1
      rw [List.size_toArray, ← hl]
      exact Option.some.inj h1
    exact subscriptTail_builtinR (x := w) pl.isList.typeIs slot_list_getitem.lookup
      (wpAny_getItem_list_neg (Q := fun r s' => r = w ∧ EP X pins σ Q r s') pl.isList (by omega) (by rw [List.size_toArray] <;> omega) (by omega) (by rw [hj]; simpa using ew) ⟨rfl, fin⟩) hs
theorem ix_tup : IxR X (rIxT X.K) := by
  intro value slice pins s σ H x y v u Q I rx ry h hs
  obtain ⟨p, xs, i, z, rfl, rfl, hq, he, q⟩ := h
  cases rx
  obtain ⟨t, rfl⟩ := ry
  obtain ⟨its, r, pl, hz⟩ := I.tuple hq
  obtain ⟨j, h1, h2, h3, h4, h5⟩ := atI_get he
  obtain ⟨w, ew, rw'⟩ := r.get h2
  have hl := r.length
  have hn := line63
  have fin : EP X pins σ Q w s := ⟨z, H, I, rw', q⟩
  exact subscriptTail_builtinR (x := w) pl.typeIs slot_tuple_getitem.lookup
    (getItem_tuple (j := j) (Q := fun r s' => r = w ∧ EP X pins σ Q r s') pl (by omega) (by omega) (by rw [List.size_toArray, ← hl]; exact h1) (by simpa using ew) ⟨rfl, fin⟩) hs
theorem ix_str : IxR X rIxS := by
  intro value slice pins s σ H x y v u Q I rx ry h hs
  obtain ⟨z, i, c, rfl, rfl, hz, he, q⟩ := h
  obtain ⟨t, rfl⟩ := rx
  obtain ⟨t', rfl⟩ := ry
  obtain ⟨j, h1, h2, h3, h4, h5⟩ := atI_get he
  have hl : z.cps.toList.length = z.length := by simp [Str.length]
  rw [hl] at h1 h4 h5
  have hn := line63
  exact tail_any (typeIs_str s z t) slot_str_getitem.lookup (getItem_str (c := c) (by
    have e1 : decide (i < -(2 ^ 63 : Int)) = false := decide_eq_false (by omega)
    have e2 : decide (i ≥ 2 ^ 63) = false := decide_eq_false (by omega)
    rw [e1, e2, Bool.or_false]) (by rw [h1]; simpa using h2) ⟨.str ⟨#[c]⟩, H, I.tok _, ⟨_, rfl⟩, q⟩) hs
def rIx (K : PySem.W.Frag) : R2 := fun x y H Q => rIxL K x y H Q ∨ rIxT K x y H Q ∨ rIxS x y H Q
theorem ix_seq : IxR X (rIx X.K) := ix_list.or (ix_tup.or ix_str)
theorem Inv.lst {pins : List (Addr × Obj)} {σ : St} {H : Hp} {s : Shared} {p : Addr} {xs : List V} (I : Inv X pins σ H s) (h : H p = some (.lst xs)) :
    ∃ (its : List Value) (n : Nat), Vals xs its ∧ s.heap.get? p = some { cls := .type "list", data := .seq its.toArray n } ∧ xs.length ≤ sizeLine := by
  obtain ⟨z, its, n, r, e⟩ := I.hok p _ h
  exact ⟨its, n, r, e, z⟩
theorem slice_bounds (lo hi : Option Int) (n : Nat) : (sliceBounds lo hi none n).1 = ((HT.sIx n 0 lo : Nat) : Int) ∧ (sliceBounds lo hi none n).2.1 = ((HT.sIx n n hi : Nat) : Int) ∧ (sliceBounds lo hi none n).2.2 = 1 := by
  refine ⟨?_, ?_, rfl⟩
  · cases lo with
    | none => simp [sliceBounds, HT.sIx]
    | some i =>
      simp only [sliceBounds, HT.sIx, Option.getD_none, show (1 : Int) > 0 by decide, if_true]
      by_cases h : i < 0
      · simp only [h, if_true] <;> omega
      · simp only [h, if_false] <;> omega
  · cases hi with
    | none => simp [sliceBounds, HT.sIx]
    | some i =>
      simp only [sliceBounds, HT.sIx, Option.getD_none, show (1 : Int) > 0 by decide, if_true]
      by_cases h : i < 0
      · simp only [h, if_true] <;> omega
      · simp only [h, if_false] <;> omega
theorem slicePick_cut (its : List Value) (lo hi : Option Int) : slicePick its.toArray lo hi none = ((its.drop (HT.sIx its.length 0 lo)).take (HT.sIx its.length its.length hi - HT.sIx its.length 0 lo)).toArray := by
  obtain ⟨h1, h2, h3⟩ := slice_bounds lo hi its.toArray.size
  unfold slicePick
  rw [h1, h2, h3]
  simp only [sliceRange_one, pick_run, List.size_toArray] <;> rfl
def rSlL (K : PySem.W.Frag) : V → Option Int → Option Int → Hp → VK → Prop := fun x lo hi H Q => ∃ a xs, x = .ref a ∧ SqL K H a xs ∧ ∀ p, H p = none → Q (.ref p) (upd H p (.lst (cutV xs lo hi)))
theorem sl_list : SlR X (rSlL X.K) := by
  intro pins s σ H x v vl vu lo hi sl Q I rx hs pl pu h
  obtain ⟨a, xs, rfl, hx, q⟩ := h
  cases rx
  obtain ⟨its, r, ht, hz⟩ := I.list hx
  have hlen := r.length
  refine ⟨"list", _, slot_list_getitem.lookup, ht.isList.typeIs, ?_⟩
  refine wpAny_getItem_list_slice ht.isList hs pl pu .none (by simp) ?_ (by rw [List.size_toArray] <;> omega)
  rw [slicePick_cut, ← hlen]
  refine ⟨.ref s.heap.objs.size, _, I.laid (t' := s.toks) (o := .lst (cutV xs lo hi)) (fun b ob q => Heap.get?_push_of_some _ q) (Nat.le_refl _) ?_, rfl, q _ (I.hok.fresh (Nat.le_refl _))⟩
  exact ⟨Nat.le_trans (cutV_length xs lo hi) hz, _, 0, (r.drop (HT.sIx xs.length 0 lo)).take (HT.sIx xs.length xs.length hi - HT.sIx xs.length 0 lo), Heap.get?_push_size _ rfl⟩
theorem call_len_seq : CallR X (.builtin "len") (fun xs H Q => ∃ p ys, xs = [.ref p] ∧ (SqL X.K H p ys ∨ SqT X.K H p ys) ∧ Q (.int ys.length) H) := by
  intro pins s σ H xs us Q I r h
  obtain ⟨p, ys, rfl, hq, q⟩ := h
  obtain ⟨u, rfl, rx⟩ := vals1 r
  cases rx
  have hn := line63
  rcases hq with hq | hq
  · obtain ⟨its, r', pl, hz⟩ := I.list hq
    have hlen := r'.length
    exact Calls.call_len_list pl.isList (by simp only [List.size_toArray] <;> omega) ⟨.int ys.length, H, I.tok _, ⟨s.toks + 1, by rw [List.size_toArray, hlen]⟩, q⟩
  · obtain ⟨its, r', pl, hz⟩ := I.tuple hq
    have hlen := r'.length
    exact len_tuple pl (by simp only [List.size_toArray] <;> omega) ⟨.int ys.length, H, I.tok _, ⟨s.toks + 1, by rw [List.size_toArray, hlen]⟩, q⟩
theorem call_len_str : CallR X (.builtin "len") (fun xs H Q => ∃ z, xs = [.str z] ∧ z.length ≤ sizeLine ∧ Q (.int z.length) H) := by
  intro pins s σ H xs us Q I r h
  obtain ⟨z, rfl, hz, q⟩ := h
  obtain ⟨u, rfl, t, rfl⟩ := vals1 r
  have hn := line63
  exact len_str (by omega) ⟨.int z.length, H, I.tok _, ⟨_, rfl⟩, q⟩
theorem CallR.or {f : Value} {r r' : List V → Hp → VK → Prop} (h : CallR X f r) (h' : CallR X f r') : CallR X f (fun xs H Q => r xs H Q ∨ r' xs H Q) := by
  intro pins s σ H xs us Q I rs q
  rcases q with q | q
  · exact h pins s σ H xs us Q I rs q
  · exact h' pins s σ H xs us Q I rs q
theorem call_list_of : CallR X (.type "list") (fun xs H Q => ∃ p ys, xs = [.ref p] ∧ (SqL X.K H p ys ∨ SqT X.K H p ys) ∧ ∀ l, H l = none → Q (.ref l) (upd H l (.lst ys))) := by
  intro pins s σ H xs us Q I r h
  obtain ⟨p, ys, rfl, hq, q⟩ := h
  obtain ⟨u, rfl, rx⟩ := vals1 r
  cases rx
  have fin : ∀ (its : List Value), Vals ys its → ys.length ≤ sizeLine → ∀ (h' : Heap) (c' : Nat), (∀ b o', s.heap.get? b = some o' → h'.get? b = some o') →
      h'.get? s.heap.objs.size = some { cls := .type "list", dict := none, data := .seq its.toArray c', slots := #[] } → EP X pins σ Q (.ref s.heap.objs.size) { s with heap := h' } := fun its r' hz h' c' kp e =>
    ⟨.ref s.heap.objs.size, _, I.laid (t' := s.toks) kp (Nat.le_refl _) (show ObjOk X.prog X.w _ h' _ (.lst ys) from ⟨hz, its, c', r', e⟩), rfl, q _ (I.hok.fresh (Nat.le_refl _))⟩
  rcases hq with hq | hq
  · obtain ⟨its, r', pl, hz⟩ := I.list hq
    have hlen := r'.length
    obtain ⟨o, ho, hc, n, hd⟩ := pl.isList
    exact call_list_seq p (.inl rfl) ho hc hd (fun h' c' kp e => fin its r' hz h' c' kp e) (by simp only [List.size_toArray] <;> omega)
  · obtain ⟨its, r', pl, hz⟩ := I.tuple hq
    have hlen := r'.length
    obtain ⟨o, ho, hc, n, hd⟩ := pl
    exact call_list_seq p (.inr rfl) ho hc hd (fun h' c' kp e => fin its r' hz h' c' kp e) (by simp only [List.size_toArray] <;> omega)
theorem call_tuple_of : CallR X (.type "tuple") (fun xs H Q => ∃ p ys, xs = [.ref p] ∧ ((SqL X.K H p ys ∧ ∀ l, H l = none → Q (.ref l) (upd H l (.tup ys))) ∨ (SqT X.K H p ys ∧ Q (.ref p) H))) := by
  intro pins s σ H xs us Q I r h
  obtain ⟨p, ys, rfl, h⟩ := h
  obtain ⟨u, rfl, rx⟩ := vals1 r
  cases rx
  rcases h with ⟨hq, q⟩ | ⟨hq, q⟩
  · obtain ⟨its, r', pl, hz⟩ := I.list hq
    have hlen := r'.length
    refine call_tuple_list pl.isList (fun h' kp => ?_) (by simp only [List.size_toArray] <;> omega)
    have I1 : Inv X pins σ H { s with heap := h' } := I.kept (t' := s.toks) kp
    have I2 : Inv X pins σ (upd H h'.objs.size (.tup ys)) { s with heap := h'.push { cls := .type "tuple", data := .seq its.toArray } } :=
      I1.laid (t' := s.toks) (fun b o e => Heap.get?_push_of_some _ e) (Nat.le_refl _) (show ObjOk X.prog X.w _ _ _ (.tup ys) from ⟨hz, its, r', TupN.new _ _⟩)
    exact ⟨.ref h'.objs.size, _, I2, rfl, q _ (I1.hok.fresh (Nat.le_refl _))⟩
  · obtain ⟨its, r', pl, hz⟩ := I.tuple hq
    exact call_tuple_same pl ⟨.ref p, H, I, rfl, q⟩
def tyV (K : PySem.W.Frag) (T : String) (x : V) (H : Hp) : Prop := match x with
  | .str _ => T = "str"
  | .int _ => T = "int"
  | .ref p => (T = "list" ∧ ∃ xs, SqL K H p xs) ∨ (T = "tuple" ∧ ∃ o, K.lookup p = some o ∧ o.cls = .type "tuple" ∧ o.dict = none) ∨
      (T = "dict" ∧ ((∃ kvs, H p = some (.dK kvs)) ∨ ∃ kvs, H p = some (.dT kvs))) ∨ (T = "set" ∧ ∃ S n, H p = some (.set S n))
  | _ => False
theorem tyV_is {pins : List (Addr × Obj)} {σ : St} {H : Hp} {s : Shared} {T : String} {x : V} {v : Value} (I : Inv X pins σ H s) (r : RelV x v) (ty : tyV X.K T x H) :
    s.TypeIs v T ∧ ∀ a, v = .ref a → ∃ ob, s.heap.get? a = some ob ∧ ob.dict = none := by
  cases x with
  | str z =>
    obtain ⟨t, rfl⟩ := r
    cases (show T = "str" from ty)
    exact ⟨typeIs_str s z t, fun _ e => nomatch e⟩
  | int i =>
    obtain ⟨t, rfl⟩ := r
    cases (show T = "int" from ty)
    exact ⟨typeIs_int s i t, fun _ e => nomatch e⟩
  | ref p =>
    cases r
    rcases ty with ⟨rfl, xs, hq⟩ | ⟨rfl, o, hk, hc, hd⟩ | ⟨rfl, hk⟩ | ⟨rfl, S, n, hk⟩
    · obtain ⟨its, _, pl, _⟩ := I.list hq
      refine ⟨pl.isList.typeIs, fun a e => ?_⟩
      cases e
      obtain ⟨o, n, e, c, hd, _⟩ := pl
      exact ⟨o, e, hd⟩
    · refine ⟨⟨o, I.kIn p o hk, hc⟩, fun a e => ?_⟩
      cases e
      exact ⟨o, I.kIn _ o hk, hd⟩
    · have z : ∃ o, s.heap.get? p = some o ∧ o.ExactDict := by
        rcases hk with ⟨kvs, hk⟩ | ⟨kvs, hk⟩
        · obtain ⟨_, _, _, _, o, _, _, e, ex, _⟩ := I.hok p _ hk
          exact ⟨o, e, ex⟩
        · obtain ⟨_, _, _, _, o, _, _, e, ex, _⟩ := I.hok p _ hk
          exact ⟨o, e, ex⟩
      obtain ⟨o, e, ex⟩ := z
      refine ⟨⟨o, e, ex.1⟩, fun a e2 => ?_⟩
      cases e2
      exact ⟨o, e, ex.2.1⟩
    · obtain ⟨o, _, _, _, e, ex, _⟩ := I.hok p _ hk
      refine ⟨⟨o, e, ex.1⟩, fun a e2 => ?_⟩
      cases e2
      exact ⟨o, e, ex.2.1⟩
  | _ => exact False.elim ty
def tBM0 (K : PySem.W.Frag) (T : String) (r : V → List V → Hp → VK → Prop) (to : TE) : TE := fun σ H Q => to σ H fun x H1 => tyV K T x H1 ∧ r x [] H1 Q
def tBM (K : PySem.W.Frag) (T : String) (r : V → List V → Hp → VK → Prop) (to : TE) (t : TA) : TE := fun σ H Q => to σ H fun x H1 => tyV K T x H1 ∧ t σ H1 fun xs H2 => r x xs H2 Q
variable {o e : Expr} {es : List Expr} {to : TE} {t : TA} {name : Str} {apos cpos : Pos} {T id : String} {r : V → List V → Hp → VK → Prop}
theorem pe_bm0 (pa : PlainAttrs T) (slot : Slot T name id) (hty : typeOf (.builtin id) = pure (.type "method_descriptor")) (hm : MtR X id r) (ho : PE X o to)
    (hbase : attributeBase o name X.env (eval o X.env) = eval o X.env := by rfl) (hline : (apos.endLine == cpos.line) = true := by rfl) : PE X (.Call (.Attribute o name apos) [] [] cpos) (tBM0 X.K T r to) := by
  intro pins s σ H Q I h
  refine wpAny_Call_method0_late hbase hline (thn (ho pins s σ H _ I h) fun v s1 hq0 => ?_)
  obtain ⟨x, H1, I1, r1, ty, q1⟩ := hq0
  obtain ⟨h1, h2⟩ := tyV_is I1 r1 ty
  exact ⟨T, id, pa, slot, hty, h1, h2, Calls.callWith_builtin rfl (PySem.evalArgs_none (hm pins s1 σ H1 x [] v [] Q I1 r1 .nil q1))⟩
theorem pe_bm (pa : PlainAttrs T) (slot : Slot T name id) (hty : typeOf (.builtin id) = pure (.type "method_descriptor")) (hm : MtR X id r) (ho : PE X o to) (ha : PA X (e :: es) t)
    (hbase : attributeBase o name X.env (eval o X.env) = eval o X.env := by rfl)
    (hfew : ((backTo cpos (starEach (e :: es) X.env)).all (fun x => !x.1) && (backToKw cpos (keywordEach [] X.env)).all (fun x => x.1.isSome)
      && decide ((e :: es).length + ([] : List Keyword).length + (if ([] : List Keyword).isEmpty then 0 else 1) < 30)) = true := by rfl)
    (hline : (apos.endLine == cpos.line) = true := by rfl) (hs : starEach (e :: es) X.env = (false, eval e X.env) :: starEach es X.env := by rfl) (hplain : (backTo cpos (starEach es X.env)).any (·.1) = false := by rfl) :
    PE X (.Call (.Attribute o name apos) (e :: es) [] cpos) (tBM X.K T r to t) := by
  intro pins s σ H Q I h
  refine wpAny_Call_method_late hbase hfew hline rfl (thn (ho pins s σ H _ I h) fun v s1 hq0 => ?_)
  obtain ⟨x, H1, I1, r1, ty, q1⟩ := hq0
  obtain ⟨h1, h2⟩ := tyV_is I1 r1 ty
  refine ⟨T, id, pa, slot, hty, h1, h2, ?_⟩
  have hA := ha cpos pins s1 σ H1 _ I1 q1
  rw [hs] at hA ⊢
  refine Calls.callWith_builtin (by show (false || (backTo cpos (starEach es X.env)).any (·.1)) = false; rw [hplain] <;> rfl) (Calls.evalArgs_plain ?_)
  exact thn hA fun us s2 ⟨vs, H2, I2, r2, q2⟩ => hm pins s2 σ H2 x vs v us Q I2 r1 r2 q2
end
end L2
namespace L2
open PySem PySem.Spec PyProof.Rows
def MtM (X : Cx) (id : String) (r : V → List V → Hp → VK → Prop) : Prop :=
  ∀ (pins : List (Addr × Obj)) (s : Shared) (σ : St) (H : Hp) (x : V) (xs : List V) (v : Value) (us : List Value) (Q : VK), Inv X pins σ H s → RelV x v → Vals xs us → r x xs H Q →
    wpAny (model X.prog X.w) X.A (call (.builtin id) (v :: us)) (EP X pins σ Q) X.xe s
theorem Vals.one : ∀ {x : V} {us : List Value}, Vals [x] us → ∃ u, us = [u] ∧ RelV x u
  | _, _, .cons r .nil => ⟨_, rfl, r⟩
theorem Vals.two {x y : V} {us : List Value} (h : Vals [x, y] us) : ∃ u v, us = [u, v] ∧ RelV x u ∧ RelV y v := by
  cases h with
  | cons r q =>
    cases q with
    | cons q z => cases z; exact ⟨_, _, rfl, r, q⟩
theorem Vals.zero : ∀ {us : List Value}, Vals [] us → us = []
  | _, .nil => rfl
theorem Vals.dropLast {xs : List V} {us : List Value} (h : Vals xs us) : Vals xs.dropLast us.dropLast := by
  induction h with
  | nil => exact .nil
  | cons r t ih =>
    cases t with
    | nil => exact .nil
    | cons q t' => exact .cons r ih
theorem Vals.eraseIdx : ∀ {xs : List V} {us : List Value} (i : Nat), Vals xs us → Vals (xs.eraseIdx i) (us.eraseIdx i)
  | _, _, _, .nil => .nil
  | _, _, 0, .cons _ t => t
  | _, _, i + 1, .cons r t => .cons r (Vals.eraseIdx i t)
theorem Vals.reverse {xs : List V} {us : List Value} (h : Vals xs us) : Vals xs.reverse us.reverse := by
  induction h with
  | nil => exact .nil
  | cons r t ih => rw [List.reverse_cons, List.reverse_cons]; exact Vals.append ih (.cons r .nil)
theorem erase_last {α : Type} (l : List α) : l.eraseIdx (l.length - 1) = l.dropLast := by
  induction l with
  | nil => rfl
  | cons a r ih =>
    cases r with
    | nil => rfl
    | cons b r =>
      have e : (a :: b :: r).length - 1 = ((b :: r).length - 1) + 1 := by
        have h1 : (a :: b :: r).length = r.length + 2 := rfl
        have h2 : (b :: r).length = r.length + 1 := rfl
        omega
      rw [e, List.eraseIdx_cons_succ, ih]
      all_goals rfl
section
variable {X : Cx} {pins : List (Addr × Obj)} {σ : St} {H : Hp} {s : Shared} {l b : Addr} {xs ys zs : List V}
theorem Inv.lset {its its' : List Value} {n : Nat} {f : Array Value → Array Value} {t' : Nat} (I : Inv X pins σ H s) (hH : H l = some (.lst xs))
    (e : s.heap.get? l = some { cls := .type "list", data := .seq its.toArray n }) (hf : f its.toArray = its'.toArray) (hv : Vals ys its') (hz : ys.length ≤ sizeLine) :
    Inv X pins σ (upd H l (.lst ys)) { s with heap := s.heap.update l (Obj.mapSeq f), toks := t' } := by
  have q := PySem.IsL.update e f
  rw [hf] at q
  refine I.write (x := l) (e := l) (by rw [hH]; exact trivial) (.inl rfl) (fun b' u hb hu => (Heap.get?_update_other s.heap (Obj.mapSeq f) (Ne.symm hb)).trans hu) ⟨_, q⟩ ?_
  exact ⟨hz, its', _, hv, q⟩
theorem Inv.lnew {its : List Value} {t' : Nat} (I : Inv X pins σ H s) (hv : Vals ys its) (hz : ys.length ≤ sizeLine) :
    Inv X pins σ (upd H s.heap.objs.size (.lst ys)) { s with heap := s.heap.push { cls := .type "list", data := .seq its.toArray }, toks := t' } :=
  I.laid (fun _ _ q => Heap.get?_push_of_some _ q) (Nat.le_refl _) ⟨hz, its, 0, hv, Heap.get?_push_size _ rfl⟩
theorem Inv.fresh (I : Inv X pins σ H s) : H s.heap.objs.size = none := I.hok.fresh (Nat.le_refl _)
theorem Inv.lstM (I : Inv X pins σ H s) (hH : H l = some (.lst xs)) : xs.length ≤ sizeLine ∧ ∃ (its : List Value) (n : Nat), Vals xs its ∧ xs.length = its.length ∧ s.heap.get? l = some { cls := .type "list", data := .seq its.toArray n } := by
  obtain ⟨z, its, n, r, e⟩ := I.hok l _ hH
  exact ⟨z, its, n, r, r.length, e⟩
end
section
variable {X : Cx}
def rAppend : V → List V → Hp → VK → Prop := fun x vs H Q => ∃ l xs y, x = .ref l ∧ vs = [y] ∧ H l = some (.lst xs) ∧ xs.length < sizeLine ∧ Q .non (upd H l (.lst (xs ++ [y])))
theorem mt_append : MtM X "list.append" rAppend := by
  intro pins s σ H x vs v us Q I rx rv h
  obtain ⟨l, xs, y, rfl, rfl, hH, hz, q⟩ := h
  cases rx
  obtain ⟨u, rfl, ru⟩ := rv.one
  obtain ⟨z, its, n, r, hl, e⟩ := I.lstM hH
  refine call_meets F.slot_list_append ⟨_, e, rfl⟩ F.entry_list_append (F.args_list_append_2 _ _) (PySem.list_append l its.toArray n u (by rw [List.size_toArray]; omega)) ⟨e, ?_⟩
  refine ⟨.non, _, I.lset (its' := its ++ [u]) hH e (by simp) (r.append (.cons ru .nil)) ?_, rfl, q⟩
  rw [List.length_append, List.length_singleton]
  omega
def rPop : V → List V → Hp → VK → Prop := fun x vs H Q => ∃ l xs y, x = .ref l ∧ vs = [] ∧ H l = some (.lst xs) ∧ xs[xs.length - 1]? = some y ∧ Q y (upd H l (.lst xs.dropLast))
theorem mt_pop : MtM X "list.pop" rPop := by
  intro pins s σ H x vs v us Q I rx rv h
  obtain ⟨l, xs, y, rfl, rfl, hH, hy, q⟩ := h
  cases rx
  have hus := rv.zero
  subst hus
  obtain ⟨z, its, n, r, hl, e⟩ := I.lstM hH
  obtain ⟨u, hu, ru⟩ := r.get hy
  have hy' : its.toArray[its.toArray.size - 1]? = some u := by
    show its.toArray[its.length - 1]? = some u
    rw [← Array.getElem?_toList, ← hl]
    exact hu
  refine call_meets F.slot_list_pop ⟨_, e, rfl⟩ F.entry_list_pop (F.args_list_pop_1 _) (MeetsSeq.list_pop_last l its.toArray n u hy' (by rw [List.size_toArray]; omega)) ⟨e, ?_⟩
  refine ⟨y, _, I.lset (its' := its.dropLast) hH e ?_ r.dropLast ?_, ru, q⟩
  · show its.toArray.eraseIdxIfInBounds (its.toArray.size - 1) = its.dropLast.toArray
    rw [List.size_toArray, List.eraseIdxIfInBounds_toArray, erase_last]
  · rw [List.length_dropLast]
    omega
end
end L2
namespace Att
open PySem PySem.W PySem.Calls PyProof.Rows
theorem ints_of_wellAll {P : Params} {h : Heap} : ∀ (ns : List Int) (vs : List Value), WellAll P h vs (ns.map WData.int) → IntsAre vs ns := by
  intro ns
  induction ns with
  | nil =>
    intro vs w
    rw [List.map_nil] at w
    cases w
    exact .nil
  | cons n ns ih =>
    intro vs w
    rw [List.map_cons] at w
    cases w with
    | cons a b =>
      cases a
      exact .cons _ _ (ih _ b)
theorem script_of {l : OpenLaw} {n : Nat} (hn : l.most = some n) {P : Params} {h : Heap} {args : List WData} {vals : List Value}
    (hpre : l.row.toRowW.claim.pre args = true) (hwl : WellAll P h vals args) :
    ∃ a vs ns, vals = [Value.ref a] ∧ args = [WData.list (ns.map WData.int)] ∧ h.get? a = some { cls := .type "list", data := .seq vs.toArray } ∧ IntsAre vs ns ∧ ns.length ≤ n := by
  have hsh : WShape.hasAll [] args [.list .int] = true := (pre_splitW hpre).1
  have hc : l.pre.holds [] { args := args } = true := (pre_splitW hpre).2
  obtain ⟨d, r, rfl, h1, h2⟩ := hasAllW_cons hsh
  obtain rfl := hasAllW_nil h2
  obtain ⟨xs, rfl, h3⟩ := hasW_list h1
  obtain ⟨ns, rfl⟩ := items_int h3
  have hlen : ns.length ≤ n := by
    unfold OpenLaw.pre at hc
    have h4 : (WTm.not (.lt (.lit (.int (n : Int))) (.len (.arg 0)))).holds [] { args := [.list (ns.map .int)] } = true := by
      have h4 := (holds_andW hc).1
      rw [hn] at h4
      exact h4
    have h5 := condW_of h4 (w_not (w_lt w_lit (w_len_list (w_arg rfl))))
    rw [List.length_map] at h5
    refine Nat.le_of_not_lt fun q => ?_
    have q' : (n : Int) < ((ns.length : Nat) : Int) := by omega
    first
      | (rw [decide_eq_true q'] at h5; exact absurd h5 (by decide))
      | (simp at h5; omega)
  cases hwl with
  | cons w1 w2 =>
    cases w2
    cases w1 with
    | list ho hall => exact ⟨_, _, ns, rfl, rfl, ho, ints_of_wellAll ns _ hall, hlen⟩
theorem post_true (l : OpenLaw) (args : List WData) : l.row.toRowW.claim.post args (.bool true) args = true :=
  postW_of (r := l.row.toRowW) (X := (true == true))
    (show WShape.has [] (.bool true) .bool = true by first | rfl | decide | simp [WShape.has, WShape.arms, WShape.armsAll])
    (show (WTm.eq .res (.lit (.bool true))).value [] { args := args, res := some (.bool true), after := args } = some (.bool (true == true)) from w_eq_bool (w_res rfl) w_lit) rfl
theorem attach_call {l : OpenLaw} {n : Nat} {q : Program} {loose : List Str} {XP : (Str → Option Value) → Heap → Prop} {YP : World → Heap → Prop} {d : DefRec}
    (hn : l.most = some n) (hdf : d.params.defaults = [])
    (call : ∀ (w : World) (s₀ s₁ : Shared) (mg mb : Str → Option Value) (fa : Addr) (o : Obj) (pm cd doc : Value) (a : Addr) (vs : List Value) (ns : List Int),
      Ground q loose [] XP w s₀ mg mb s₁.heap → YP w s₁.heap →
      s₁.heap.get? fa = some o → o.data = .func (docDef d.name d.params d.body d.scope pm cd doc) → s₁.heap.CodeRec cd d.name → mg d.name = some (.ref fa) →
      s₁.heap.get? a = some { cls := .type "list", data := .seq vs.toArray } → IntsAre vs ns → ns.length ≤ n → s₁.gens = #[] →
      codeAny (model l.prog w) callerA (.call (.ref fa) ⟨[.ref a], []⟩) (fun r s' => r = .ok (.ret (.bool true)) ∧ OldK s₁.heap s'.heap ∧ s'.os = s₁.os ∧ AllBare s'.gens) s₁) :
    WalkO q loose XP YP l.row.toRowW d [] (fun f vs => PySem.call f vs) := by
  intro w s₀ s₁ mg mb G Y fa o pm cd doc dV kV ho hd hcd hD hmg hg args vals as hpre hlay hrd hwl hlo
  obtain rfl : dV = .none := Dflts.none hD hdf
  obtain rfl : kV = .none := Dflts.noKw hD
  obtain ⟨a, vs, ns, rfl, rfl, hobj, hints, hlen⟩ := script_of hn hpre hwl
  refine enter_call (codeAny_mono (call w s₀ s₁ mg mb fa o pm cd doc a vs ns G Y ho (fd_plain hd) hcd hmg hobj hints hlen hg) fun r s' hq => ?_)
  obtain ⟨rfl, h2, h3, h4⟩ := hq
  exact ⟨.inl ⟨.bool true, .bool true, [], rfl, fun _ => rfl, .bool true, post_true l _, fun _ => ⟨List.Pairwise.nil, fun _ hm => (nomatch hm)⟩⟩, h2, h3, h4⟩
end Att
namespace L2
open PySem PySem.Spec PyProof.Rows
theorem vals_ints : ∀ {vs : List Value} {ns : List Int}, IntsAre vs ns → Vals (ns.map V.int) vs
  | _, _, .nil => .nil
  | _, _, .cons n t h => .cons ⟨t, rfl⟩ (vals_ints h)
theorem tq_some {K : PySem.W.Frag} {b : Addr} {q : Str} (h : tq K b = some q) : ∃ x c, (x, q) ∈ closers ∧ PySem.W.tabIn K x = some (c, b) := by
  unfold tq at h
  cases e : closers.find? fun p => match PySem.W.tabIn K p.1 with | some (_, P) => P == b | none => false with
  | none => rw [e] at h; cases h
  | some p =>
    rw [e] at h
    cases h
    have m := List.mem_of_find?_eq_some e
    have z := List.find?_some e
    refine ⟨p.1, ?_⟩
    cases t : PySem.W.tabIn K p.1 with
    | none => rw [t] at z; cases z
    | some r =>
      obtain ⟨c, P⟩ := r
      rw [t] at z
      obtain rfl : P = b := by simpa using z
      exact ⟨c, m, rfl⟩
theorem law_call {P : Program} {w : World} {K : PySem.W.Frag} {mg mb : Str → Option Value} {CX : CXT} {k : Nat} {fa a : Addr} {fd : FuncData} {x : Str} {sp : Sp} {s₁ : Shared} {vs : List Value} {ns : List Int}
    (KX : K.In s₁.heap) (hns : s₁.heap.Ns mainGlobals mg) (hb : s₁.heap.Ns builtinsNs mb) (hbb : ∀ x : Str, x ≠ "__name__" → mb x = bootBuiltins x) (hlim : s₁.heap.NoLimit) (hg : s₁.gens = #[])
    (ha : s₁.heap.get? a = some { cls := .type "list", data := .seq vs.toArray }) (hi : IntsAre vs ns) (hl : ns.length ≤ sizeLine) (hr : Room k callerA)
    (hbm : ∃ bm ob, mg "__builtins__" = some (.ref bm) ∧ bm ≠ builtinsNs ∧ s₁.heap.get? bm = some ob ∧ ob.cls = .type "module" ∧ ob.dict = some builtinsNs ∧ ob.data = .plain)
    (hnt : PySem.W.noTabs K = true) (htb : ∀ x c b, x ∈ closers.map (·.1) → PySem.W.tabIn K x = some (c, b) → PySem.W.CodeHd s₁.heap c b ∧ s₁.heap.get? b = some (PySem.W.tabObj #[]))
    (F : ∀ base : Heap, K.In base → base.Ns mainGlobals mg → FnOk P w K mg base CX k fa fd [x] sp) (hbind : ∀ (s : Shared) (u : Value), BindsTo s fd ⟨[u], []⟩ [(x, u)])
    (hsp : ∀ H : Hp, SqL K H a (ns.map V.int) → sp [.ref a] H (fun v _ => v = .bl true) fun _ _ _ => False)
    (hCX : ∀ H e s', CX [] H s₁ (fun _ _ _ => False) e s' → False) :
    codeAny (model P w) callerA (.call (.ref fa) ⟨[.ref a], []⟩) (fun r s' => r = .ok (.ret (.bool true)) ∧ OldK s₁.heap s'.heap ∧ s'.os = s₁.os ∧ AllBare s'.gens) s₁ := by
  have rv := vals_ints hi
  have lenV := hi.length
  have tab : ∀ {b : Addr} {q : Str}, tq K b = some q → (∃ c, PySem.W.CodeHd s₁.heap c b) ∧ s₁.heap.get? b = some (PySem.W.tabObj #[]) := fun {b q} e => by
    obtain ⟨x, c, m, t⟩ := tq_some e
    obtain ⟨h1, h2⟩ := htb x c b (List.mem_map.mpr ⟨_, m, rfl⟩) t
    exact ⟨⟨c, h1⟩, h2⟩
  have notab : ∀ {b : Addr} {o : Obj} {q : Str}, K.lookup b = some o → tq K b = some q → False := fun {b o q} e z => by
    have e2 := (tab z).2
    rw [KX b o e] at e2
    cases e2
    have h2 := List.all_eq_true.mp hnt (b, _) (PySem.W.mem_of_lookupK e)
    exact absurd (show false = true from h2) Bool.false_ne_true
  have core : ∀ H : Hp, (∀ b, (H b = none ∧ tq K b = none) ∨ (∃ o xs, H b = some (.frz o (.lst xs)) ∧ b = a ∧ tq K b = none) ∨ ∃ q, H b = some (.tbl q) ∧ tq K b = some q) → SqL K H a (ns.map V.int) → HOk P w H s₁.heap → (H a ≠ none → K.lookup a = none) →
      codeAny (model P w) callerA (.call (.ref fa) ⟨[.ref a], []⟩) (fun r s' => r = .ok (.ret (.bool true)) ∧ OldK s₁.heap s'.heap ∧ s'.os = s₁.os ∧ AllBare s'.gens) s₁ := by
    intro H hO hS hok hK
    have base_of : ∀ {b : Addr} {o : Obj}, s₁.heap.get? b = some o → H b = none → (hidT s₁.heap H).get? b = some o := fun e n => hidT_get e n
    have noA : ∀ {b : Addr} {o : Obj} {es : Array DictEntry} {ep : Nat}, s₁.heap.get? b = some o → o.data = .dict es ep → H b = none := fun {b o es ep} e d => by
      rcases hO b with z | ⟨_, _, _, rfl, _⟩ | ⟨q, z, t⟩
      · exact z.1
      · rw [ha] at e; cases e
        have d' : Data.seq vs.toArray _ = Data.dict es ep := d
        cases d'
      · rw [(tab t).2] at e; cases e
        have d' : Data.fields #[] = Data.dict es ep := d
        cases d'
    have nsK : ∀ {b : Addr} {m : Str → Option Value}, s₁.heap.Ns b m → (hidT s₁.heap H).Ns b m := fun {b m} ⟨o, es, ep, e, d, r⟩ => ⟨o, es, ep, base_of e (noA e d), d, r⟩
    have hKb : K.In (hidT s₁.heap H) := fun b o e => base_of (KX b o e) (by
      rcases hO b with z | ⟨_, _, z, rfl, _⟩ | ⟨q, z, t⟩
      · exact z.1
      · rw [hK (by rw [z]; simp)] at e; cases e
      · exact (notab e t).elim)
    have hM : Mod K mg (hidT s₁.heap H) := ⟨hKb, nsK hns, ⟨mb, nsK hb, hbb⟩, let ⟨mc, h1, h2⟩ := hlim; ⟨mc, nsK h1, h2⟩, by
      obtain ⟨bm, ob, b1, b2, b3, b4, b5⟩ := hbm
      refine ⟨bm, ob, b1, b2, base_of b3 ?_, b4, b5⟩
      rcases hO bm with z | ⟨_, _, _, rfl, _⟩ | ⟨q, z, t⟩
      · exact z.1
      · rw [ha] at b3; cases b3; simp at b4
      · rw [(tab t).2] at b3; cases b3; simp at b4⟩
    have hTb : TbOk K H := fun b q e => by
      rcases hO b with z | ⟨_, _, _, _, z⟩ | ⟨q', z, t⟩
      · rw [z.2] at e; cases e
      · rw [z] at e; cases e
      · rw [t] at e; cases e; exact z
    have e0 : Env0 P w K mg (hidT s₁.heap H) callerA [] s₁ H := ⟨rfl, hM, fun b o e => of_hidT e, Nat.le_of_eq (hidT_size _ _), trivial, ⟨fun b hb => absurd (show b ∈ ([] : List Addr) from hb) (by simp), hTb⟩, hok, .of_eq hg⟩
    refine codeAny_mono ((F _ hKb (nsK hns)).run callerA [] s₁ H ⟨[.ref a], []⟩ [.ref a] [.ref a] _ _ hr e0 (hbind s₁ (.ref a)) (.cons rfl .nil) (hsp H hS)) fun r s' h => ?_
    cases r with
    | error e => exact (hCX H e s' h).elim
    | ok fl =>
      cases fl with
      | next => exact False.elim h
      | brk => exact False.elim h
      | cont => exact False.elim h
      | ret u =>
        obtain ⟨v, H', os, bare, un, hok', r', q⟩ := h
        have q' : v = .bl true := q
        subst q'
        obtain rfl : u = Value.bool true := r'
        have look : ∀ b o, s₁.heap.get? b = some o → s'.heap.get? b = some o ∨ (isCodeTable s₁.heap b ∧ o = PySem.W.tabObj #[] ∧ ∃ ps, s'.heap.get? b = some (PySem.W.tabObj ps)) := fun b o e => by
          rcases hO b with z | ⟨ob, xs, z, rfl, _⟩ | ⟨q, z, t⟩
          · exact .inl (un.keep b o e z.1 (by intro z; exact absurd (show b ∈ ([] : List Addr) from z) (by simp)) (by simp))
          · have z2 := un.frzs _ ob _ z
            obtain ⟨e1, _⟩ := hok _ _ z
            obtain ⟨e2, _⟩ := hok' _ _ z2
            rw [e] at e1; cases e1
            exact .inl e2
          · obtain ⟨⟨c, hc⟩, e1⟩ := tab t
            obtain ⟨ps, e2, _⟩ := hok' b _ (un.tbls b q z)
            rw [e] at e1; cases e1
            exact .inr ⟨(hc.tab e).isCodeTable, rfl, ps, e2⟩
        refine ⟨rfl, ⟨fun b o e => ?_, fun b o e => ?_⟩, os, bare⟩
        · rcases look b o e with z | ⟨t, rfl, ps, z⟩
          · exact .inl z
          · exact .inr (.inl ⟨t, rfl, #[], ps, rfl, by rw [Array.empty_append]; exact z⟩)
        · rcases look b o e with z | ⟨t, rfl, ps, z⟩
          · exact ⟨o, z⟩
          · exact ⟨_, z⟩
  have aTab : tq K a = none := by
    cases e : tq K a with
    | none => rfl
    | some q => have z := (tab e).2; rw [ha] at z; cases z
  have tblOk : ∀ (H : Hp) {b : Addr} {q : Str}, tq K b = some q → ObjOk P w H s₁.heap b (.tbl q) := fun H {b q} e => ⟨#[], (tab e).2, trivial, fun pos cv z => by cases z⟩
  cases hk : K.lookup a with
  | some o =>
    have e := KX a o hk
    rw [ha] at e
    cases e
    refine core (fun b => (tq K b).map HO.tbl) (fun b => ?_) (.inr ⟨_, vs.toArray, _, hk, rfl, rfl, rfl, by rw [List.size_toArray, lenV]; exact hl, by simpa using rv⟩) (fun b u z => ?_) fun z => absurd (by show (tq K a).map HO.tbl = none; rw [aTab]; rfl) z
    · cases e : tq K b with
      | none => exact .inl ⟨by rw [Option.map_none], rfl⟩
      | some q => exact .inr (.inr ⟨q, by rw [Option.map_some], rfl⟩)
    · have z' : (tq K b).map HO.tbl = some u := z
      cases e : tq K b with
      | none => rw [e] at z'; cases z'
      | some q => rw [e] at z'; cases z'; exact tblOk _ e
  | none =>
    refine core (fun b => if b = a then some (.frz { cls := .type "list", data := .seq vs.toArray } (.lst (ns.map V.int))) else (tq K b).map HO.tbl) (fun b => ?_) (.inl (.inr ⟨{ cls := .type "list", data := .seq vs.toArray }, if_pos rfl⟩)) (fun b u z => ?_) fun _ => hk
    · by_cases hb : b = a
      · exact .inr (.inl ⟨_, _, if_pos hb, hb, by rw [hb]; exact aTab⟩)
      · cases e : tq K b with
        | none => exact .inl ⟨by rw [if_neg hb, Option.map_none], rfl⟩
        | some q => exact .inr (.inr ⟨q, by rw [if_neg hb, Option.map_some], rfl⟩)
    · by_cases hb : b = a
      · have z' := (if_pos hb).symm.trans z
        cases z'
        subst hb
        exact ⟨ha, by rw [List.length_map]; exact hl, vs, _, rv, ha⟩
      · have z' := (if_neg hb).symm.trans z
        cases e : tq K b with
        | none => rw [e] at z'; cases z'
        | some q => rw [e] at z'; cases z'; exact tblOk _ e
end L2
namespace L2
open PySem PySem.Spec PyProof.Rows
theorem walk_of {l : PySem.W.OpenLaw} {n k : Nat} {q : Program} {loose : List Str} {XP : (Str → Option Value) → Heap → Prop} {YP : World → Heap → Prop} {d : DefRec} {K : Params → PySem.W.Frag} {CX : World → CXT} {sp : World → Sp} {x : Str}
    (hn : l.most = some n) (hn2 : n ≤ sizeLine) (hdf : d.params.defaults = []) (hr : Room k callerA)
    (hnt : ∀ w : World, PySem.W.noTabs (K w.params) = true) (hrc : ∀ w : World, closers.all (fun p => (PySem.W.tabIn (K w.params) p.1).isNone || ((recsOf q).find? fun e => e.name == p.1).isSome) = true)
    (hY : ∀ (w : World) (h : Heap), YP w h → (K w.params).In h)
    (F : ∀ (w : World) (mg : Str → Option Value) (fa : Addr) (h : Heap), (K w.params).In h → h.Ns mainGlobals mg → mg d.name = some (.ref fa) →
      ∃ fd : FuncData, (∀ (s : Shared) (u : Value), BindsTo s fd ⟨[u], []⟩ [(x, u)]) ∧
        ∀ base : Heap, (K w.params).In base → base.Ns mainGlobals mg → FnOk l.prog w (K w.params) mg base (CX w) k fa fd [x] (sp w))
    (hsp : ∀ (w : World) (H : Hp) (a : Addr) (ns : List Int), ns.length ≤ n → SqL (K w.params) H a (ns.map V.int) → sp w [.ref a] H (fun v _ => v = .bl true) fun _ _ _ => False)
    (hCX : ∀ (w : World) (H : Hp) (s : Shared) (e : Value) (s' : Shared), CX w [] H s (fun _ _ _ => False) e s' → False) :
    PySem.W.WalkO q loose XP YP l.row.toRowW d [] (fun f vs => PySem.call f vs) := by
  refine Att.attach_call hn hdf fun w s₀ s₁ mg mb fa o pm cd doc a vs ns G Y ho hd hcd hmg hobj hints hlen hg => ?_
  have KX := hY w _ Y
  obtain ⟨fd, hb, hF⟩ := F w mg fa _ KX G.T.g hmg
  refine law_call KX G.T.g G.T.b G.T.builtins G.T.nolimit hg hobj hints (Nat.le_trans hlen hn2) hr G.T.bmain (hnt w) (fun x c b hx ht => ?_) hF hb (fun H hS => hsp w H a ns hlen hS) fun H e s' => hCX w H s₁ e s'
  obtain ⟨p, hp, rfl⟩ := List.mem_map.mp hx
  have z := List.all_eq_true.mp (hrc w) p hp
  rw [ht] at z
  have z2 : ((recsOf q).find? fun e => e.name == p.1).isSome = true := by simpa using z
  obtain ⟨dd, hd'⟩ := Option.isSome_iff_exists.mp z2
  exact PySem.W.tab_of G.T KX hd' ht
end L2
namespace L2
open PySem PySem.Spec PyProof.Rows
def defArgs (s : Stmt) : Arguments := match s with
  | .FunctionDef _ a _ _ _ _ _ _ _ _ => a
  | _ => { posonlyargs := [], args := [], vararg := none, kwonlyargs := [], kw_defaults := [], kwarg := none, defaults := [] }
def defBody (s : Stmt) : List Stmt := match s with
  | .FunctionDef _ _ b _ _ _ _ _ _ _ => b
  | _ => []
def defScope (s : Stmt) : Scope := match s with
  | .FunctionDef _ _ _ _ _ _ sc _ _ _ => sc
  | _ => { kind := .function, names := [], isGenerator := false, isCoroutine := false }
abbrev CX0 : CXT := fun _ _ _ _ _ _ => False
abbrev E0 : XK := fun _ _ _ => False
theorem pass0 {X : Cx} : Passes CX0 X E0 := fun _ _ _ _ _ _ _ h => h.elim
structure Fun (K : PySem.W.Frag) (x qual : Str) (st : Stmt) (f : Addr) (fd : FuncData) : Prop where
  ex : ∃ (oc : Value) (od : Option Addr) (kV doc pm : Value) (an : Option Addr) (cdv ct : Value) (osl : Array (Option Value)),
    fd = PySem.W.fnOf x qual (defArgs st) (defBody st) (defScope st) .none kV doc pm an cdv ct ∧ K.lookup f = some ⟨oc, od, .func fd, osl⟩ ∧ PySem.W.codeIn K cdv qual = true
  kp : PySem.W.keepIn K (.ref f) = true
section
variable {P : Program} {w : World} {K : PySem.W.Frag} {mg : Str → Option Value} {base : Heap}
theorem Fun.ok {x qual : Str} {st : Stmt} {f : Addr} {fd : FuncData} {N ps : List Str} {k : Nat} {sp : Sp} (F : Fun K x qual st f fd) (S : FnScope N ps (defScope st)) (len : ∀ vs H Q E, sp vs H Q E → vs.length = ps.length)
    (hbody : ∀ (cdv : Value) (A : Around) (outer : List Env) (s : Shared) (H : Hp) (vs : List V) (Q : VK) (E : XK), Room k (A.deeper (envOfC qual (defScope st) s.heap.objs.size f cdv)) → sp vs H Q E →
      ∃ t, PSs (cxOf CX0 P w K mg base N qual (defScope st) f cdv A outer s H E).nox (defBody st) t ∧ t { nx := fun _ H' => Q .non H', rt := Q } (start N vs) H) : FnOk P w K mg base CX0 (k + 1) f fd ps sp := by
  obtain ⟨oc, od, kV, doc, pm, an, cdv, ct, osl, rfl, lk, hcd⟩ := F.ex
  refine fn_of lk hcd S len fun A outer s H vs Q E hr hsp => ?_
  obtain ⟨t, h, q⟩ := hbody cdv A outer s H vs Q E hr hsp
  exact ⟨t, h.nox, q⟩
theorem Fun.binds {x qual : Str} {st : Stmt} {f : Addr} {fd : FuncData} {ps : List Str} (F : Fun K x qual st f fd)
    (h : ∀ (kV doc pm : Value) (an : Option Addr) (cdv ct : Value) (us : List Value), us.length = ps.length → bindArgs (PySem.W.fnOf x qual (defArgs st) (defBody st) (defScope st) .none kV doc pm an cdv ct) ⟨us, []⟩ = pure (ps.zip us)) : Binds K fd ps [] := by
  obtain ⟨oc, od, kV, doc, pm, an, cdv, ct, osl, rfl, lk, hcd⟩ := F.ex
  exact .all (h kV doc pm an cdv ct)
theorem fun_mk {x qual : Str} {st : Stmt} {f : Addr} {oc : Value} {od an : Option Addr} {osl : Array (Option Value)} {kV doc pm cdv ct : Value} (l : K.lookup f = some ⟨oc, od, .func (PySem.W.fnOf x qual (defArgs st) (defBody st) (defScope st) .none kV doc pm an cdv ct), osl⟩)
    (c : PySem.W.codeIn K cdv qual = true) (k : PySem.W.keepIn K (.ref f) = true) : Fun K x qual st f (PySem.W.fnOf x qual (defArgs st) (defBody st) (defScope st) .none kV doc pm an cdv ct) := ⟨⟨oc, od, kV, doc, pm, an, cdv, ct, osl, rfl, l, c⟩, k⟩
end
def Same (H H' : Hp) : Prop := ∀ b o, H b = some o → H' b = some o
theorem Same.refl (H : Hp) : Same H H := fun _ _ h => h
theorem Same.trans {H H1 H2 : Hp} (a : Same H H1) (b : Same H1 H2) : Same H H2 := fun c o h => b c o (a c o h)
theorem Same.free {H H' : Hp} (e : Same H H') {l : Addr} (h : H' l = Option.none) : H l = Option.none := by
  cases q : H l with
  | none => rfl
  | some o =>
    rw [e l o q] at h
    cases h
theorem Same.seq {K : PySem.W.Frag} {H H' : Hp} {a : Addr} {xs : List V} (e : Same H H') (h : SqL K H a xs) : SqL K H' a xs := by
  rcases h with (h | ⟨o, h⟩) | h
  · exact .inl (.inl (e _ _ h))
  · exact .inl (.inr ⟨o, e _ _ h⟩)
  · exact .inr h
end L2
set_option Elab.async false
set_option linter.all false
set_option maxRecDepth 100000
set_option maxHeartbeats 4000000
namespace L2
open PySem PySem.Spec PyProof.Rows
section
variable {κ : Type} [DecidableEq κ]
def valV (kvs : List (κ × V)) (k : κ) : Option V := (kvs.find? fun kv => decide (kv.1 = k)).map (·.2)
def putK (kvs : List (κ × V)) (k : κ) (v : V) : List (κ × V) :=
  if (kvs.any fun kv => decide (kv.1 = k)) = true then kvs.map (fun kv => if kv.1 = k then (kv.1, v) else kv) else kvs ++ [(k, v)]
def dropK (kvs : List (κ × V)) (k : κ) : List (κ × V) := kvs.filter fun kv => decide (kv.1 ≠ k)
theorem valV_pos {p : κ × V} {r : List (κ × V)} {k : κ} (e : p.1 = k) : valV (p :: r) k = some p.2 := by simp [valV, List.find?_cons, e]
theorem valV_neg {p : κ × V} {r : List (κ × V)} {k : κ} (e : ¬ p.1 = k) : valV (p :: r) k = valV r k := by simp [valV, List.find?_cons, e]
theorem RelO.getD {o : Option V} {u : Option Value} {d : V} {d' : Value} (r : RelO o u) (rd : RelV d d') : RelV (o.getD d) (u.getD d') := by
  cases o with
  | none => cases u with
    | none => exact rd
    | some _ => exact (show False from r).elim
  | some _ => cases u with
    | none => exact (show False from r).elim
    | some _ => exact r
theorem KV.val {kvs : List (κ × V)} {vs : List (κ × Value)} (r : KV kvs vs) (k : κ) : RelO (valV kvs k) (valueAt vs k) := by
  unfold KV at r
  induction r with
  | nil => exact True.intro
  | @cons p q ps qs h t ih =>
    obtain ⟨h1, h2⟩ := h
    by_cases e : p.1 = k
    · have e' : q.1 = k := h1.symm.trans e
      have b : valueAt (q :: qs) k = some q.2 := by simp [valueAt, List.find?_cons, e']
      rw [valV_pos e, b]; exact h2
    · have e' : ¬ q.1 = k := fun z => e (h1.trans z)
      have b : valueAt (q :: qs) k = valueAt qs k := by simp [valueAt, List.find?_cons, e']
      rw [valV_neg e, b]; exact ih
theorem KV.any {kvs : List (κ × V)} {vs : List (κ × Value)} (r : KV kvs vs) (k : κ) : (kvs.any fun kv => decide (kv.1 = k)) = vs.any fun kv => decide (kv.1 = k) := by
  unfold KV at r
  induction r with
  | nil => rfl
  | cons h t ih => rw [List.any_cons, List.any_cons, ih, h.1]
theorem KV.drop {kvs : List (κ × V)} {vs : List (κ × Value)} (r : KV kvs vs) (k : κ) : KV (dropK kvs k) (without vs k) := by
  unfold KV at r ⊢
  unfold dropK without
  induction r with
  | nil => exact .nil
  | @cons p q ps qs h t ih =>
    obtain ⟨h1, h2⟩ := h
    rw [List.filter_cons, List.filter_cons]
    by_cases e : p.1 = k
    · have a : ¬ decide (p.1 ≠ k) = true := by simp [e]
      have b : ¬ decide (q.1 ≠ k) = true := by simp [h1.symm.trans e]
      rw [if_neg a, if_neg b]; exact ih
    · have e' : ¬ q.1 = k := fun z => e (h1.trans z)
      have a : decide (p.1 ≠ k) = true := by simp [e]
      have b : decide (q.1 ≠ k) = true := by simp [e']
      rw [if_pos a, if_pos b]; exact .cons ⟨h1, h2⟩ ih
theorem KV.keys {kvs : List (κ × V)} {vs : List (κ × Value)} (r : KV kvs vs) : kvs.map (·.1) = vs.map (·.1) := by
  unfold KV at r
  induction r with
  | nil => rfl
  | cons h t ih => rw [List.map_cons, List.map_cons, ih, h.1]
theorem KV.length {kvs : List (κ × V)} {vs : List (κ × Value)} (r : KV kvs vs) : kvs.length = vs.length := Paired.length r
end
abbrev KT (H : Hp) : List (List Key × V) → List (List Key × Addr × Value) → Prop := Paired fun p q => p.1 = q.1 ∧ H q.2.1 = some (.tup (p.1.map kV)) ∧ RelV p.2 q.2.2
theorem KT.val {H : Hp} {kvs : List (List Key × V)} {xs : List (List Key × Addr × Value)} (r : KT H kvs xs) (k : List Key) : RelO (valV kvs k) ((atKey xs k).map (·.2)) := by
  induction r with
  | nil => exact True.intro
  | @cons p q ps qs h t ih =>
    obtain ⟨h1, _, h2⟩ := h
    by_cases e : p.1 = k
    · have e' : q.1 = k := h1.symm.trans e
      have b : atKey (q :: qs) k = some q.2 := by simp [atKey, List.find?_cons, e']
      rw [valV_pos e, b]; exact h2
    · have e' : ¬ q.1 = k := fun z => e (h1.trans z)
      have b : atKey (q :: qs) k = atKey qs k := by simp [atKey, List.find?_cons, e']
      rw [valV_neg e, b]; exact ih
theorem KT.keeps {H H' : Hp} {kvs : List (List Key × V)} {xs : List (List Key × Addr × Value)} (r : KT H kvs xs) (ht : ∀ b ys, H b = some (.tup ys) → H' b = some (.tup ys)) : KT H' kvs xs :=
  Paired.mapP r fun _ _ z => ⟨z.1, ht _ _ z.2.1, z.2.2⟩
def DGet (H : Hp) (a : Addr) (y : V) (r : Option V) : Prop :=
  (∃ kvs k, Rd H a (.dK kvs) ∧ y = kV k ∧ r = valV kvs k) ∨ ∃ kvs k b, Rd H a (.dT kvs) ∧ y = .ref b ∧ H b = some (.tup (k.map kV)) ∧ r = valV kvs k
def DPut (H : Hp) (a : Addr) (y v : V) (H' : Hp) : Prop :=
  (∃ kvs k, H a = some (.dK kvs) ∧ y = kV k ∧ kvs.length < sizeLine ∧ H' = upd H a (.dK (putK kvs k v))) ∨
  ∃ kvs k b, H a = some (.dT kvs) ∧ y = .ref b ∧ H b = some (.tup (k.map kV)) ∧ kvs.length < sizeLine ∧ H' = upd H a (.dT (putK kvs k v))
theorem DGet.k {H : Hp} {a : Addr} {kvs : List (Key × V)} {k : Key} (e : H a = some (.dK kvs)) : DGet H a (kV k) (valV kvs k) := .inl ⟨kvs, k, .inl e, rfl, rfl⟩
theorem DGet.t {H : Hp} {a b : Addr} {kvs : List (List Key × V)} {k : List Key} (e : H a = some (.dT kvs)) (eb : H b = some (.tup (k.map kV))) : DGet H a (.ref b) (valV kvs k) := .inr ⟨kvs, k, b, .inl e, rfl, eb, rfl⟩
theorem DPut.k {H : Hp} {a : Addr} {kvs : List (Key × V)} {k : Key} {v : V} (e : H a = some (.dK kvs)) (hl : kvs.length < sizeLine) : DPut H a (kV k) v (upd H a (.dK (putK kvs k v))) := .inl ⟨kvs, k, e, rfl, hl, rfl⟩
theorem DPut.t {H : Hp} {a b : Addr} {kvs : List (List Key × V)} {k : List Key} {v : V} (e : H a = some (.dT kvs)) (eb : H b = some (.tup (k.map kV))) (hl : kvs.length < sizeLine) :
    DPut H a (.ref b) v (upd H a (.dT (putK kvs k v))) := .inr ⟨kvs, k, b, e, rfl, eb, hl, rfl⟩
def NoSl (i : Expr) : Prop := ∀ ov iv, subscripted i false ov iv = operate [ov, iv] (getItem ov iv)
theorem subD_of {prog : Program} {w : World} {A : Around} {E : Value → Shared → Prop} {s : Shared} {env : Env} {value slice : Expr} {pos : Pos} {T id : String} {Q : Value → Shared → Prop}
    (hl : typeLookup (.type T) "__getitem__" = pure (some (.builtin id))) (hs : NoSl slice)
    (h : wpAny (model prog w) A (eval value env) (fun o s₁ => wpAny (model prog w) A (eval slice env) (fun i s₂ => s₂.TypeIs o T ∧ wpAny (model prog w) A (getItem o i) Q E s₂) E s₁) E s) :
    wpAny (model prog w) A (eval (.Subscript value slice pos) env) Q E s := by
  refine Subscript_ (wpAny_mono h (fun o s₁ h₁ => wpAny_mono h₁ (fun i s₂ h₂ => ?_) fun _ _ x => x) fun _ _ x => x)
  obtain ⟨hT, h₂⟩ := h₂
  unfold subscriptTail
  refine wpAny_bind ?_
  rw [getitemInPython_of_ne hT.not_modules]
  refine wpAny_bind (wpAny_specialOf hT hl ?_)
  have fin : wpAny (model prog w) A (subscripted slice false o i) (fun r s₃ => wpAny (model prog w) A (letTemporaryGo value o r >>= fun _ => pure r) Q E s₃) E s₂ := by
    rw [hs o i]
    exact wpAny_operating (wpAny_mono h₂ (fun r s₃ h₃ => wpAny_bind (wpAny_letTemporaryGo (wpAny_pure h₃))) fun _ _ x => x)
  first
    | exact wpAny_pure (wpAny_bind fin)
    | exact wpAny_bind (wpAny_pure (wpAny_bind fin))
    | exact wpAny_bind fin
end L2
set_option Elab.async false
set_option linter.all false
set_option maxRecDepth 100000
set_option maxHeartbeats 4000000
namespace L2.L3
open PySem PySem.Spec PyProof.Rows
inductive D where
  | non | bl (b : Bool) | int (i : Int) | str (x : Str) | tup (xs : List D) | lst (xs : List D) | dct (ks : List Key) (xs : List D) | ty (n : String) | exc (c : Str) | cls (c : Str) | obj (P : PySem.W.Frag → Hp → Addr → Prop)
def excAt (a C : Addr) (h : Heap) : Prop := ∃ o vs, h.get? a = some o ∧ o.cls = .ref C ∧ o.dict = none ∧ o.data = .fields vs
mutual
def Den (K : PySem.W.Frag) (F : Hp) : D → V → Prop
  | .non, v => v = V.non
  | .bl b, v => v = V.bl b
  | .int i, v => v = V.int i
  | .str x, v => v = V.str x
  | .ty n, v => v = V.ty n
  | .exc c, v => ∃ a C, v = V.ref a ∧ PySem.W.nsIn K mainGlobals c = some (some (.ref C)) ∧ F a = some (.ext (excAt a C))
  | .cls c, v => ∃ C, v = V.ref C ∧ PySem.W.nsIn K mainGlobals c = some (some (.ref C))
  | .tup ds, v => ∃ a vs, v = V.ref a ∧ SqT K F a vs ∧ DenL K F ds vs
  | .lst ds, v => ∃ a vs, v = V.ref a ∧ SqL K F a vs ∧ DenL K F ds vs
  | .obj P, v => ∃ a, v = V.ref a ∧ ∀ G, Same F G → P K G a
  | .dct ks ds, v => ∃ a vs, v = V.ref a ∧ F a = some (.dK (ks.zip vs)) ∧ vs.length = ks.length ∧ DenL K F ds vs
def DenL (K : PySem.W.Frag) (F : Hp) : List D → List V → Prop
  | [], vs => vs = []
  | d :: ds, vs => ∃ v r, vs = v :: r ∧ Den K F d v ∧ DenL K F ds r
end
theorem Same.seqT {K : PySem.W.Frag} {H H' : Hp} {a : Addr} {xs : List V} (e : Same H H') (h : SqT K H a xs) : SqT K H' a xs := by
  rcases h with (h | ⟨o, h⟩) | h
  · exact .inl (.inl (e _ _ h))
  · exact .inl (.inr ⟨o, e _ _ h⟩)
  · exact .inr h
mutual
theorem Den.mono {K : PySem.W.Frag} {F F' : Hp} (s : Same F F') : ∀ (d : D) (v : V), Den K F d v → Den K F' d v
  | .non, _, h => by simpa only [Den] using h
  | .bl _, _, h => by simpa only [Den] using h
  | .int _, _, h => by simpa only [Den] using h
  | .str _, _, h => by simpa only [Den] using h
  | .ty _, _, h => by simpa only [Den] using h
  | .cls _, _, h => by simpa only [Den] using h
  | .exc _, v, h => by
    simp only [Den] at h ⊢
    obtain ⟨a, C, e, z, q⟩ := h
    exact ⟨a, C, e, z, s _ _ q⟩
  | .tup ds, v, h => by
    simp only [Den] at h ⊢
    obtain ⟨a, vs, e, q, r⟩ := h
    exact ⟨a, vs, e, Same.seqT s q, DenL.mono s ds vs r⟩
  | .lst ds, v, h => by
    simp only [Den] at h ⊢
    obtain ⟨a, vs, e, q, r⟩ := h
    exact ⟨a, vs, e, s.seq q, DenL.mono s ds vs r⟩
  | .obj _, v, h => by
    simp only [Den] at h ⊢
    obtain ⟨a, e, q⟩ := h
    exact ⟨a, e, fun G sG => q G (s.trans sG)⟩
  | .dct ks ds, v, h => by
    simp only [Den] at h ⊢
    obtain ⟨a, vs, e, q, l, r⟩ := h
    exact ⟨a, vs, e, s _ _ q, l, DenL.mono s ds vs r⟩
theorem DenL.mono {K : PySem.W.Frag} {F F' : Hp} (s : Same F F') : ∀ (ds : List D) (vs : List V), DenL K F ds vs → DenL K F' ds vs
  | [], _, h => by simpa only [DenL] using h
  | d :: ds, vs, h => by
    simp only [DenL] at h ⊢
    obtain ⟨v, r, e, a, b⟩ := h
    exact ⟨v, r, e, Den.mono s d v a, DenL.mono s ds r b⟩
end
section
variable {K : PySem.W.Frag} {F : Hp}
theorem den_int {i : Int} : Den K F (.int i) (.int i) := by simp only [Den]
theorem den_bl {b : Bool} : Den K F (.bl b) (.bl b) := by simp only [Den]
theorem den_non : Den K F .non .non := by simp only [Den]
theorem den_str {x : Str} : Den K F (.str x) (.str x) := by simp only [Den]
theorem den_ty {x : String} : Den K F (.ty x) (.ty x) := by simp only [Den]
theorem den_tup {a : Addr} {vs : List V} {ds : List D} (h : SqT K F a vs) (r : DenL K F ds vs) : Den K F (.tup ds) (.ref a) := by
  simp only [Den]; exact ⟨a, vs, rfl, h, r⟩
theorem den_lst {a : Addr} {vs : List V} {ds : List D} (h : SqL K F a vs) (r : DenL K F ds vs) : Den K F (.lst ds) (.ref a) := by
  simp only [Den]; exact ⟨a, vs, rfl, h, r⟩
theorem denL_nil : DenL K F [] [] := by simp only [DenL]
theorem denL_cons {d : D} {v : V} {ds : List D} {vs : List V} (h : Den K F d v) (r : DenL K F ds vs) : DenL K F (d :: ds) (v :: vs) := by
  simp only [DenL]; exact ⟨v, vs, rfl, h, r⟩
theorem DenL.length : ∀ {ds : List D} {vs : List V}, DenL K F ds vs → ds.length = vs.length
  | [], vs, h => by simp only [DenL] at h; subst h; rfl
  | d :: ds, vs, h => by
    simp only [DenL] at h
    obtain ⟨v, r, rfl, _, b⟩ := h
    simp [DenL.length b]
theorem DenL.get : ∀ {ds : List D} {vs : List V} {i : Nat} {d : D}, DenL K F ds vs → ds[i]? = some d → ∃ v, vs[i]? = some v ∧ Den K F d v
  | [], vs, i, d, h, e => by simp at e
  | x :: ds, vs, i, d, h, e => by
    simp only [DenL] at h
    obtain ⟨v, r, rfl, a, b⟩ := h
    cases i with
    | zero => simp at e; subst e; exact ⟨v, rfl, a⟩
    | succ i => simpa using DenL.get b (by simpa using e)
theorem DenL.append : ∀ {ds es : List D} {vs us : List V}, DenL K F ds vs → DenL K F es us → DenL K F (ds ++ es) (vs ++ us)
  | [], es, vs, us, h, g => by simp only [DenL] at h; subst h; exact g
  | x :: ds, es, vs, us, h, g => by
    simp only [DenL] at h
    obtain ⟨v, r, rfl, a, b⟩ := h
    exact denL_cons a (DenL.append b g)
theorem DenL.take : ∀ {ds : List D} {vs : List V} (n : Nat), DenL K F ds vs → DenL K F (ds.take n) (vs.take n)
  | _, _, 0, _ => by simpa using denL_nil
  | [], vs, n + 1, h => by simp only [DenL] at h; subst h; simpa using denL_nil
  | x :: ds, vs, n + 1, h => by
    simp only [DenL] at h
    obtain ⟨v, r, rfl, a, b⟩ := h
    exact denL_cons a (DenL.take n b)
theorem DenL.drop : ∀ {ds : List D} {vs : List V} (n : Nat), DenL K F ds vs → DenL K F (ds.drop n) (vs.drop n)
  | _, _, 0, h => by simpa using h
  | [], vs, n + 1, h => by simp only [DenL] at h; subst h; simpa using denL_nil
  | x :: ds, vs, n + 1, h => by
    simp only [DenL] at h
    obtain ⟨v, r, rfl, a, b⟩ := h
    exact DenL.drop n b
theorem DenL.set {x : D} {v : V} (q : Den K F x v) : ∀ {ds : List D} {vs : List V} (n : Nat), DenL K F ds vs → DenL K F (ds.set n x) (vs.set n v)
  | [], vs, n, h => by simp only [DenL] at h; subst h; simpa using denL_nil
  | y :: ds, vs, 0, h => by
    simp only [DenL] at h
    obtain ⟨w, r, rfl, a, b⟩ := h
    exact denL_cons q b
  | y :: ds, vs, n + 1, h => by
    simp only [DenL] at h
    obtain ⟨w, r, rfl, a, b⟩ := h
    exact denL_cons a (DenL.set q n b)
theorem denL_ints (ns : List Int) : DenL K F (ns.map D.int) (ns.map V.int) := by
  induction ns with
  | nil => exact denL_nil
  | cons n r ih => exact denL_cons den_int ih
end
mutual
def hsD : D → Int
  | .int i => hashInt i
  | .tup ds => reduceHash (Builtin.Tuple.tupleHashOf (hsDs ds))
  | .non => 4238894112
  | _ => 0
def hsDs : List D → List Int
  | [] => []
  | d :: ds => hsD d :: hsDs ds
end
def DictHas (h : Heap) (d : Addr) (es : Array DictEntry) (ep : Nat) : Prop := ∃ o, h.get? d = some o ∧ o.ExactDict ∧ o.data = .dict es ep
def EntR (row : Int × V × V) (e : DictEntry) : Prop := e.hash = row.1 ∧ RelV row.2.1 e.key ∧ RelV row.2.2 e.val
def DNo (p : Addr) (ep : Nat) (rows : List (Int × V × V)) : HO := .ext fun h => rows.length ≤ sizeLine ∧ (p == sysModules) = false ∧ ∃ es, DictHas h p es ep ∧ Paired EntR rows es.toList
def rowsN (kvs : List (D × D)) (us vs : List V) : List (Int × V × V) := (kvs.map fun kv => hsD kv.1).zip (us.zip vs)
inductive Lo where
  | d (x : D) | own (xs : List D) | dic (kvs : List (D × D))
abbrev En := List (Option Lo)
structure Base where
  F : Hp
  H : Hp
  N : Addr → Prop
  nb : ∀ p, N p → H p ≠ none
structure Rep (K : PySem.W.Frag) (B : Base) (F H : Hp) (σ : St) (e : En) : Prop where
  f0 : Same B.F F
  fh : Same F H
  h0 : Same B.H H
  nf : ∀ p, B.N p → F p = none
  dv : ∀ (i : Nat) x, e[i]? = some (some (.d x)) → ∃ v, σ[i]? = some (some v) ∧ Den K F x v
  ov : ∀ (i : Nat) xs, e[i]? = some (some (.own xs)) → ∃ p vs, σ[i]? = some (some (.ref p)) ∧ H p = some (.lst vs) ∧ F p = none ∧ B.H p = none ∧ DenL K F xs vs
  ne : ∀ (i j : Nat) xs ys p, i ≠ j → e[i]? = some (some (.own xs)) → e[j]? = some (some (.own ys)) → σ[i]? = some (some (.ref p)) → σ[j]? = some (some (.ref p)) → False
  mv : ∀ (i : Nat) kvs, e[i]? = some (some (.dic kvs)) → ∃ p ep us vs, σ[i]? = some (some (.ref p)) ∧ H p = some (DNo p ep (rowsN kvs us vs)) ∧ F p = none ∧ B.H p = none ∧ DenL K F (kvs.map (·.1)) us ∧ DenL K F (kvs.map (·.2)) vs
  nm : ∀ (i j : Nat) xs ys p, i ≠ j → e[i]? = some (some (.dic xs)) → e[j]? = some (some (.dic ys)) → σ[i]? = some (some (.ref p)) → σ[j]? = some (some (.ref p)) → False
section
variable {K : PySem.W.Frag} {B : Base} {F H F' H' : Hp} {σ : St} {e : En}
theorem Rep.ext (r : Rep K B F H σ e) (a : Same F F') (b : Same F' H') (c : Same H H') (n : ∀ p, H p ≠ none → F p = none → F' p = none) : Rep K B F' H' σ e where
  f0 := r.f0.trans a
  fh := b
  h0 := r.h0.trans c
  nf := fun p hp => by
    refine n p (fun z => ?_) (r.nf p hp)
    have q := B.nb p hp
    cases w : B.H p with
    | none => exact q w
    | some o => rw [r.h0 _ _ w] at z; cases z
  dv := fun i x h => let ⟨v, h1, h2⟩ := r.dv i x h; ⟨v, h1, Den.mono a _ _ h2⟩
  ov := fun i xs h => by
    obtain ⟨p, vs, h1, h2, h3, h4, h5⟩ := r.ov i xs h
    exact ⟨p, vs, h1, c _ _ h2, n p (by rw [h2]; simp) h3, h4, DenL.mono a _ _ h5⟩
  ne := r.ne
  mv := fun i xs h => by
    obtain ⟨p, ep, us, vs, h1, h2, h3, h4, h5, h6⟩ := r.mv i xs h
    exact ⟨p, ep, us, vs, h1, c _ _ h2, n p (by rw [h2]; simp) h3, h4, DenL.mono a _ _ h5, DenL.mono a _ _ h6⟩
  nm := r.nm
theorem Rep.fnone (r : Rep K B F H σ e) {p : Addr} (h : H p = none) : F p = none := r.fh.free h
theorem same_upd {H : Hp} {p : Addr} {o : HO} (h : H p = none) : Same H (upd H p o) := fun b u q => by rw [upd_ne (ne_of_none q h)]; exact q
theorem same_upd2 {F H : Hp} {p : Addr} {o : HO} (h : Same F H) : Same (upd F p o) (upd H p o) := fun b u q => by
  by_cases e : b = p
  · subst e; rw [upd_same] at q ⊢; exact q
  · rw [upd_ne e] at q ⊢; exact h _ _ q
theorem Rep.laid (r : Rep K B F H σ e) {p : Addr} {o : HO} (h : H p = none) : Rep K B (upd F p o) (upd H p o) σ e ∧ Same F (upd F p o) := by
  have hf := r.fnone h
  refine ⟨r.ext (same_upd hf) (same_upd2 r.fh) (same_upd h) fun q hq hn => ?_, same_upd hf⟩
  by_cases z : q = p
  · subst z; exact absurd h hq
  · rw [upd_ne z]; exact hn
theorem Rep.loose (r : Rep K B F H σ e) {p : Addr} {o : HO} (h : H p = none) : Rep K B F (upd H p o) σ e :=
  r.ext (Same.refl _) (r.fh.trans (same_upd h)) (same_upd h) fun _ _ hn => hn
theorem Rep.now (r : Rep K B F H σ e) : Rep K ⟨F, B.H, B.N, B.nb⟩ F H σ e := ⟨Same.refl _, r.fh, r.h0, r.nf, r.dv, r.ov, r.ne, r.mv, r.nm⟩
theorem Rep.back {G : Hp} (s : Same B.F G) (r : Rep K ⟨G, B.H, B.N, B.nb⟩ F H σ e) : Rep K B F H σ e := ⟨s.trans r.f0, r.fh, r.h0, r.nf, r.dv, r.ov, r.ne, r.mv, r.nm⟩
theorem set_dic_ne {e : En} {i j : Nat} {l : Lo} {kvs : List (D × D)} (hl : ∀ z, l ≠ .dic z) (q : (e.set i (some l))[j]? = some (some (.dic kvs))) : i ≠ j := fun z => by
  subst z
  by_cases w : i < e.length
  · rw [List.getElem?_set_self w] at q; cases q; exact hl _ rfl
  · rw [List.getElem?_eq_none (by simpa using w)] at q; cases q
theorem Rep.set (r : Rep K B F H σ e) {i : Nat} {v : V} {x : D} (h : Den K F x v) (hl : i < σ.length) : Rep K B F H (σ.set i (some v)) (e.set i (some (.d x))) where
  f0 := r.f0
  fh := r.fh
  h0 := r.h0
  nf := r.nf
  dv := fun j y q => by
    by_cases z : i = j
    · subst z
      by_cases w : i < e.length
      · rw [List.getElem?_set_self w] at q
        cases q
        exact ⟨v, List.getElem?_set_self hl, h⟩
      · rw [List.getElem?_eq_none (by simpa using w)] at q; cases q
    · rw [List.getElem?_set_ne z] at q ⊢; exact r.dv j y q
  ov := fun j y q => by
    by_cases z : i = j
    · subst z
      by_cases w : i < e.length
      · rw [List.getElem?_set_self w] at q; cases q
      · rw [List.getElem?_eq_none (by simpa using w)] at q; cases q
    · rw [List.getElem?_set_ne z] at q ⊢; exact r.ov j y q
  ne := fun j k xs ys p hjk q1 q2 q3 q4 => by
    have own_ne : ∀ (j : Nat) (ys : List D), (e.set i (some (.d x)))[j]? = some (some (.own ys)) → i ≠ j := fun j ys q z => by
      subst z
      by_cases w : i < e.length
      · rw [List.getElem?_set_self w] at q; cases q
      · rw [List.getElem?_eq_none (by simpa using w)] at q; cases q
    have z1 := own_ne j xs q1
    have z2 := own_ne k ys q2
    rw [List.getElem?_set_ne z1] at q1 q3
    rw [List.getElem?_set_ne z2] at q2 q4
    exact r.ne j k xs ys p hjk q1 q2 q3 q4
  mv := fun j y q => by
    have z : i ≠ j := set_dic_ne (fun _ w => by cases w) q
    rw [List.getElem?_set_ne z] at q ⊢; exact r.mv j y q
  nm := fun j k xs ys p hjk q1 q2 q3 q4 => by
    have z1 := set_dic_ne (fun _ w => by cases w) q1
    have z2 := set_dic_ne (fun _ w => by cases w) q2
    rw [List.getElem?_set_ne z1] at q1 q3
    rw [List.getElem?_set_ne z2] at q2 q4
    exact r.nm j k xs ys p hjk q1 q2 q3 q4
theorem Rep.setOwn (r : Rep K B F H σ e) {i : Nat} {p : Addr} {vs : List V} {xs : List D} (h : H p = none) (hd : DenL K F xs vs) (hl : i < σ.length) :
    Rep K B F (upd H p (.lst vs)) (σ.set i (some (.ref p))) (e.set i (some (.own xs))) := by
  have r1 := r.loose (o := .lst vs) h
  have hb : B.H p = none := r.h0.free h
  have old : ∀ (j : Nat) (ys : List D), e[j]? = some (some (.own ys)) → σ[j]? ≠ some (some (.ref p)) := fun j ys q z => by
    obtain ⟨q1, _, h1, h2, _⟩ := r.ov j ys q
    rw [z] at h1; cases h1; rw [h] at h2; cases h2
  refine ⟨r1.f0, r1.fh, r1.h0, r1.nf, fun j y q => ?_, fun j y q => ?_, fun j k ys zs q hjk q1 q2 q3 q4 => ?_, fun j y q => ?_, fun j k ys zs q hjk q1 q2 q3 q4 => ?_⟩
  · by_cases z : i = j
    · subst z
      by_cases w : i < e.length
      · rw [List.getElem?_set_self w] at q; cases q
      · rw [List.getElem?_eq_none (by simpa using w)] at q; cases q
    · rw [List.getElem?_set_ne z] at q ⊢; exact r1.dv j y q
  · by_cases z : i = j
    · subst z
      by_cases w : i < e.length
      · rw [List.getElem?_set_self w] at q
        cases q
        exact ⟨p, vs, List.getElem?_set_self hl, upd_same, r.fnone h, hb, hd⟩
      · rw [List.getElem?_eq_none (by simpa using w)] at q; cases q
    · rw [List.getElem?_set_ne z] at q ⊢; exact r1.ov j y q
  · by_cases z1 : i = j
    · subst z1
      rw [List.getElem?_set_ne hjk] at q2 q4
      by_cases w : i < e.length
      · rw [List.getElem?_set_self hl] at q3
        cases q3
        exact old k zs q2 q4
      · rw [List.getElem?_eq_none (by simpa using w)] at q1; cases q1
    · rw [List.getElem?_set_ne z1] at q1 q3
      by_cases z2 : i = k
      · subst z2
        rw [List.getElem?_set_self hl] at q4
        cases q4
        exact old j ys q1 q3
      · rw [List.getElem?_set_ne z2] at q2 q4
        exact r.ne j k ys zs q hjk q1 q2 q3 q4
  · have z : i ≠ j := set_dic_ne (fun _ w => by cases w) q
    rw [List.getElem?_set_ne z] at q ⊢; exact r1.mv j y q
  · have z1 := set_dic_ne (fun _ w => by cases w) q1
    have z2 := set_dic_ne (fun _ w => by cases w) q2
    rw [List.getElem?_set_ne z1] at q1 q3
    rw [List.getElem?_set_ne z2] at q2 q4
    exact r.nm j k ys zs q hjk q1 q2 q3 q4
theorem Rep.change (r : Rep K B F H σ e) {i : Nat} {p : Addr} {vs : List V} {xs ys : List D} (h : e[i]? = some (some (.own xs))) (hp : σ[i]? = some (some (.ref p))) (hd : DenL K F ys vs) :
    Rep K B F (upd H p (.lst vs)) σ (e.set i (some (.own ys))) := by
  obtain ⟨p', _, h1, h2, h3, h4, _⟩ := r.ov i xs h
  rw [hp] at h1; cases h1
  have wl : i < e.length := (List.getElem?_eq_some_iff.mp h).1
  have fk : ∀ q o, F q = some o → q ≠ p := fun q o z w => by subst w; rw [h3] at z; cases z
  have bk : ∀ q o, B.H q = some o → q ≠ p := fun q o z w => by subst w; rw [h4] at z; cases z
  have ownAt : ∀ (j : Nat) (zs : List D), (e.set i (some (.own ys)))[j]? = some (some (.own zs)) → ∃ ws, e[j]? = some (some (.own ws)) := fun j zs q => by
    by_cases z : i = j
    · subst z; exact ⟨xs, h⟩
    · rw [List.getElem?_set_ne z] at q; exact ⟨zs, q⟩
  refine ⟨r.f0, fun b o z => by rw [upd_ne (fk b o z)]; exact r.fh _ _ z, fun b o z => by rw [upd_ne (bk b o z)]; exact r.h0 _ _ z, r.nf, fun j y q => ?_, fun j y q => ?_, fun j k as bs q hjk q1 q2 q3 q4 => ?_, fun j y q => ?_, fun j k as bs q hjk q1 q2 q3 q4 => ?_⟩
  · by_cases z : i = j
    · subst z; rw [List.getElem?_set_self wl] at q; cases q
    · rw [List.getElem?_set_ne z] at q; exact r.dv j y q
  · by_cases z : i = j
    · subst z
      rw [List.getElem?_set_self wl] at q
      cases q
      exact ⟨p, vs, hp, upd_same, h3, h4, hd⟩
    · rw [List.getElem?_set_ne z] at q
      obtain ⟨p2, us, g1, g2, g3, g4, g5⟩ := r.ov j y q
      have : p2 ≠ p := fun w => by subst w; exact r.ne j i y xs p2 (Ne.symm z) q h g1 hp
      exact ⟨p2, us, g1, by rw [upd_ne this]; exact g2, g3, g4, g5⟩
  · obtain ⟨as', w1⟩ := ownAt j as q1
    obtain ⟨bs', w2⟩ := ownAt k bs q2
    exact r.ne j k as' bs' q hjk w1 w2 q3 q4
  · have z : i ≠ j := set_dic_ne (fun _ w => by cases w) q
    rw [List.getElem?_set_ne z] at q
    obtain ⟨p2, ep, us, ws, g1, g2, g3, g4, g5, g6⟩ := r.mv j y q
    have : p2 ≠ p := fun w => by subst w; rw [h2] at g2; cases g2
    exact ⟨p2, ep, us, ws, g1, by rw [upd_ne this]; exact g2, g3, g4, g5, g6⟩
  · have z1 := set_dic_ne (fun _ w => by cases w) q1
    have z2 := set_dic_ne (fun _ w => by cases w) q2
    rw [List.getElem?_set_ne z1] at q1
    rw [List.getElem?_set_ne z2] at q2
    exact r.nm j k as bs q hjk q1 q2 q3 q4
theorem Rep.freeze (r : Rep K B F H σ e) {i : Nat} {xs : List D} (h : e[i]? = some (some (.own xs))) : ∃ F', Same F F' ∧ Rep K B F' H σ (e.set i (some (.d (.lst xs)))) := by
  obtain ⟨p, vs, h1, h2, h3, h4, h5⟩ := r.ov i xs h
  have wl : i < e.length := (List.getElem?_eq_some_iff.mp h).1
  have s1 : Same F (upd F p (.lst vs)) := same_upd h3
  refine ⟨upd F p (.lst vs), s1, r.f0.trans s1, fun b o z => ?_, r.h0, fun q hq => ?_, fun j y q => ?_, fun j y q => ?_, fun j k as bs q hjk q1 q2 q3 q4 => ?_, fun j y q => ?_, fun j k as bs q hjk q1 q2 q3 q4 => ?_⟩
  · by_cases w : b = p
    · subst w; rw [upd_same] at z; cases z; exact h2
    · rw [upd_ne w] at z; exact r.fh _ _ z
  · have : q ≠ p := fun w => by subst w; exact B.nb _ hq h4
    rw [upd_ne this]; exact r.nf q hq
  · by_cases z : i = j
    · subst z
      rw [List.getElem?_set_self wl] at q
      cases q
      exact ⟨_, h1, den_lst (SqL.of upd_same) (DenL.mono s1 _ _ h5)⟩
    · rw [List.getElem?_set_ne z] at q
      obtain ⟨v, a, b⟩ := r.dv j y q
      exact ⟨v, a, Den.mono s1 _ _ b⟩
  · by_cases z : i = j
    · subst z; rw [List.getElem?_set_self wl] at q; cases q
    · rw [List.getElem?_set_ne z] at q
      obtain ⟨p2, us, g1, g2, g3, g4, g5⟩ := r.ov j y q
      have : p2 ≠ p := fun w => by subst w; exact r.ne j i y xs p2 (Ne.symm z) q h g1 h1
      exact ⟨p2, us, g1, g2, by rw [upd_ne this]; exact g3, g4, DenL.mono s1 _ _ g5⟩
  · have ownAt : ∀ (j : Nat) (zs : List D), (e.set i (some (.d (.lst xs))))[j]? = some (some (.own zs)) → e[j]? = some (some (.own zs)) := fun j zs q => by
      by_cases z : i = j
      · subst z; rw [List.getElem?_set_self wl] at q; cases q
      · rw [List.getElem?_set_ne z] at q; exact q
    exact r.ne j k as bs q hjk (ownAt j as q1) (ownAt k bs q2) q3 q4
  · have z : i ≠ j := set_dic_ne (fun _ w => by cases w) q
    rw [List.getElem?_set_ne z] at q
    obtain ⟨p2, ep, us, ws, g1, g2, g3, g4, g5, g6⟩ := r.mv j y q
    have : p2 ≠ p := fun w => by subst w; rw [h2] at g2; cases g2
    exact ⟨p2, ep, us, ws, g1, g2, by rw [upd_ne this]; exact g3, g4, DenL.mono s1 _ _ g5, DenL.mono s1 _ _ g6⟩
  · have z1 := set_dic_ne (fun _ w => by cases w) q1
    have z2 := set_dic_ne (fun _ w => by cases w) q2
    rw [List.getElem?_set_ne z1] at q1
    rw [List.getElem?_set_ne z2] at q2
    exact r.nm j k as bs q hjk q1 q2 q3 q4
end
end L2.L3
set_option Elab.async false
set_option linter.all false
set_option maxRecDepth 100000
set_option maxHeartbeats 4000000
namespace L2.L3
open PySem PySem.Spec PyProof.Rows
def notStar : Expr → Bool
  | .Starred _ _ => false
  | _ => true
theorem star_of {e : Expr} {es : List Expr} {env : Env} (h : notStar e = true) : starEach (e :: es) env = (false, eval e env) :: starEach es env := by
  cases e <;> first | rfl | cases h
abbrev TD := En → (D → Prop) → Prop
abbrev TB := En → (Bool → Prop) → Prop
abbrev TDs := En → (List D → Prop) → Prop
structure Ends3 where
  nx : En → Prop
  rt : D → Prop
  bk : En → Prop := fun _ => False
  ct : En → Prop := fun _ => False
abbrev TS3 := Ends3 → En → Prop
def wE (X : Cx) (e : Expr) : TE := fun σ H Q => ∀ (pins : List (Addr × Obj)) (s : Shared), Inv X pins σ H s → wpAny (model X.prog X.w) X.A (eval e X.env) (EP X pins σ Q) X.xe s
def wT (X : Cx) (e : Expr) : TT := fun σ H Q => ∀ (pins : List (Addr × Obj)) (s : Shared), Inv X pins σ H s → wpAny (model X.prog X.w) X.A (isTrue e X.env (eval e X.env)) (TP X pins σ Q) X.xe s
def wW (X : Cx) (e : Expr) : TT := fun σ H Q => ∀ (whole : Sem Value) (pins : List (Addr × Obj)) (s : Shared), Inv X pins σ H s → wpAny (model X.prog X.w) X.A (isTrue e X.env whole) (TP X pins σ Q) X.xe s
def wA (X : Cx) (es : List Expr) : TA := fun σ H Q => ∀ (pos : Pos) (pins : List (Addr × Obj)) (s : Shared), Inv X pins σ H s → wpAny (model X.prog X.w) X.A (spliced (backTo pos (starEach es X.env))) (AP X pins σ Q) X.xe s
def wS (X : Cx) (st : Stmt) : TS := fun D σ H => ∀ (pins : List (Addr × Obj)) (s : Shared), Inv X pins σ H s → wpAny (model X.prog X.w) X.A (exec st X.env) (SP X pins D) X.xe s
def wSs (X : Cx) (st : List Stmt) : TS := fun D σ H => ∀ (pins : List (Addr × Obj)) (s : Shared), Inv X pins σ H s → wpAny (model X.prog X.w) X.A (execs st X.env) (SP X pins D) X.xe s
section
variable {X : Cx} {e : Expr} {es : List Expr} {st : Stmt} {sts : List Stmt} {σ : St} {H : Hp}
theorem pe_w : PE X e (wE X e) := fun pins s σ H Q I h => h pins s I
theorem pt_w : PT X e (wT X e) := fun pins s σ H Q I h => h pins s I
theorem pw_w : PW X e (wW X e) := fun wh pins s σ H Q I h => h wh pins s I
theorem pa_w : PA X es (wA X es) := fun pos pins s σ H Q I h => h pos pins s I
theorem ps_w : PS X st (wS X st) := fun pins s σ H D I h => h pins s I
theorem pss_w : PSs X sts (wSs X sts) := fun pins s σ H D I h => h pins s I
theorem wE_of {te : TE} {Q : VK} (h : PE X e te) (q : te σ H Q) : wE X e σ H Q := fun pins s I => h pins s σ H Q I q
theorem wT_of {te : TT} {Q : Bool → Hp → Prop} (h : PT X e te) (q : te σ H Q) : wT X e σ H Q := fun pins s I => h pins s σ H Q I q
theorem wW_of {te : TT} {Q : Bool → Hp → Prop} (h : PW X e te) (q : te σ H Q) : wW X e σ H Q := fun wh pins s I => h wh pins s σ H Q I q
theorem wA_of {te : TA} {Q : List V → Hp → Prop} (h : PA X es te) (q : te σ H Q) : wA X es σ H Q := fun pos pins s I => h pos pins s σ H Q I q
theorem wS_of {te : TS} {D : Ends} (h : PS X st te) (q : te D σ H) : wS X st D σ H := fun pins s I => h pins s σ H D I q
theorem wSs_of {te : TS} {D : Ends} (h : PSs X sts te) (q : te D σ H) : wSs X sts D σ H := fun pins s I => h pins s σ H D I q
theorem wE_mono {Q Q' : VK} (h : wE X e σ H Q) (i : ∀ v H', Q v H' → Q' v H') : wE X e σ H Q' := fun pins s I => thn (h pins s I) fun _ _ ⟨v, H', I', r, q⟩ => ⟨v, H', I', r, i v H' q⟩
theorem wT_mono {Q Q' : Bool → Hp → Prop} (h : wT X e σ H Q) (i : ∀ v H', Q v H' → Q' v H') : wT X e σ H Q' := fun pins s I => thn (h pins s I) fun b _ ⟨H', I', q⟩ => ⟨H', I', i b H' q⟩
theorem wW_mono {Q Q' : Bool → Hp → Prop} (h : wW X e σ H Q) (i : ∀ v H', Q v H' → Q' v H') : wW X e σ H Q' := fun wh pins s I => thn (h wh pins s I) fun b _ ⟨H', I', q⟩ => ⟨H', I', i b H' q⟩
theorem wA_mono {Q Q' : List V → Hp → Prop} (h : wA X es σ H Q) (i : ∀ v H', Q v H' → Q' v H') : wA X es σ H Q' := fun pos pins s I => thn (h pos pins s I) fun _ _ ⟨v, H', I', r, q⟩ => ⟨v, H', I', r, i v H' q⟩
theorem SP_mono {pins : List (Addr × Obj)} {D D' : Ends} {f : Flow} {s' : Shared} (h : SP X pins D f s') (nx : ∀ σ H, D.nx σ H → D'.nx σ H) (rt : ∀ v H, D.rt v H → D'.rt v H) (bk : ∀ σ H, D.bk σ H → D'.bk σ H) (ct : ∀ σ H, D.ct σ H → D'.ct σ H) : SP X pins D' f s' := by
  cases f with
  | next => obtain ⟨σ', H', I, q⟩ := h; exact ⟨σ', H', I, nx _ _ q⟩
  | brk => obtain ⟨σ', H', I, q⟩ := h; exact ⟨σ', H', I, bk _ _ q⟩
  | cont => obtain ⟨σ', H', I, q⟩ := h; exact ⟨σ', H', I, ct _ _ q⟩
  | ret u => obtain ⟨v, σ', H', I, r, q⟩ := h; exact ⟨v, σ', H', I, r, rt _ _ q⟩
theorem wS_mono {D D' : Ends} (h : wS X st D σ H) (nx : ∀ σ H, D.nx σ H → D'.nx σ H) (rt : ∀ v H, D.rt v H → D'.rt v H) (bk : ∀ σ H, D.bk σ H → D'.bk σ H) (ct : ∀ σ H, D.ct σ H → D'.ct σ H) : wS X st D' σ H :=
  fun pins s I => thn (h pins s I) fun _ _ q => SP_mono q nx rt bk ct
theorem wSs_mono {D D' : Ends} (h : wSs X sts D σ H) (nx : ∀ σ H, D.nx σ H → D'.nx σ H) (rt : ∀ v H, D.rt v H → D'.rt v H) (bk : ∀ σ H, D.bk σ H → D'.bk σ H) (ct : ∀ σ H, D.ct σ H → D'.ct σ H) : wSs X sts D' σ H :=
  fun pins s I => thn (h pins s I) fun _ _ q => SP_mono q nx rt bk ct
end
inductive RVk (K : PySem.W.Frag) (B : Base) (σ : St) (env : En) (F : Hp) (Q : D → Prop) (v : V) (H' : Hp) : Prop
  | mk (F' : Hp) (d : D) (r : Rep K B F' H' σ env) (z : Same F F') (e : Den K F' d v) (q : Q d)
abbrev RV (X : Cx) (B : Base) (σ : St) (env : En) (F : Hp) (Q : D → Prop) (v : V) (H' : Hp) : Prop := RVk X.K B σ env F Q v H'
inductive RBk (K : PySem.W.Frag) (B : Base) (σ : St) (env : En) (F : Hp) (Q : Bool → Prop) (b : Bool) (H' : Hp) : Prop
  | mk (F' : Hp) (r : Rep K B F' H' σ env) (z : Same F F') (q : Q b)
abbrev RB (X : Cx) (B : Base) (σ : St) (env : En) (F : Hp) (Q : Bool → Prop) (b : Bool) (H' : Hp) : Prop := RBk X.K B σ env F Q b H'
inductive RAk (K : PySem.W.Frag) (B : Base) (σ : St) (env : En) (F : Hp) (Q : List D → Prop) (vs : List V) (H' : Hp) : Prop
  | mk (F' : Hp) (ds : List D) (r : Rep K B F' H' σ env) (z : Same F F') (e : DenL K F' ds vs) (q : Q ds)
abbrev RA (X : Cx) (B : Base) (σ : St) (env : En) (F : Hp) (Q : List D → Prop) (vs : List V) (H' : Hp) : Prop := RAk X.K B σ env F Q vs H'
inductive RNk (K : PySem.W.Frag) (B : Base) (Q : En → Prop) (σ' : St) (H' : Hp) : Prop
  | mk (F' : Hp) (env' : En) (r : Rep K B F' H' σ' env') (q : Q env')
abbrev RN (X : Cx) (B : Base) (Q : En → Prop) (σ' : St) (H' : Hp) : Prop := RNk X.K B Q σ' H'
inductive RTk (K : PySem.W.Frag) (B : Base) (Q : D → Prop) (v : V) (H' : Hp) : Prop
  | mk (F' : Hp) (d : D) (r : Rep K B F' H' [] []) (e : Den K F' d v) (q : Q d)
abbrev RT (X : Cx) (B : Base) (Q : D → Prop) (v : V) (H' : Hp) : Prop := RTk X.K B Q v H'
def RS (X : Cx) (B : Base) (D : Ends3) : Ends where
  nx := RN X B D.nx
  rt := RT X B D.rt
  bk := RN X B D.bk
  ct := RN X B D.ct
structure QE (X : Cx) (e : Expr) (t : TD) : Prop where
  of ::
  run : ∀ (B : Base) (σ : St) (F H : Hp) (env : En) (Q : D → Prop), Rep X.K B F H σ env → t env Q → wE X e σ H (RV X B σ env F Q)
instance {X : Cx} {e : Expr} {t : TD} : CoeFun (QE X e t) (fun _ => ∀ (B : Base) (σ : St) (F H : Hp) (env : En) (Q : D → Prop), Rep X.K B F H σ env → t env Q → wE X e σ H (RV X B σ env F Q)) := ⟨QE.run⟩
structure QT (X : Cx) (e : Expr) (t : TB) : Prop where
  of ::
  run : ∀ (B : Base) (σ : St) (F H : Hp) (env : En) (Q : Bool → Prop), Rep X.K B F H σ env → t env Q → wT X e σ H (RB X B σ env F Q)
instance {X : Cx} {e : Expr} {t : TB} : CoeFun (QT X e t) (fun _ => ∀ (B : Base) (σ : St) (F H : Hp) (env : En) (Q : Bool → Prop), Rep X.K B F H σ env → t env Q → wT X e σ H (RB X B σ env F Q)) := ⟨QT.run⟩
structure QW (X : Cx) (e : Expr) (t : TB) : Prop where
  of ::
  run : ∀ (B : Base) (σ : St) (F H : Hp) (env : En) (Q : Bool → Prop), Rep X.K B F H σ env → t env Q → wW X e σ H (RB X B σ env F Q)
instance {X : Cx} {e : Expr} {t : TB} : CoeFun (QW X e t) (fun _ => ∀ (B : Base) (σ : St) (F H : Hp) (env : En) (Q : Bool → Prop), Rep X.K B F H σ env → t env Q → wW X e σ H (RB X B σ env F Q)) := ⟨QW.run⟩
structure QA (X : Cx) (es : List Expr) (t : TDs) : Prop where
  of ::
  run : ∀ (B : Base) (σ : St) (F H : Hp) (env : En) (Q : List D → Prop), Rep X.K B F H σ env → t env Q → wA X es σ H (RA X B σ env F Q)
instance {X : Cx} {es : List Expr} {t : TDs} : CoeFun (QA X es t) (fun _ => ∀ (B : Base) (σ : St) (F H : Hp) (env : En) (Q : List D → Prop), Rep X.K B F H σ env → t env Q → wA X es σ H (RA X B σ env F Q)) := ⟨QA.run⟩
structure QS (X : Cx) (st : Stmt) (t : TS3) : Prop where
  of ::
  run : ∀ (B : Base) (σ : St) (F H : Hp) (env : En) (D : Ends3), Rep X.K B F H σ env → t D env → wS X st (RS X B D) σ H
instance {X : Cx} {st : Stmt} {t : TS3} : CoeFun (QS X st t) (fun _ => ∀ (B : Base) (σ : St) (F H : Hp) (env : En) (D : Ends3), Rep X.K B F H σ env → t D env → wS X st (RS X B D) σ H) := ⟨QS.run⟩
structure QSs (X : Cx) (st : List Stmt) (t : TS3) : Prop where
  of ::
  run : ∀ (B : Base) (σ : St) (F H : Hp) (env : En) (D : Ends3), Rep X.K B F H σ env → t D env → wSs X st (RS X B D) σ H
instance {X : Cx} {st : List Stmt} {t : TS3} : CoeFun (QSs X st t) (fun _ => ∀ (B : Base) (σ : St) (F H : Hp) (env : En) (D : Ends3), Rep X.K B F H σ env → t D env → wSs X st (RS X B D) σ H) := ⟨QSs.run⟩
section
variable {X : Cx} {a b c e : Expr} {es : List Expr} {ta tb tc : TD} {tA tB' : TB} {ts : TDs} {pos : Pos} {rest : List Expr}
def cVar (i : Nat) : TD := fun env Q => ∃ x, env[i]? = some (some (.d x)) ∧ Q x
def cC (x : D) : TD := fun _ Q => Q x
theorem qv (i : Nat) {x : Str} {pos : Pos} (hN : X.N[i]? = some x := by rfl) (hv : Vis X.env.scope x := by first | exact Or.inl rfl | exact Or.inr (Or.inl rfl) | exact Or.inr (Or.inr rfl)) (hd : (x == ("__debug__" : Str)) = false := by decide)
    (hcd : (x == ("__classdict__" : Str)) = false := by decide) : QE X (.Name x pos) (cVar i) := by
  refine ⟨?_⟩
  intro B σ F H env Q r ⟨x, hx, q⟩
  obtain ⟨v, hv', hd'⟩ := r.dv i x hx
  exact wE_of (pe_var hN hv hd hcd) ⟨v, hv', F, x, r, Same.refl _, hd', q⟩
theorem qc {te : TE} {v : V} {x : D} (h : PE X e (tC v)) (hd : ∀ F, Den X.K F x v) : QE X e (cC x) := ⟨fun B σ F H env Q r q => wE_of h ⟨F, x, r, Same.refl _, hd F, q⟩⟩
theorem qint {i j pos} : QE X (.Constant (.int i) j pos) (cC (.int i)) := qc (te := tC (.int i)) pe_int fun _ => den_int
theorem qbl {b j pos} : QE X (.Constant (.bool b) j pos) (cC (.bl b)) := qc (te := tC (.bl b)) pe_bl fun _ => den_bl
theorem qnon {j pos} : QE X (.Constant .none j pos) (cC .non) := qc (te := tC .non) pe_non fun _ => den_non
theorem qstr {x j pos} : QE X (.Constant (.str x) j pos) (cC (.str x)) := qc (te := tC (.str x)) pe_str fun _ => den_str
theorem qty {x : Str} {n : String} {pos : Pos} (hg : Gl X x) (hm : X.mg x = none) (hv : bootBuiltins x = some (.type n)) (hn : x ≠ "__name__" := by decide) (hd : (x == ("__debug__" : Str)) = false := by decide) : QE X (.Name x pos) (cC (.ty n)) :=
  qc (te := tC (.ty n)) (pe_bltn (v := .ty n) hg hm hv rfl hn hd) fun _ => den_ty
def Kont (X : Cx) (B : Base) (σ : St) (env : En) (F : Hp) (Q : D → Prop) (Z : VK) : Prop := ∀ (v : V) (H' F' : Hp) (d : D), Rep X.K B F' H' σ env → Same F F' → Den X.K F' d v → Q d → Z v H'
def Op3 (X : Cx) (r : R2) (f : D → D → (D → Prop) → Prop) : Prop := ∀ (B : Base) (σ : St) (F H : Hp) (env : En) (Q : D → Prop) (d d' : D) (x y : V) (Z : VK), Rep X.K B F H σ env → Den X.K F d x → Den X.K F d' y → Kont X B σ env F Q Z → f d d' Q → r x y H Z
def cOp (f : D → D → (D → Prop) → Prop) (ta tb : TD) : TD := fun env Q => ta env fun x => tb env fun y => f x y Q
theorem RV.weaken {B : Base} {σ : St} {env : En} {F F' : Hp} {Q : D → Prop} (s : Same F F') {v : V} {H : Hp} (h : RV X B σ env F' Q v H) : RV X B σ env F Q v H := by
  obtain ⟨G, d, r, s', hd, q⟩ := h
  exact ⟨G, d, r, s.trans s', hd, q⟩
theorem two {r : R2} {f : D → D → (D → Prop) → Prop} (hf : Op3 X r f) (ha : QE X a ta) (hb : QE X b tb) {B : Base} {σ : St} {F H : Hp} {env : En} {Q : D → Prop} {Z : VK} (rp : Rep X.K B F H σ env) (hz : Kont X B σ env F Q Z) (h : cOp f ta tb env Q) :
    tOp r (wE X a) (wE X b) σ H Z := by
  refine wE_mono (ha B σ F H env _ rp h) fun x H1 hq0 => ?_
  obtain ⟨F1, d, r1, s1, d1, q1⟩ := hq0
  refine wE_mono (hb B σ F1 H1 env _ r1 q1) fun y H2 hq0 => ?_
  obtain ⟨F2, d', r2, s2, d2, q2⟩ := hq0
  exact hf B σ F2 H2 env Q d d' x y Z r2 (Den.mono s2 _ _ d1) d2 (fun v H' F' d' r' s' => hz v H' F' d' r' ((s1.trans s2).trans s')) q2
theorem kRV {B : Base} {σ : St} {env : En} {F : Hp} {Q : D → Prop} : Kont X B σ env F Q (RV X B σ env F Q) := fun v H' F' d r s hd q => ⟨F', d, r, s, hd, q⟩
theorem q_op {op : Operator} {r : R2} {f : D → D → (D → Prop) → Prop} (ho : OpR X (binaryOp op) r) (hf : Op3 X r f) (ha : QE X a ta) (hb : QE X b tb) : QE X (.BinOp a op b pos) (cOp f ta tb) :=
  ⟨fun B σ F H env Q rp h => wE_of (pe_op ho pe_w pe_w) (two hf ha hb rp kRV h)⟩
theorem q_cmp {op : CmpOp} {r : R2} {f : D → D → (D → Prop) → Prop} (ho : OpR X (compareOp op) r) (hf : Op3 X r f) (ha : QE X a ta) (hb : QE X b tb) (hm : behindInMarks op b = false) : QE X (.Compare a [op] [b] pos) (cOp f ta tb) :=
  ⟨fun B σ F H env Q rp h => wE_of (pe_cmpR ho pe_w pe_w hm) (two hf ha hb rp kRV h)⟩
def cTest (t : TD) : TB := fun env Q => t env fun x => ∃ k, x = .bl k ∧ Q k
theorem den_bl_inv {K : PySem.W.Frag} {F : Hp} {k : Bool} {v : V} (h : Den K F (.bl k) v) : v = .bl k := by simpa only [Den] using h
theorem qt_cmp {op : CmpOp} {r : R2} {f : D → D → (D → Prop) → Prop} (ho : OpR X (compareOp op) r) (hf : Op3 X r f) (ha : QE X a ta) (hb : QE X b tb) (hm : behindInMarks op b = false) : QT X (.Compare a [op] [b] pos) (cTest (cOp f ta tb)) := by
  refine ⟨?_⟩
  intro B σ F H env Q rp h
  refine wT_of (pt_cmpR ho pe_w pe_w hm) ?_
  show tOp r (wE X a) (wE X b) σ H fun x H' => ∃ k, x = .bl k ∧ RB X B σ env F Q k H'
  refine two hf ha hb rp (fun v H' F' d r' s' hd q => ?_) h
  obtain ⟨k, rfl, q⟩ := q
  exact ⟨k, den_bl_inv hd, F', r', s', q⟩
theorem qt_val {t : TD} (h : QE X e t) (he : ∀ whole, isTrue e X.env whole = (do let v ← whole; standAt e.pos; holding [v] (truthy v)) := by intro _; rfl) : QT X e (cTest t) := by
  refine ⟨?_⟩
  intro B σ F H env Q rp hq
  refine wT_of (pt_val pe_w he) ?_
  refine wE_mono (h B σ F H env _ rp hq) fun v H' w => ?_
  obtain ⟨F', d, r', s', hd, k, rfl, q⟩ := w
  exact ⟨k, den_bl_inv hd, F', r', s', q⟩
def cAnd (t u : TB) : TB := fun env Q => t env fun k => if k = true then u env Q else Q false
def cOr (t u : TB) : TB := fun env Q => t env fun k => if k = true then Q true else u env Q
def cNot (t : TB) : TB := fun env Q => t env fun k => Q (!k)
theorem QW.t (h : QW X e tA) : QT X e tA := ⟨fun B σ F H env Q rp hq pins s I => h B σ F H env Q rp hq _ pins s I⟩
theorem qw_and1 (ha : QT X a tA) : QW X (.BoolOp .And [a] pos) tA := ⟨fun B σ F H env Q rp h => wW_of (pw_and1 pt_w) (ha B σ F H env Q rp h)⟩
theorem qw_or1 (ha : QT X a tA) : QW X (.BoolOp .Or [a] pos) tA := ⟨fun B σ F H env Q rp h => wW_of (pw_or1 pt_w) (ha B σ F H env Q rp h)⟩
theorem qw_and (ha : QT X a tA) (hb : QW X (.BoolOp .And (b :: rest) pos) tB') : QW X (.BoolOp .And (a :: b :: rest) pos) (cAnd tA tB') := by
  refine ⟨?_⟩
  intro B σ F H env Q rp h
  refine wW_of (pw_and pt_w pw_w) ?_
  refine wT_mono (ha B σ F H env _ rp h) fun k H1 ⟨F1, r1, s1, q1⟩ => ?_
  cases k with
  | true => exact wW_mono (hb B σ F1 H1 env Q r1 q1) fun k2 H2 ⟨F2, r2, s2, q2⟩ => ⟨F2, r2, s1.trans s2, q2⟩
  | false => exact ⟨F1, r1, s1, q1⟩
theorem qw_or (ha : QT X a tA) (hb : QW X (.BoolOp .Or (b :: rest) pos) tB') : QW X (.BoolOp .Or (a :: b :: rest) pos) (cOr tA tB') := by
  refine ⟨?_⟩
  intro B σ F H env Q rp h
  refine wW_of (pw_or pt_w pw_w) ?_
  refine wT_mono (ha B σ F H env _ rp h) fun k H1 ⟨F1, r1, s1, q1⟩ => ?_
  cases k with
  | false => exact wW_mono (hb B σ F1 H1 env Q r1 q1) fun k2 H2 ⟨F2, r2, s2, q2⟩ => ⟨F2, r2, s1.trans s2, q2⟩
  | true => exact ⟨F1, r1, s1, q1⟩
theorem qt_not (ha : QT X a tA) : QT X (.UnaryOp .Not a pos) (cNot tA) := ⟨fun B σ F H env Q rp h => wT_of (pt_not pt_w) (wT_mono (ha B σ F H env _ rp h) fun k H1 ⟨a, b, c, d⟩ => ⟨a, b, c, d⟩)⟩
def cAndV (t u : TD) : TD := fun env Q => t env fun x => ∃ k, x = .bl k ∧ if k = true then u env Q else Q (.bl false)
def cOrV (t u : TD) : TD := fun env Q => t env fun x => ∃ k, x = .bl k ∧ if k = true then Q (.bl true) else u env Q
def cNotV (t : TD) : TD := fun env Q => t env fun x => ∃ k, x = .bl k ∧ Q (.bl (!k))
theorem qe_one {op} (h : QE X a ta) : QE X (.BoolOp op [a] pos) ta := ⟨fun B σ F H env Q rp q => wE_of (pe_one pe_w) (h B σ F H env Q rp q)⟩
theorem qe_and (ha : QE X a ta) (hb : QE X (.BoolOp .And (b :: rest) pos) tb) : QE X (.BoolOp .And (a :: b :: rest) pos) (cAndV ta tb) := by
  refine ⟨?_⟩
  intro B σ F H env Q rp h
  refine wE_of (pe_and pe_w pe_w) ?_
  refine wE_mono (ha B σ F H env _ rp h) fun v H1 hq0 => ?_
  obtain ⟨F1, d, r1, s1, d1, k, hk, q1⟩ := hq0
  subst hk
  refine ⟨k, den_bl_inv d1, ?_⟩
  cases k with
  | true => exact wE_mono (hb B σ F1 H1 env Q r1 q1) fun v H2 z => z.weaken s1
  | false => exact ⟨F1, _, r1, s1, den_bl, q1⟩
def cIf (t : TB) (ta tb : TD) : TD := fun env Q => t env fun k => if k = true then ta env Q else tb env Q
theorem qe_if (hc : QT X c tA) (ha : QE X a ta) (hb : QE X b tb) : QE X (.IfExp c a b pos) (cIf tA ta tb) := by
  refine ⟨?_⟩
  intro B σ F H env Q rp h
  refine wE_of (pe_ifExp pt_w pe_w pe_w) ?_
  refine wT_mono (hc B σ F H env _ rp h) fun k H1 ⟨F1, r1, s1, q1⟩ => ?_
  cases k with
  | true => exact wE_mono (ha B σ F1 H1 env Q r1 q1) fun v H2 z => z.weaken s1
  | false => exact wE_mono (hb B σ F1 H1 env Q r1 q1) fun v H2 z => z.weaken s1
def cNil : TDs := fun _ Q => Q []
def cCons (ta : TD) (tr : TDs) : TDs := fun env Q => ta env fun x => tr env fun xs => Q (x :: xs)
theorem qa_nil : QA X [] cNil := ⟨fun B σ F H env Q rp h => wA_of pa_nil ⟨F, [], rp, Same.refl _, denL_nil, h⟩⟩
theorem qa_cons (ha : QE X e ta) (hr : QA X es ts) (hs : starEach (e :: es) X.env = (false, eval e X.env) :: starEach es X.env := by exact star_of rfl) : QA X (e :: es) (cCons ta ts) := by
  refine ⟨?_⟩
  intro B σ F H env Q rp h
  refine wA_of (pa_cons pe_w pa_w hs) ?_
  refine wE_mono (ha B σ F H env _ rp h) fun x H1 hq0 => ?_
  obtain ⟨F1, d, r1, s1, d1, q1⟩ := hq0
  exact wA_mono (hr B σ F1 H1 env _ r1 q1) fun xs H2 ⟨F2, ds, r2, s2, d2, q2⟩ => ⟨F2, d :: ds, r2, s1.trans s2, denL_cons (Den.mono s2 _ _ d1) d2, q2⟩
def cTup (t : TDs) : TD := fun env Q => t env fun xs => xs.length ≤ sizeLine ∧ Q (.tup xs)
def cLst (t : TDs) : TD := fun env Q => t env fun xs => xs.length ≤ sizeLine ∧ Q (.lst xs)
theorem RV.newTup {B : Base} {σ : St} {env : En} {F H : Hp} {Q : D → Prop} {ds : List D} {vs : List V} (r : Rep X.K B F H σ env) (hd : DenL X.K F ds vs) (q : Q (.tup ds)) : ∀ p, H p = none → RV X B σ env F Q (.ref p) (upd H p (.tup vs)) := fun p hp => by
  obtain ⟨r2, s2⟩ := r.laid (o := .tup vs) hp
  exact ⟨_, _, r2, s2, den_tup (SqT.of upd_same) (DenL.mono s2 _ _ hd), q⟩
theorem RV.newLst {B : Base} {σ : St} {env : En} {F H : Hp} {Q : D → Prop} {ds : List D} {vs : List V} (r : Rep X.K B F H σ env) (hd : DenL X.K F ds vs) (q : Q (.lst ds)) : ∀ p, H p = none → RV X B σ env F Q (.ref p) (upd H p (.lst vs)) := fun p hp => by
  obtain ⟨r2, s2⟩ := r.laid (o := .lst vs) hp
  exact ⟨_, _, r2, s2, den_lst (SqL.of upd_same) (DenL.mono s2 _ _ hd), q⟩
theorem qe_tup {x1} (h : QA X es ts) : QE X (.Tuple es x1 pos) (cTup ts) := by
  refine ⟨?_⟩
  intro B σ F H env Q rp hq
  refine wE_of (pe_tup pa_w) ?_
  refine wA_mono (h B σ F H env _ rp hq) fun vs H1 ⟨F1, ds, r1, s1, d1, z, q1⟩ => ⟨by rw [← d1.length]; exact z, fun p hp => (RV.newTup r1 d1 q1 p hp).weaken s1⟩
theorem qe_lst (h : QA X es ts) : QE X (.List es pos) (cLst ts) := by
  refine ⟨?_⟩
  intro B σ F H env Q rp hq
  refine wE_of (pe_lst pa_w) ?_
  refine wA_mono (h B σ F H env _ rp hq) fun vs H1 ⟨F1, ds, r1, s1, d1, z, q1⟩ => ⟨by rw [← d1.length]; exact z, fun p hp => (RV.newLst r1 d1 q1 p hp).weaken s1⟩
end
end L2.L3
set_option Elab.async false
set_option linter.all false
set_option maxRecDepth 100000
set_option maxHeartbeats 4000000
namespace L2.L3
open PySem PySem.Spec PyProof.Rows
mutual
def eqD : D → D → Bool
  | .non, .non => true
  | .bl a, .bl b => a == b
  | .bl a, .int b => (if a then 1 else 0) == b
  | .int a, .bl b => a == (if b then 1 else 0)
  | .int a, .int b => a == b
  | .str a, .str b => a == b
  | .tup a, .tup b => eqDs a b
  | .lst a, .lst b => eqDs a b
  | _, _ => false
def eqDs : List D → List D → Bool
  | [], [] => true
  | a :: as, b :: bs => eqD a b && eqDs as bs
  | _, _ => false
end
mutual
def dep : D → Nat
  | .tup ds => depL ds + 1
  | .lst ds => depL ds + 1
  | .dct _ _ => 1000
  | .obj _ => 1000
  | .ty _ => 1000
  | .exc _ => 1000
  | .cls _ => 1000
  | _ => 0
def depL : List D → Nat
  | [] => 0
  | d :: ds => max (dep d) (depL ds)
end
def eAt (ds es : List D) (j : Nat) : Bool := match ds[j]?, es[j]? with
  | some a, some b => eqD a b
  | _, _ => true
theorem range_all_succ (n : Nat) (e : Nat → Bool) : (List.range (n + 1)).all e = (e 0 && (List.range n).all fun i => e (i + 1)) := by
  rw [List.range_succ_eq_map, List.all_cons, List.all_map]; rfl
theorem all_eAt : ∀ ds es : List D, ((List.range (min ds.length es.length)).all (eAt ds es) && (ds.length == es.length)) = eqDs ds es
  | [], [] => by simp [eqDs]
  | [], b :: es => by simp [eqDs]
  | a :: ds, [] => by simp [eqDs]
  | a :: ds, b :: es => by
    have ih := all_eAt ds es
    rw [List.length_cons, List.length_cons, Nat.succ_min_succ, range_all_succ]
    have e1 : eAt (a :: ds) (b :: es) 0 = eqD a b := by simp [eAt]
    have e2 : (fun i => eAt (a :: ds) (b :: es) (i + 1)) = eAt ds es := by funext i; simp [eAt]
    have e3 : (ds.length + 1 == es.length + 1) = (ds.length == es.length) := by
      rw [Bool.eq_iff_iff]; simp
    rw [e1, e2, e3, Bool.and_assoc, ih, eqDs]
section
variable {X : Cx} {pins : List (Addr × Obj)} {σ : St} {H F : Hp} {s : Shared}
theorem Inv.tupNoLst (I : Inv X pins σ H s) {a : Addr} {xs ys : List V} (h : SqT X.K H a xs) (h' : SqL X.K H a ys) : False := by
  obtain ⟨_, _, ⟨o, e1, c1, _⟩, _⟩ := I.tuple h
  obtain ⟨_, _, ⟨o2, _, e2, c2, _⟩, _⟩ := I.list h'
  rw [e1] at e2; cases e2; rw [c1] at c2; injection c2 with z; exact absurd z (by decide)
mutual
theorem den_inj (I : Inv X pins σ H s) (fh : Same F H) : ∀ (d d' : D) (v : V), dep d < 1000 → dep d' < 1000 → Den X.K F d v → Den X.K F d' v → eqD d d' = true
  | .non, d', v, h1, h2, e1, e2 => by
    simp only [Den] at e1; subst e1
    cases d' <;> simp only [Den] at e2 <;> first | rfl | (obtain ⟨a, vs, z, _⟩ := e2; cases z; done) | (obtain ⟨a, z, _⟩ := e2; cases z; done) | cases e2
  | .bl b, d', v, h1, h2, e1, e2 => by
    simp only [Den] at e1; subst e1
    cases d' <;> simp only [Den] at e2 <;> first | (obtain ⟨a, vs, z, _⟩ := e2; cases z; done) | (obtain ⟨a, z, _⟩ := e2; cases z; done) | (cases e2; simp [eqD]; done) | cases e2
  | .int b, d', v, h1, h2, e1, e2 => by
    simp only [Den] at e1; subst e1
    cases d' <;> simp only [Den] at e2 <;> first | (obtain ⟨a, vs, z, _⟩ := e2; cases z; done) | (obtain ⟨a, z, _⟩ := e2; cases z; done) | (cases e2; simp [eqD]; done) | cases e2
  | .str b, d', v, h1, h2, e1, e2 => by
    simp only [Den] at e1; subst e1
    cases d' <;> simp only [Den] at e2 <;> first | (obtain ⟨a, vs, z, _⟩ := e2; cases z; done) | (obtain ⟨a, z, _⟩ := e2; cases z; done) | (cases e2; simp [eqD]; done) | cases e2
  | .ty b, d', v, h1, h2, e1, e2 => by simp [dep] at h1
  | .exc b, d', v, h1, h2, e1, e2 => by simp [dep] at h1
  | .cls b, d', v, h1, h2, e1, e2 => by simp [dep] at h1
  | .dct _ _, d', v, h1, h2, e1, e2 => by simp [dep] at h1
  | .obj _, d', v, h1, h2, e1, e2 => by simp [dep] at h1
  | .tup ds, d', v, h1, h2, e1, e2 => by
    simp only [Den] at e1
    obtain ⟨a, vs, rfl, q, r⟩ := e1
    cases d' with
    | tup es =>
      simp only [Den] at e2
      obtain ⟨a', us, z, q', r'⟩ := e2
      cases z
      have := I.tuple_inj (Same.seqT fh q) (Same.seqT fh q')
      subst this
      simp only [eqD]
      exact denL_inj I fh ds es vs (by simp [dep] at h1; omega) (by simp [dep] at h2; omega) r r'
    | lst es =>
      simp only [Den] at e2
      obtain ⟨a', us, z, q', r'⟩ := e2
      cases z
      exact (Inv.tupNoLst I (Same.seqT fh q) (fh.seq q')).elim
    | dct _ _ => simp [dep] at h2
    | obj _ => simp [dep] at h2
    | exc _ => simp [dep] at h2
    | cls _ => simp [dep] at h2
    | _ => simp only [Den] at e2; cases e2
  | .lst ds, d', v, h1, h2, e1, e2 => by
    simp only [Den] at e1
    obtain ⟨a, vs, rfl, q, r⟩ := e1
    cases d' with
    | lst es =>
      simp only [Den] at e2
      obtain ⟨a', us, z, q', r'⟩ := e2
      cases z
      have := I.list_inj (fh.seq q) (fh.seq q')
      subst this
      simp only [eqD]
      exact denL_inj I fh ds es vs (by simp [dep] at h1; omega) (by simp [dep] at h2; omega) r r'
    | tup es =>
      simp only [Den] at e2
      obtain ⟨a', us, z, q', r'⟩ := e2
      cases z
      exact (Inv.tupNoLst I (Same.seqT fh q') (fh.seq q)).elim
    | dct _ _ => simp [dep] at h2
    | obj _ => simp [dep] at h2
    | exc _ => simp [dep] at h2
    | cls _ => simp [dep] at h2
    | _ => simp only [Den] at e2; cases e2
theorem denL_inj (I : Inv X pins σ H s) (fh : Same F H) : ∀ (ds es : List D) (vs : List V), depL ds < 1000 → depL es < 1000 → DenL X.K F ds vs → DenL X.K F es vs → eqDs ds es = true
  | [], es, vs, h1, h2, e1, e2 => by
    simp only [DenL] at e1; subst e1
    cases es with
    | nil => rfl
    | cons _ _ => simp only [DenL] at e2; obtain ⟨_, _, z, _⟩ := e2; cases z
  | d :: ds, es, vs, h1, h2, e1, e2 => by
    simp only [DenL] at e1
    obtain ⟨v, r, rfl, a, b⟩ := e1
    cases es with
    | nil => simp only [DenL] at e2; cases e2
    | cons e es =>
      simp only [DenL] at e2
      obtain ⟨v', r', z, a', b'⟩ := e2
      cases z
      simp only [depL] at h1 h2
      simp only [eqDs, Bool.and_eq_true]
      exact ⟨den_inj I fh d e v (by omega) (by omega) a a', denL_inj I fh ds es r (by omega) (by omega) b b'⟩
end
theorem units_in1 (A : Around) : A.in1.units = A.units + 1 := rfl
def leafD : D → Bool
  | .non => true
  | .bl _ => true
  | .int _ => true
  | .str _ => true
  | _ => false
theorem rcLeaf (I : Inv X pins σ H s) (fh : Same F H) : ∀ (d d' : D) (A : Around) (x y : V) (u v : Value), leafD d = true → A.units + dep d < cLine → dep d' < 1000 → Den X.K F d x → Den X.K F d' y → RelV x u → RelV y v →
    SeqAt.RcAt A s u v (eqD d d') ∧ SeqAt.RcNeAt A s u v (!eqD d d')
  | .non, d', A, x, y, u, v, lf, hu, h2, e1, e2, r1, r2 => by
    simp only [Den] at e1; subst e1; cases r1
    have hu0 : A.units < cLine := by omega
    cases d' with
    | ty _ => simp [dep] at h2
    | dct _ _ => simp [dep] at h2
    | obj _ => simp [dep] at h2
    | exc _ => simp [dep] at h2
    | cls _ => simp [dep] at h2
    | non => simp only [Den] at e2; subst e2; cases r2; exact ⟨SeqAt.RcAt.none_none, SeqAt.RcNeAt.none_none⟩
    | bl b => simp only [Den] at e2; subst e2; cases r2; exact ⟨SeqAt.RcAt.none_bool b, SeqAt.RcNeAt.none_bool b⟩
    | int b => simp only [Den] at e2; subst e2; obtain ⟨t, rfl⟩ := r2; exact ⟨SeqAt.RcAt.none_int b t, SeqAt.RcNeAt.none_int b t⟩
    | str b => simp only [Den] at e2; subst e2; obtain ⟨t, rfl⟩ := r2; exact ⟨SeqAt.RcAt.none_str b t, SeqAt.RcNeAt.none_str b t⟩
    | tup es =>
      simp only [Den] at e2; obtain ⟨a, vs, rfl, q, r⟩ := e2; cases r2
      obtain ⟨its, rv, ht, hz⟩ := I.tuple (Same.seqT fh q)
      exact ⟨SeqAt.RcAt.none_tuple ht hu0, SeqAt.RcNeAt.none_tuple ht hu0⟩
    | lst es =>
      simp only [Den] at e2; obtain ⟨a, vs, rfl, q, r⟩ := e2; cases r2
      obtain ⟨its, rv, ht, hz⟩ := I.list (fh.seq q)
      exact ⟨SeqAt.RcAt.none_list ht.isList hu0, SeqAt.RcNeAt.none_list ht.isList hu0⟩
  | .bl b', d', A, x, y, u, v, lf, hu, h2, e1, e2, r1, r2 => by
    simp only [Den] at e1; subst e1; cases r1
    have hu0 : A.units < cLine := by omega
    cases d' with
    | ty _ => simp [dep] at h2
    | dct _ _ => simp [dep] at h2
    | obj _ => simp [dep] at h2
    | exc _ => simp [dep] at h2
    | cls _ => simp [dep] at h2
    | non => simp only [Den] at e2; subst e2; cases r2; exact ⟨SeqAt.RcAt.bool_none b', SeqAt.RcNeAt.bool_none b'⟩
    | bl b => simp only [Den] at e2; subst e2; cases r2; exact ⟨by simpa only [eqD] using SeqAt.RcAt.bool_bool b' b, by simpa only [eqD] using SeqAt.RcNeAt.bool_bool b' b⟩
    | int b => simp only [Den] at e2; subst e2; obtain ⟨t, rfl⟩ := r2; exact ⟨by simpa only [eqD] using SeqAt.RcAt.bool_int b' b t, by simpa only [eqD] using SeqAt.RcNeAt.bool_int b' b t⟩
    | str b => simp only [Den] at e2; subst e2; obtain ⟨t, rfl⟩ := r2; exact ⟨SeqAt.RcAt.bool_str b' b t, SeqAt.RcNeAt.bool_str b' b t⟩
    | tup es =>
      simp only [Den] at e2; obtain ⟨a, vs, rfl, q, r⟩ := e2; cases r2
      obtain ⟨its, rv, ht, hz⟩ := I.tuple (Same.seqT fh q)
      exact ⟨SeqAt.RcAt.bool_tuple b' ht hu0, SeqAt.RcNeAt.bool_tuple b' ht hu0⟩
    | lst es =>
      simp only [Den] at e2; obtain ⟨a, vs, rfl, q, r⟩ := e2; cases r2
      obtain ⟨its, rv, ht, hz⟩ := I.list (fh.seq q)
      exact ⟨SeqAt.RcAt.bool_list b' ht.isList hu0, SeqAt.RcNeAt.bool_list b' ht.isList hu0⟩
  | .int b', d', A, x, y, u, v, lf, hu, h2, e1, e2, r1, r2 => by
    simp only [Den] at e1; subst e1; obtain ⟨t', rfl⟩ := r1
    have hu0 : A.units < cLine := by omega
    cases d' with
    | ty _ => simp [dep] at h2
    | dct _ _ => simp [dep] at h2
    | obj _ => simp [dep] at h2
    | exc _ => simp [dep] at h2
    | cls _ => simp [dep] at h2
    | non => simp only [Den] at e2; subst e2; cases r2; exact ⟨SeqAt.RcAt.int_none b' t', SeqAt.RcNeAt.int_none b' t'⟩
    | bl b => simp only [Den] at e2; subst e2; cases r2; exact ⟨by simpa only [eqD] using SeqAt.RcAt.int_bool b' t' b, by simpa only [eqD] using SeqAt.RcNeAt.int_bool b' t' b⟩
    | int b => simp only [Den] at e2; subst e2; obtain ⟨t, rfl⟩ := r2; exact ⟨by simpa only [eqD] using SeqAt.RcAt.int_int b' t' b t, by simpa only [eqD] using SeqAt.RcNeAt.int_int b' t' b t⟩
    | str b => simp only [Den] at e2; subst e2; obtain ⟨t, rfl⟩ := r2; exact ⟨SeqAt.RcAt.int_str b' t' b t, SeqAt.RcNeAt.int_str b' t' b t⟩
    | tup es =>
      simp only [Den] at e2; obtain ⟨a, vs, rfl, q, r⟩ := e2; cases r2
      obtain ⟨its, rv, ht, hz⟩ := I.tuple (Same.seqT fh q)
      exact ⟨SeqAt.RcAt.int_tuple b' t' ht hu0, SeqAt.RcNeAt.int_tuple b' t' ht hu0⟩
    | lst es =>
      simp only [Den] at e2; obtain ⟨a, vs, rfl, q, r⟩ := e2; cases r2
      obtain ⟨its, rv, ht, hz⟩ := I.list (fh.seq q)
      exact ⟨SeqAt.RcAt.int_list b' t' ht.isList hu0, SeqAt.RcNeAt.int_list b' t' ht.isList hu0⟩
  | .str b', d', A, x, y, u, v, lf, hu, h2, e1, e2, r1, r2 => by
    simp only [Den] at e1; subst e1; obtain ⟨t', rfl⟩ := r1
    have hu0 : A.units < cLine := by omega
    cases d' with
    | ty _ => simp [dep] at h2
    | dct _ _ => simp [dep] at h2
    | obj _ => simp [dep] at h2
    | exc _ => simp [dep] at h2
    | cls _ => simp [dep] at h2
    | non => simp only [Den] at e2; subst e2; cases r2; exact ⟨SeqAt.RcAt.str_none b' t', SeqAt.RcNeAt.str_none b' t'⟩
    | bl b => simp only [Den] at e2; subst e2; cases r2; exact ⟨SeqAt.RcAt.str_bool b' t' b, SeqAt.RcNeAt.str_bool b' t' b⟩
    | int b => simp only [Den] at e2; subst e2; obtain ⟨t, rfl⟩ := r2; exact ⟨SeqAt.RcAt.str_int b' t' b t, SeqAt.RcNeAt.str_int b' t' b t⟩
    | str b => simp only [Den] at e2; subst e2; obtain ⟨t, rfl⟩ := r2; exact ⟨by simpa only [eqD] using SeqAt.RcAt.str_str b' t' b t, by simpa only [eqD] using SeqAt.RcNeAt.str_str b' t' b t⟩
    | tup es =>
      simp only [Den] at e2; obtain ⟨a, vs, rfl, q, r⟩ := e2; cases r2
      obtain ⟨its, rv, ht, hz⟩ := I.tuple (Same.seqT fh q)
      exact ⟨SeqAt.RcAt.str_tuple b' t' ht hu0, SeqAt.RcNeAt.str_tuple b' t' ht hu0⟩
    | lst es =>
      simp only [Den] at e2; obtain ⟨a, vs, rfl, q, r⟩ := e2; cases r2
      obtain ⟨its, rv, ht, hz⟩ := I.list (fh.seq q)
      exact ⟨SeqAt.RcAt.str_list b' t' ht.isList hu0, SeqAt.RcNeAt.str_list b' t' ht.isList hu0⟩
  | .ty _, d', A, x, y, u, v, lf, hu, h2, e1, e2, r1, r2 => (by cases lf)
  | .exc _, d', A, x, y, u, v, lf, hu, h2, e1, e2, r1, r2 => (by cases lf)
  | .cls _, d', A, x, y, u, v, lf, hu, h2, e1, e2, r1, r2 => (by cases lf)
  | .dct _ _, d', A, x, y, u, v, lf, hu, h2, e1, e2, r1, r2 => (by cases lf)
  | .obj _, d', A, x, y, u, v, lf, hu, h2, e1, e2, r1, r2 => (by cases lf)
  | .tup _, d', A, x, y, u, v, lf, hu, h2, e1, e2, r1, r2 => (by cases lf)
  | .lst _, d', A, x, y, u, v, lf, hu, h2, e1, e2, r1, r2 => (by cases lf)
theorem eqAt_of (I : Inv X pins σ H s) (fh : Same F H) (d d' : D) (A : Around) (x y : V) (u v : Value) (hu : A.units + dep d < cLine) (h1 : dep d < 1000) (h2 : dep d' < 1000) (e1 : Den X.K F d x) (e2 : Den X.K F d' y) (r1 : RelV x u) (r2 : RelV y v) (k : SeqAt.RcAt A s u v (eqD d d')) :
    SeqAt.EqAt A s u v (eqD d d') := by
  have hu0 : A.units < cLine := by omega
  by_cases z : u = v
  · subst z
    have : x = y := r1.inj r2
    subst this
    rw [den_inj I fh d d' x h1 h2 e1 e2]
    exact SeqAt.EqAt.same u
  · intro prog w E Q hq
    unfold eqBool
    refine wpAny_holding ?_
    refine wpAny_ite_split (fun hab => absurd (eq_of_beq hab) z) (fun _ => ?_)
    have nf : ∀ b t, u ≠ .float b t := fun b t w => by
      subst w
      cases x <;> first | (obtain ⟨_, q⟩ := r1; cases q; done) | (cases r1; done) | skip
      cases d <;> simp only [Den] at e1 <;> first | (cases e1; done) | (obtain ⟨_, _, z, _⟩ := e1; cases z; done) | (obtain ⟨_, z, _⟩ := e1; cases z; done)
    cases u <;> cases v <;> first | exact absurd rfl (nf _ _) | exact wpAny_bind (k prog w E _ (wpAny_truthy_bool hq))
theorem rcSeq (I : Inv X pins σ H s) (fh : Same F H) (ds0 : List D) (d d' : D) (A : Around) (x y : V) (u v : Value) (hl : d = .tup ds0 ∨ d = .lst ds0) (hu : A.units + dep d < cLine) (h1 : dep d < 1000) (h2 : dep d' < 1000) (e1 : Den X.K F d x) (e2 : Den X.K F d' y) (r1 : RelV x u) (r2 : RelV y v)
    (rec : ∀ (es : List D), (d' = .tup es ∨ d' = .lst es) → ∀ (vs1 vs : List V) (its1 its : List Value), DenL X.K F ds0 vs1 → DenL X.K F es vs → Vals vs1 its1 → Vals vs its → ∀ (j : Nat) (h1 : j < its1.length) (h2 : j < its.length), SeqAt.EqAt A.in1 s its1[j] its[j] (eAt ds0 es j)) :
    SeqAt.RcAt A s u v (eqD d d') ∧ SeqAt.RcNeAt A s u v (!eqD d d') := by
  cases d with
  | non => rcases hl with hl | hl <;> cases hl
  | bl _ => rcases hl with hl | hl <;> cases hl
  | int _ => rcases hl with hl | hl <;> cases hl
  | str _ => rcases hl with hl | hl <;> cases hl
  | ty _ => simp [dep] at h1
  | exc _ => simp [dep] at h1
  | cls _ => simp [dep] at h1
  | dct _ _ => simp [dep] at h1
  | obj _ => simp [dep] at h1
  | tup ds =>
    have z : ds = ds0 := by rcases hl with hl | hl <;> cases hl <;> rfl
    subst z
    simp only [Den] at e1; obtain ⟨a1, vs1, rfl, q1, g1⟩ := e1; cases r1
    obtain ⟨its1, rv1, ht1, hz1⟩ := I.tuple (Same.seqT fh q1)
    simp only [dep] at hu h1
    have hu0 : A.units < cLine := by omega
    cases d' with
    | ty _ => simp [dep] at h2
    | dct _ _ => simp [dep] at h2
    | obj _ => simp [dep] at h2
    | exc _ => simp [dep] at h2
    | cls _ => simp [dep] at h2
    | non => simp only [Den] at e2; subst e2; cases r2; exact ⟨SeqAt.RcAt.tuple_none ht1 hu0, SeqAt.RcNeAt.tuple_none ht1 hu0⟩
    | bl b => simp only [Den] at e2; subst e2; cases r2; exact ⟨SeqAt.RcAt.tuple_bool b ht1 hu0, SeqAt.RcNeAt.tuple_bool b ht1 hu0⟩
    | int b => simp only [Den] at e2; subst e2; obtain ⟨t, rfl⟩ := r2; exact ⟨SeqAt.RcAt.tuple_int b t ht1 hu0, SeqAt.RcNeAt.tuple_int b t ht1 hu0⟩
    | str b => simp only [Den] at e2; subst e2; obtain ⟨t, rfl⟩ := r2; exact ⟨SeqAt.RcAt.tuple_str b t ht1 hu0, SeqAt.RcNeAt.tuple_str b t ht1 hu0⟩
    | lst es =>
      simp only [Den] at e2; obtain ⟨a, vs, rfl, q, r⟩ := e2; cases r2
      obtain ⟨its, rv, ht, hz⟩ := I.list (fh.seq q)
      exact ⟨SeqAt.RcAt.tuple_list ht1 ht.isList hu0, SeqAt.RcNeAt.tuple_list ht1 ht.isList hu0⟩
    | tup es =>
      simp only [Den] at e2; obtain ⟨a, vs, rfl, q, r⟩ := e2; cases r2
      obtain ⟨its, rv, ht, hz⟩ := I.tuple (Same.seqT fh q)
      simp only [dep] at h2
      have he := rec es (.inl rfl) vs1 vs its1 its g1 r rv1 rv
      have l1 : its1.length = ds.length := by rw [g1.length, rv1.length]
      have l2 : its.length = es.length := by rw [r.length, rv.length]
      have k1 := SeqAt.RcAt.tuples (e := eAt ds es) ht1 ht hu0 (fun j h1 h2 => he j (by simpa using h1) (by simpa using h2))
      have k2 := SeqAt.RcNeAt.tuples (e := eAt ds es) ht1 ht hu0 (fun j h1 h2 => he j (by simpa using h1) (by simpa using h2))
      rw [List.size_toArray, List.size_toArray, l1, l2, all_eAt] at k1 k2
      exact ⟨by simpa only [eqD] using k1, by simpa only [eqD] using k2⟩
  | lst ds =>
    have z : ds = ds0 := by rcases hl with hl | hl <;> cases hl <;> rfl
    subst z
    simp only [Den] at e1; obtain ⟨a1, vs1, rfl, q1, g1⟩ := e1; cases r1
    obtain ⟨its1, rv1, ht1, hz1⟩ := I.list (fh.seq q1)
    simp only [dep] at hu h1
    have hu0 : A.units < cLine := by omega
    cases d' with
    | ty _ => simp [dep] at h2
    | dct _ _ => simp [dep] at h2
    | obj _ => simp [dep] at h2
    | exc _ => simp [dep] at h2
    | cls _ => simp [dep] at h2
    | non => simp only [Den] at e2; subst e2; cases r2; exact ⟨SeqAt.RcAt.list_none ht1.isList hu0, SeqAt.RcNeAt.list_none ht1.isList hu0⟩
    | bl b => simp only [Den] at e2; subst e2; cases r2; exact ⟨SeqAt.RcAt.list_bool b ht1.isList hu0, SeqAt.RcNeAt.list_bool b ht1.isList hu0⟩
    | int b => simp only [Den] at e2; subst e2; obtain ⟨t, rfl⟩ := r2; exact ⟨SeqAt.RcAt.list_int b t ht1.isList hu0, SeqAt.RcNeAt.list_int b t ht1.isList hu0⟩
    | str b => simp only [Den] at e2; subst e2; obtain ⟨t, rfl⟩ := r2; exact ⟨SeqAt.RcAt.list_str b t ht1.isList hu0, SeqAt.RcNeAt.list_str b t ht1.isList hu0⟩
    | tup es =>
      simp only [Den] at e2; obtain ⟨a, vs, rfl, q, r⟩ := e2; cases r2
      obtain ⟨its, rv, ht, hz⟩ := I.tuple (Same.seqT fh q)
      exact ⟨SeqAt.RcAt.list_tuple ht1.isList ht hu0, SeqAt.RcNeAt.list_tuple ht1.isList ht hu0⟩
    | lst es =>
      simp only [Den] at e2; obtain ⟨a, vs, rfl, q, r⟩ := e2; cases r2
      obtain ⟨its, rv, ht, hz⟩ := I.list (fh.seq q)
      simp only [dep] at h2
      have he := rec es (.inr rfl) vs1 vs its1 its g1 r rv1 rv
      have l1 : its1.length = ds.length := by rw [g1.length, rv1.length]
      have l2 : its.length = es.length := by rw [r.length, rv.length]
      simp only [eqD]
      rw [← all_eAt]
      by_cases hsz : ds.length = es.length
      · have k1 := SeqAt.RcAt.lists (e := eAt ds es) ht1.isList ht.isList (by simp [l1, l2, hsz]) hu0 (fun j h1 h2 => he j (by simpa using h1) (by simpa using h2))
        have k2 := SeqAt.RcNeAt.lists (e := eAt ds es) ht1.isList ht.isList (by simp [l1, l2, hsz]) hu0 (fun j h1 h2 => he j (by simpa using h1) (by simpa using h2))
        rw [List.size_toArray, l1] at k1 k2
        have e : (ds.length == es.length) = true := by simp [hsz]
        rw [e, Bool.and_true, ← hsz, Nat.min_self]
        exact ⟨k1, k2⟩
      · have e : (ds.length == es.length) = false := by simp [hsz]
        rw [e, Bool.and_false]
        have e2 : (its1.toArray.size != its.toArray.size) = true := by simp [l1, l2, hsz]
        exact ⟨SeqAt.RcAt.lists_lengths ht1.isList ht.isList e2 hu0, SeqAt.RcNeAt.lists_lengths ht1.isList ht.isList e2 hu0⟩
mutual
theorem rcAt (I : Inv X pins σ H s) (fh : Same F H) : ∀ (d d' : D) (A : Around) (x y : V) (u v : Value), A.units + dep d < cLine → dep d < 1000 → dep d' < 1000 → Den X.K F d x → Den X.K F d' y → RelV x u → RelV y v →
    SeqAt.RcAt A s u v (eqD d d') ∧ SeqAt.RcNeAt A s u v (!eqD d d')
  | .ty _, d', A, x, y, u, v, hu, h1, h2, e1, e2, r1, r2 => by simp [dep] at h1
  | .exc _, d', A, x, y, u, v, hu, h1, h2, e1, e2, r1, r2 => by simp [dep] at h1
  | .cls _, d', A, x, y, u, v, hu, h1, h2, e1, e2, r1, r2 => by simp [dep] at h1
  | .dct _ _, d', A, x, y, u, v, hu, h1, h2, e1, e2, r1, r2 => by simp [dep] at h1
  | .obj _, d', A, x, y, u, v, hu, h1, h2, e1, e2, r1, r2 => by simp [dep] at h1
  | .non, d', A, x, y, u, v, hu, h1, h2, e1, e2, r1, r2 => rcLeaf I fh _ d' A x y u v rfl hu h2 e1 e2 r1 r2
  | .bl _, d', A, x, y, u, v, hu, h1, h2, e1, e2, r1, r2 => rcLeaf I fh _ d' A x y u v rfl hu h2 e1 e2 r1 r2
  | .int _, d', A, x, y, u, v, hu, h1, h2, e1, e2, r1, r2 => rcLeaf I fh _ d' A x y u v rfl hu h2 e1 e2 r1 r2
  | .str _, d', A, x, y, u, v, hu, h1, h2, e1, e2, r1, r2 => rcLeaf I fh _ d' A x y u v rfl hu h2 e1 e2 r1 r2
  | .tup ds, d', A, x, y, u, v, hu, h1, h2, e1, e2, r1, r2 => rcSeq I fh ds _ d' A x y u v (.inl rfl) hu h1 h2 e1 e2 r1 r2 fun es z2 vs1 vs its1 its g1 r rv1 rv =>
    eqAts I fh ds es A.in1 vs1 vs its1 its (by rw [units_in1]; simp only [dep] at hu; omega) (by simp only [dep] at h1; omega) (by rcases z2 with rfl | rfl <;> (simp only [dep] at h2; omega)) g1 r rv1 rv
  | .lst ds, d', A, x, y, u, v, hu, h1, h2, e1, e2, r1, r2 => rcSeq I fh ds _ d' A x y u v (.inr rfl) hu h1 h2 e1 e2 r1 r2 fun es z2 vs1 vs its1 its g1 r rv1 rv =>
    eqAts I fh ds es A.in1 vs1 vs its1 its (by rw [units_in1]; simp only [dep] at hu; omega) (by simp only [dep] at h1; omega) (by rcases z2 with rfl | rfl <;> (simp only [dep] at h2; omega)) g1 r rv1 rv
theorem eqAts (I : Inv X pins σ H s) (fh : Same F H) : ∀ (ds es : List D) (A : Around) (xs ys : List V) (us vs : List Value), A.units + depL ds < cLine → depL ds < 1000 → depL es < 1000 → DenL X.K F ds xs → DenL X.K F es ys → Vals xs us → Vals ys vs →
    ∀ (j : Nat) (h1 : j < us.length) (h2 : j < vs.length), SeqAt.EqAt A s us[j] vs[j] (eAt ds es j)
  | [], es, A, xs, ys, us, vs, hu, h1, h2, e1, e2, r1, r2, j, hj1, hj2 => by
    simp only [DenL] at e1; subst e1; cases r1; simp at hj1
  | d :: ds, es, A, xs, ys, us, vs, hu, h1, h2, e1, e2, r1, r2, j, hj1, hj2 => by
    simp only [DenL] at e1
    obtain ⟨x, xr, rfl, ax, bx⟩ := e1
    cases r1 with
    | cons rx rrx =>
    cases es with
    | nil => simp only [DenL] at e2; subst e2; cases r2; simp at hj2
    | cons e es =>
      simp only [DenL] at e2
      obtain ⟨y, yr, rfl, ay, by'⟩ := e2
      cases r2 with
      | cons ry rry =>
      simp only [depL] at hu h1 h2
      cases j with
      | zero =>
        simp only [List.getElem_cons_zero]
        have e0 : eAt (d :: ds) (e :: es) 0 = eqD d e := by simp [eAt]
        rw [e0]
        exact eqAt_of I fh d e A x y _ _ (by omega) (by omega) (by omega) ax ay rx ry (rcAt I fh d e A x y _ _ (by omega) (by omega) (by omega) ax ay rx ry).1
      | succ j =>
        simp only [List.getElem_cons_succ]
        have e0 : eAt (d :: ds) (e :: es) (j + 1) = eAt ds es j := by simp [eAt]
        rw [e0]
        exact eqAts I fh ds es A xr yr _ _ (by omega) (by omega) (by omega) bx by' rrx rry j (by simpa using hj1) (by simpa using hj2)
end
theorem eqAt_one (I : Inv X pins σ H s) (fh : Same F H) (d d' : D) (A : Around) (x y : V) (u v : Value) (hu : A.units + dep d < cLine) (h1 : dep d < 1000) (h2 : dep d' < 1000) (e1 : Den X.K F d x) (e2 : Den X.K F d' y) (r1 : RelV x u) (r2 : RelV y v) :
    SeqAt.EqAt A s u v (eqD d d') := eqAt_of I fh d d' A x y u v hu h1 h2 e1 e2 r1 r2 (rcAt I fh d d' A x y u v hu h1 h2 e1 e2 r1 r2).1
end
end L2.L3
set_option Elab.async false
set_option linter.all false
set_option maxRecDepth 100000
set_option maxHeartbeats 4000000
namespace L2.L3
open PySem PySem.Spec PyProof.Rows
section
variable {X : Cx} {a b c e : Expr} {es : List Expr} {ta tb tc : TD} {tA tB' : TB} {ts : TDs} {pos : Pos} {rest : List Expr}
def rCatL (K : PySem.W.Frag) : R2 := fun x y H Q => ∃ l b xs zs, x = .ref l ∧ y = .ref b ∧ SqL K H l xs ∧ SqL K H b zs ∧ xs.length + zs.length ≤ sizeLine ∧ ∀ p, H p = none → Q (.ref p) (upd H p (.lst (xs ++ zs)))
theorem op_catL : OpR X (binaryOp .Add) (rCatL X.K) := by
  intro pins s σ H x y v u Q I rx ry h
  obtain ⟨l, b, xs, zs, rfl, rfl, hH, hB, hz, q⟩ := h
  cases rx
  cases ry
  obtain ⟨its, r, ⟨⟨cls, dd, data, sl⟩, n, ho, hc, hdd, hd⟩, z⟩ := I.list hH
  obtain ⟨its2, r2, ⟨⟨cls2, dd2, data2, sl2⟩, n2, ho2, hc2, hdd2, hd2⟩, z2⟩ := I.list hB
  simp only at hc hdd hd hc2 hdd2 hd2
  subst hc hdd hd hc2 hdd2 hd2
  have ea : its.toArray ++ its2.toArray = (its ++ its2).toArray := by simp
  refine concat_meets ⟨_, ho, rfl⟩ ⟨_, ho2, rfl⟩ noFill_list_add seq_list_add PySem.F.slot_list_add PySem.F.entry_list_add (PySem.F.args_list_add_2 _ _)
    (list_addW l b its.toArray its2.toArray n n2 none none sl sl2 (by rw [List.size_toArray, List.size_toArray, ← r.length, ← r2.length]; exact hz)) ⟨ho, ho2, ?_⟩
  rw [ea]
  exact ⟨.ref _, _, I.lnew (t' := s.toks) (r.append r2) (by rw [List.length_append]; omega), rfl, q _ I.fresh⟩
def rCatT0 (K : PySem.W.Frag) : R2 := fun x y H Q => ∃ a b ys, x = .ref a ∧ y = .ref b ∧ SqT K H a [] ∧ SqT K H b ys ∧ Q (.ref b) H
theorem op_catT0 : OpR X (binaryOp .Add) (rCatT0 X.K) := by
  intro pins s σ H x y v u Q I rx ry h
  obtain ⟨l, b, zs, rfl, rfl, hH, hB, q⟩ := h
  cases rx
  cases ry
  obtain ⟨its, r, ⟨⟨cls, dd, data, sl⟩, ho, hc, n, hd⟩, z⟩ := I.tuple hH
  obtain ⟨its2, r2, ⟨⟨cls2, dd2, data2, sl2⟩, ho2, hc2, n2, hd2⟩, z2⟩ := I.tuple hB
  cases r
  simp only at hc hd hc2 hd2
  subst hc hd hc2 hd2
  exact concat_meets ⟨_, ho, rfl⟩ ⟨_, ho2, rfl⟩ noFill_tuple_add seq_tuple_add PySem.F.slot_tuple_add PySem.F.entry_tuple_add (PySem.F.args_tuple_add_2 _ _)
    (tuple_addW0 l b _ _ n n2 dd dd2 sl sl2 (by simp)) ⟨ho, ho2, ⟨.ref b, H, I, rfl, q⟩⟩
def addD (x y : D) (Q : D → Prop) : Prop := match x, y with
  | .int i, .int j => Q (.int (i + j))
  | .str u, .str w => u.length + w.length ≤ sizeLine ∧ Q (.str (u ++ w))
  | .lst u, .lst w => u.length + w.length ≤ sizeLine ∧ Q (.lst (u ++ w))
  | .tup u, .tup w => u.length + w.length ≤ sizeLine ∧ Q (.tup (u ++ w))
  | _, _ => False
def rAddAll (K : PySem.W.Frag) : R2 := fun x y H Q => rI0 (fun i j => .int (i + j)) x y H Q ∨ (∃ i j, x = .str i ∧ y = .str j ∧ i.length + j.length ≤ sizeLine ∧ Q (.str (i ++ j)) H) ∨ rCatL K x y H Q ∨ rCatT K x y H Q ∨ rCatT0 K x y H Q
theorem op_addAll : OpR X (binaryOp .Add) (rAddAll X.K) := op_add.or (op_add_str.or (op_catL.or (op_catT.or op_catT0)))
theorem o3_add : Op3 X (rAddAll X.K) addD := by
  intro B σ F H env Q d d' x y Z rp h1 h2 hz hf
  unfold addD at hf
  split at hf
  · simp only [Den] at h1 h2; subst h1 h2
    exact .inl ⟨_, _, rfl, rfl, hz _ _ F _ rp (Same.refl _) den_int hf⟩
  · simp only [Den] at h1 h2; subst h1 h2
    exact .inr (.inl ⟨_, _, rfl, rfl, hf.1, hz _ _ F _ rp (Same.refl _) den_str hf.2⟩)
  · simp only [Den] at h1 h2
    obtain ⟨p, vs, rfl, q, r⟩ := h1
    obtain ⟨p', vs', rfl, q', r'⟩ := h2
    refine .inr (.inr (.inl ⟨p, p', vs, vs', rfl, rfl, rp.fh.seq q, rp.fh.seq q', by rw [← r.length, ← r'.length]; exact hf.1, fun w hw => ?_⟩))
    obtain ⟨r2, s2⟩ := rp.laid (o := .lst (vs ++ vs')) hw
    exact hz _ _ _ _ r2 s2 (den_lst (SqL.of upd_same) (DenL.mono s2 _ _ (r.append r'))) hf.2
  · simp only [Den] at h1 h2
    obtain ⟨p, vs, rfl, q, r⟩ := h1
    obtain ⟨p', vs', rfl, q', r'⟩ := h2
    cases vs with
    | nil =>
      rename_i u w
      cases u with
      | cons _ _ => simp only [DenL] at r; obtain ⟨_, _, z, _⟩ := r; cases z
      | nil =>
        exact .inr (.inr (.inr (.inr ⟨p, p', vs', rfl, rfl, Same.seqT rp.fh q, Same.seqT rp.fh q', hz _ _ F _ rp (Same.refl _) (den_tup q' r') (by simpa using hf.2)⟩)))
    | cons v0 vr =>
      refine .inr (.inr (.inr (.inl ⟨p, p', v0 :: vr, vs', rfl, rfl, Same.seqT rp.fh q, Same.seqT rp.fh q', by simp, by rw [← r.length, ← r'.length]; exact hf.1, fun w => ?_, fun w z hw => ?_⟩)))
      · subst w
        rename_i w
        have e : w = [] := by
          cases w with
          | nil => rfl
          | cons _ _ => simp only [DenL] at r'; obtain ⟨_, _, z, _⟩ := r'; cases z
        subst e
        exact hz _ _ F _ rp (Same.refl _) (den_tup q r) (by simpa using hf.2)
      · obtain ⟨r2, s2⟩ := rp.laid (o := .tup (v0 :: vr ++ vs')) hw
        exact hz _ _ _ _ r2 s2 (den_tup (SqT.of upd_same) (DenL.mono s2 _ _ (r.append r'))) hf.2
  · exact hf.elim
theorem q_add (ha : QE X a ta) (hb : QE X b tb) : QE X (.BinOp a .Add b pos) (cOp addD ta tb) := q_op op_addAll o3_add ha hb
def iiD (C : Int → Int → Prop) (g : Int → Int → D) (x y : D) (Q : D → Prop) : Prop := match x, y with
  | .int i, .int j => C i j ∧ Q (g i j)
  | _, _ => False
theorem o3_ii {C : Int → Int → Prop} {g : Int → Int → Int} : Op3 X (rI C fun i j => .int (g i j)) (iiD C fun i j => .int (g i j)) := by
  intro B σ F H env Q d d' x y Z rp h1 h2 hz hf
  unfold iiD at hf
  split at hf
  · simp only [Den] at h1 h2; subst h1 h2
    exact ⟨_, _, rfl, rfl, hf.1, hz _ _ F _ rp (Same.refl _) den_int hf.2⟩
  · exact hf.elim
theorem o3_ii0 {g : Int → Int → Int} : Op3 X (rI0 fun i j => .int (g i j)) (iiD (fun _ _ => True) fun i j => .int (g i j)) := by
  intro B σ F H env Q d d' x y Z rp h1 h2 hz hf
  unfold iiD at hf
  split at hf
  · simp only [Den] at h1 h2; subst h1 h2
    exact ⟨_, _, rfl, rfl, hz _ _ F _ rp (Same.refl _) den_int hf.2⟩
  · exact hf.elim
theorem o3_ib0 {g : Int → Int → Bool} : Op3 X (rI0 fun i j => .bl (g i j)) (iiD (fun _ _ => True) fun i j => .bl (g i j)) := by
  intro B σ F H env Q d d' x y Z rp h1 h2 hz hf
  unfold iiD at hf
  split at hf
  · simp only [Den] at h1 h2; subst h1 h2
    exact ⟨_, _, rfl, rfl, hz _ _ F _ rp (Same.refl _) den_bl hf.2⟩
  · exact hf.elim
theorem op_mulW : OpR X (binaryOp .Mult) (rI IntMulOk fun i j => .int (i * j)) := opI fun _ _ _ _ _ _ _ hc q => mul_int q hc
def DivOk (_ j : Int) : Prop := j ≠ 0 ∧ j.natAbs.log2 < 9000
theorem op_fdivW : OpR X (binaryOp .FloorDiv) (rI DivOk fun i j => .int (i.fdiv j)) := opI fun _ _ _ _ _ _ _ hc q => floordiv_int hc.1 q (.inl (PyProof.noPylong_of_log2 hc.2))
def ModOk (_ j : Int) : Prop := j ≠ 0
abbrev subD := iiD (fun _ _ => True) fun i j => .int (i - j)
abbrev mulD := iiD IntMulOk fun i j => .int (i * j)
abbrev fdivD := iiD DivOk fun i j => .int (i.fdiv j)
abbrev modD := iiD ModOk fun i j => .int (i.fmod j)
abbrev powD := iiD CPow fun i j => .int (i ^ j.toNat)
abbrev ltD := iiD (fun _ _ => True) fun i j => .bl (decide (i < j))
abbrev gtD := iiD (fun _ _ => True) fun i j => .bl (decide (j < i))
abbrev geD := iiD (fun _ _ => True) fun i j => .bl (decide (j ≤ i))
theorem q_sub (ha : QE X a ta) (hb : QE X b tb) : QE X (.BinOp a .Sub b pos) (cOp subD ta tb) := q_op op_sub o3_ii0 ha hb
theorem q_mul (ha : QE X a ta) (hb : QE X b tb) : QE X (.BinOp a .Mult b pos) (cOp mulD ta tb) := q_op op_mulW o3_ii ha hb
theorem q_fdiv (ha : QE X a ta) (hb : QE X b tb) : QE X (.BinOp a .FloorDiv b pos) (cOp fdivD ta tb) := q_op op_fdivW o3_ii ha hb
theorem q_mod (ha : QE X a ta) (hb : QE X b tb) : QE X (.BinOp a .Mod b pos) (cOp modD ta tb) := q_op (r := rI ModOk fun i j => .int (i.fmod j)) op_modN o3_ii ha hb
theorem q_pow (ha : QE X a ta) (hb : QE X b tb) : QE X (.BinOp a .Pow b pos) (cOp powD ta tb) := q_op op_pow o3_ii ha hb
theorem t_lt (ha : QE X a ta) (hb : QE X b tb) : QT X (.Compare a [.Lt] [b] pos) (cTest (cOp ltD ta tb)) := qt_cmp op_lt o3_ib0 ha hb (nomark _)
theorem t_gt (ha : QE X a ta) (hb : QE X b tb) : QT X (.Compare a [.Gt] [b] pos) (cTest (cOp gtD ta tb)) := qt_cmp op_gt o3_ib0 ha hb (nomark _)
theorem t_ge (ha : QE X a ta) (hb : QE X b tb) : QT X (.Compare a [.GtE] [b] pos) (cTest (cOp geD ta tb)) := qt_cmp op_ge o3_ib0 ha hb (nomark _)
def Un3 (X : Cx) (r : V → Hp → VK → Prop) (f : D → (D → Prop) → Prop) : Prop := ∀ (B : Base) (σ : St) (F H : Hp) (env : En) (Q : D → Prop) (d : D) (x : V) (Z : VK), Rep X.K B F H σ env → Den X.K F d x → Kont X B σ env F Q Z → f d Q → r x H Z
def cUn (f : D → (D → Prop) → Prop) (ta : TD) : TD := fun env Q => ta env fun x => f x Q
theorem q_un {op : UnaryOp} {r : V → Hp → VK → Prop} {f : D → (D → Prop) → Prop} (ho : UnR X (unaryOp op) r) (hf : Un3 X r f) (ha : QE X a ta) : QE X (.UnaryOp op a pos) (cUn f ta) := by
  refine ⟨?_⟩
  intro B σ F H env Q rp h
  refine wE_of (pe_un ho pe_w) ?_
  refine wE_mono (ha B σ F H env _ rp h) fun x H1 hq0 => ?_
  obtain ⟨F1, d, r1, s1, d1, q1⟩ := hq0
  exact hf B σ F1 H1 env Q d x _ r1 d1 (fun v H' F' d' r' s' hd q => ⟨F', d', r', s1.trans s', hd, q⟩) q1
def negD (x : D) (Q : D → Prop) : Prop := match x with
  | .int i => Q (.int (-i))
  | _ => False
theorem q_neg (ha : QE X a ta) : QE X (.UnaryOp .USub a pos) (cUn negD ta) := by
  refine q_un un_neg ?_ ha
  intro B σ F H env Q d x Z rp h1 hz hf
  unfold negD at hf
  split at hf
  · simp only [Den] at h1; subst h1
    exact ⟨_, rfl, hz _ _ F _ rp (Same.refl _) den_int hf⟩
  · exact hf.elim
def rEqD (X : Cx) (neg : Bool) : R2 := fun x y H Q => ∃ (F : Hp) (d d' : D), Same F H ∧ Den X.K F d x ∧ Den X.K F d' y ∧ X.A.units + dep d < cLine ∧ dep d < 1000 ∧ dep d' < 1000 ∧ Q (.bl (if neg then !eqD d d' else eqD d d')) H
theorem op_eqD : OpR X (compareOp .Eq) (rEqD X false) := by
  intro pins s σ H x y v u Q I rx ry h
  obtain ⟨F, d, d', fh, h1, h2, hu, hd, hd', q⟩ := h
  exact (rcAt I fh d d' X.A x y v u hu hd hd' h1 h2 rx ry).1 X.prog X.w X.xe _ ⟨.bl _, H, I, rfl, q⟩
theorem op_neD : OpR X (compareOp .NotEq) (rEqD X true) := by
  intro pins s σ H x y v u Q I rx ry h
  obtain ⟨F, d, d', fh, h1, h2, hu, hd, hd', q⟩ := h
  exact (rcAt I fh d d' X.A x y v u hu hd hd' h1 h2 rx ry).2 X.prog X.w X.xe _ ⟨.bl _, H, I, rfl, q⟩
def DepOk (x y : D) : Prop := dep x ≤ 60 ∧ dep y ≤ 60
def eqF (x y : D) (Q : D → Prop) : Prop := DepOk x y ∧ Q (.bl (eqD x y))
def neF (x y : D) (Q : D → Prop) : Prop := DepOk x y ∧ Q (.bl (!eqD x y))
theorem o3_eq (hu : X.A.units + 64 < cLine) : Op3 X (rEqD X false) eqF := by
  intro B σ F H env Q d d' x y Z rp h1 h2 hz hf
  obtain ⟨⟨l1, l2⟩, q⟩ := hf
  exact ⟨F, d, d', rp.fh, h1, h2, by omega, by omega, by omega, hz _ _ F _ rp (Same.refl _) den_bl q⟩
theorem o3_ne (hu : X.A.units + 64 < cLine) : Op3 X (rEqD X true) neF := by
  intro B σ F H env Q d d' x y Z rp h1 h2 hz hf
  obtain ⟨⟨l1, l2⟩, q⟩ := hf
  exact ⟨F, d, d', rp.fh, h1, h2, by omega, by omega, by omega, hz _ _ F _ rp (Same.refl _) den_bl q⟩
theorem q_eq (hu : X.A.units + 64 < cLine) (ha : QE X a ta) (hb : QE X b tb) : QE X (.Compare a [.Eq] [b] pos) (cOp eqF ta tb) := q_cmp op_eqD (o3_eq hu) ha hb (nomark _)
theorem t_eq (hu : X.A.units + 64 < cLine) (ha : QE X a ta) (hb : QE X b tb) : QT X (.Compare a [.Eq] [b] pos) (cTest (cOp eqF ta tb)) := qt_cmp op_eqD (o3_eq hu) ha hb (nomark _)
theorem t_ne (hu : X.A.units + 64 < cLine) (ha : QE X a ta) (hb : QE X b tb) : QT X (.Compare a [.NotEq] [b] pos) (cTest (cOp neF ta tb)) := qt_cmp op_neD (o3_ne hu) ha hb (nomark _)
def ixD (x y : D) (Q : D → Prop) : Prop := match x, y with
  | .lst xs, .int i => ∃ v, atI xs i = some v ∧ Q v
  | .tup xs, .int i => ∃ v, atI xs i = some v ∧ Q v
  | .str z, .int i => z.length ≤ sizeLine ∧ ∃ c, atI z.cps.toList i = some c ∧ Q (.str ⟨#[c]⟩)
  | _, _ => False
theorem DenL.atI {K : PySem.W.Frag} {F : Hp} {ds : List D} {vs : List V} {i : Int} {d : D} (r : DenL K F ds vs) (h : atI ds i = some d) : ∃ v, L2.atI vs i = some v ∧ Den K F d v := by
  unfold L2.atI at h ⊢
  rw [← r.length]
  cases e : ixN ds.length i with
  | none => rw [e] at h; cases h
  | some j =>
    rw [e] at h
    exact r.get h
theorem o3_ix : Op3 X (rIx X.K) ixD := by
  intro B σ F H env Q d d' x y Z rp h1 h2 hz hf
  unfold ixD at hf
  split at hf
  · simp only [Den] at h1 h2; subst h2
    obtain ⟨p, vs, rfl, q, r⟩ := h1
    obtain ⟨v, hv, qv⟩ := hf
    obtain ⟨w, hw, dw⟩ := r.atI hv
    exact .inl ⟨p, vs, _, w, rfl, rfl, rp.fh.seq q, hw, hz _ _ F _ rp (Same.refl _) dw qv⟩
  · simp only [Den] at h1 h2; subst h2
    obtain ⟨p, vs, rfl, q, r⟩ := h1
    obtain ⟨v, hv, qv⟩ := hf
    obtain ⟨w, hw, dw⟩ := r.atI hv
    exact .inr (.inl ⟨p, vs, _, w, rfl, rfl, Same.seqT rp.fh q, hw, hz _ _ F _ rp (Same.refl _) dw qv⟩)
  · simp only [Den] at h1 h2; subst h1 h2
    obtain ⟨hl, c, hc, qv⟩ := hf
    exact .inr (.inr ⟨_, _, c, rfl, rfl, hl, hc, hz _ _ F _ rp (Same.refl _) den_str qv⟩)
  · exact hf.elim
theorem q_ix (ha : QE X a ta) (hb : QE X b tb) (hs : PlainIx b) : QE X (.Subscript a b pos) (cOp ixD ta tb) := ⟨fun B σ F H env Q rp h => wE_of (pe_ix ix_seq pe_w pe_w hs) (two o3_ix ha hb rp kRV h)⟩
abbrev TO3 := En → (Option Int → Prop) → Prop
def cNoPart : TO3 := fun _ Q => Q none
def cPart (t : TD) : TO3 := fun env Q => t env fun x => ∃ i, x = .int i ∧ Q (some i)
def QO (X : Cx) (e : Option Expr) (t : TO3) : Prop := ∃ to : TO, PO X e to ∧ ∀ (B : Base) (σ : St) (F H : Hp) (env : En) (Q : Option Int → Prop) (Z : Option Int → Hp → Prop), Rep X.K B F H σ env → (∀ o H' F', Rep X.K B F' H' σ env → Same F F' → Q o → Z o H') → t env Q → to σ H Z
theorem qo_none : QO X none cNoPart := ⟨_, po_none, fun B σ F H env Q Z rp hz h => hz none H F rp (Same.refl _) h⟩
theorem qo_some (h : QE X e ta) : QO X (some e) (cPart ta) := by
  refine ⟨_, po_some pe_w, fun B σ F H env Q Z rp hz hq => ?_⟩
  refine wE_mono (h B σ F H env _ rp hq) fun x H1 hq0 => ?_
  obtain ⟨F1, d, r1, s1, d1, i, hi, q1⟩ := hq0
  subst hi
  simp only [Den] at d1
  exact ⟨i, d1, hz _ _ F1 r1 s1 q1⟩
def cutD (xs : List D) (lo hi : Option Int) : List D := (xs.drop (HT.sIx xs.length 0 lo)).take (HT.sIx xs.length xs.length hi - HT.sIx xs.length 0 lo)
def slD (x : D) (lo hi : Option Int) (Q : D → Prop) : Prop := match x with
  | .lst xs => Q (.lst (cutD xs lo hi))
  | .tup xs => ¬ (HT.sIx xs.length 0 lo = 0 ∧ HT.sIx xs.length xs.length hi = xs.length) ∧ Q (.tup (cutD xs lo hi))
  | _ => False
def cSl (ta : TD) (tl th : TO3) : TD := fun env Q => ta env fun x => tl env fun lo => th env fun hi => slD x lo hi Q
theorem q_sl {lo hi : Option Expr} {tl th : TO3} {p2 : Pos} (ha : QE X a ta) (hl : QO X lo tl) (hh : QO X hi th) : QE X (.Subscript a (.Slice lo hi none p2) pos) (cSl ta tl th) := by
  refine ⟨?_⟩
  intro B σ F H env Q rp h
  obtain ⟨tl', pl, ql⟩ := hl
  obtain ⟨th', ph, qh⟩ := hh
  refine wE_of (pe_slice (SlR.or sl_list sl_tup) pe_w pl ph) ?_
  refine wE_mono (ha B σ F H env _ rp h) fun x H1 hq0 => ?_
  obtain ⟨F1, d, r1, s1, d1, q1⟩ := hq0
  refine ql B σ F1 H1 env _ _ r1 (fun lo' H2 F2 r2 s2 q2 => ?_) q1
  refine qh B σ F2 H2 env _ _ r2 (fun hi' H3 F3 r3 s3 q3 => ?_) q2
  have d3 := Den.mono (s2.trans s3) _ _ d1
  unfold slD at q3
  split at q3
  · simp only [Den] at d3
    obtain ⟨p, vs, rfl, q, r⟩ := d3
    refine .inl ⟨p, vs, rfl, r3.fh.seq q, fun w hw => ?_⟩
    obtain ⟨r4, s4⟩ := r3.laid (o := .lst (cutV vs lo' hi')) hw
    refine ⟨_, _, r4, ((s1.trans s2).trans s3).trans s4, den_lst (SqL.of upd_same) ?_, q3⟩
    unfold cutV cutD
    rw [r.length]
    exact DenL.mono s4 _ _ ((r.drop _).take _)
  · simp only [Den] at d3
    obtain ⟨p, vs, rfl, q, r⟩ := d3
    refine .inr ⟨p, vs, rfl, Same.seqT r3.fh q, by rw [← r.length]; exact q3.1, fun w hw => ?_⟩
    obtain ⟨r4, s4⟩ := r3.laid (o := .tup (cutV vs lo' hi')) hw
    refine ⟨_, _, r4, ((s1.trans s2).trans s3).trans s4, den_tup (SqT.of upd_same) ?_, q3.2⟩
    unfold cutV cutD
    rw [r.length]
    exact DenL.mono s4 _ _ ((r.drop _).take _)
  · exact q3.elim
def Call3 (X : Cx) (r : List V → Hp → VK → Prop) (f : List D → (D → Prop) → Prop) : Prop := ∀ (B : Base) (σ : St) (F H : Hp) (env : En) (Q : D → Prop) (ds : List D) (vs : List V) (Z : VK), Rep X.K B F H σ env → DenL X.K F ds vs → Kont X B σ env F Q Z → f ds Q → r vs H Z
def cCall (f : List D → (D → Prop) → Prop) (ts : TDs) : TD := fun env Q => ts env fun xs => f xs Q
theorem args3 {r : List V → Hp → VK → Prop} {f : List D → (D → Prop) → Prop} (hf : Call3 X r f) (ha : QA X es ts) {B : Base} {σ : St} {F H : Hp} {env : En} {Q : D → Prop} (rp : Rep X.K B F H σ env) (h : cCall f ts env Q) : tCB r (wA X es) σ H (RV X B σ env F Q) := by
  refine wA_mono (ha B σ F H env _ rp h) fun vs H1 hq0 => ?_
  obtain ⟨F1, ds, r1, s1, d1, q1⟩ := hq0
  exact hf B σ F1 H1 env Q ds vs _ r1 d1 (fun v H' F' d' r' s' hd q => ⟨F', d', r', s1.trans s', hd, q⟩) q1
theorem q_callB {id : String} {r : List V → Hp → VK → Prop} {f : List D → (D → Prop) → Prop} {x : Str} {p : Pos} (hc : CallR X (.builtin id) r) (hf : Call3 X r f) (hg : Gl X x) (hm : X.mg x = none) (hv : bootBuiltins x = some (.builtin id)) (ha : QA X (e :: es) ts)
    (hn : x ≠ "__name__" := by decide) (hdb : (x == ("__debug__" : Str)) = false := by decide) (he : starEach (e :: es) X.env = (false, eval e X.env) :: starEach es X.env := by exact star_of rfl) (hpl : (backTo pos (starEach es X.env)).any (·.1) = false := by rfl) :
    QE X (.Call (.Name x p) (e :: es) [] pos) (cCall f ts) := ⟨fun B σ F H env Q rp h => wE_of (pe_callB hc hg hm hv pa_w hn hdb he hpl) (args3 hf ha rp h)⟩
theorem q_callTy {T : String} {r : List V → Hp → VK → Prop} {f : List D → (D → Prop) → Prop} {x : Str} {p : Pos} (hc : CallR X (.type T) r) (hf : Call3 X r f) (hg : Gl X x) (hm : X.mg x = none) (hv : bootBuiltins x = some (.type T)) (ha : QA X (e :: es) ts)
    (hn : x ≠ "__name__" := by decide) (hdb : (x == ("__debug__" : Str)) = false := by decide) (he : starEach (e :: es) X.env = (false, eval e X.env) :: starEach es X.env := by exact star_of rfl) (hpl : (backTo pos (starEach es X.env)).any (·.1) = false := by rfl) :
    QE X (.Call (.Name x p) (e :: es) [] pos) (cCall f ts) := ⟨fun B σ F H env Q rp h => wE_of (pe_callTy hc hg hm hv pa_w hn hdb he hpl) (args3 hf ha rp h)⟩
end
end L2.L3
set_option Elab.async false
set_option linter.all false
set_option maxRecDepth 100000
set_option maxHeartbeats 4000000
namespace L2.L3
open PySem PySem.Spec PyProof.Rows
theorem boot_abs' : bootBuiltins "abs" = some (.builtin "abs") := by decide +kernel
theorem boot_max' : bootBuiltins "max" = some (.builtin "max") := by decide +kernel
theorem boot_min' : bootBuiltins "min" = some (.builtin "min") := by decide +kernel
theorem boot_isi' : bootBuiltins "isinstance" = some (.builtin "isinstance") := by decide +kernel
theorem boot_len' : bootBuiltins "len" = some (.builtin "len") := by decide +kernel
theorem boot_int' : bootBuiltins "int" = some (.type "int") := by decide +kernel
theorem boot_str' : bootBuiltins "str" = some (.type "str") := by decide +kernel
theorem boot_list' : bootBuiltins "list" = some (.type "list") := by decide +kernel
theorem boot_tuple' : bootBuiltins "tuple" = some (.type "tuple") := by decide +kernel
section
variable {X : Cx} {a b c e : Expr} {es : List Expr} {ta tb tc : TD} {tA tB' : TB} {ts : TDs} {pos : Pos} {rest : List Expr}
def absF (ds : List D) (Q : D → Prop) : Prop := match ds with
  | [.int i] => Q (.int (if i < 0 then -i else i))
  | _ => False
theorem c3_abs : Call3 X (fun xs H Q => ∃ i, xs = [.int i] ∧ Q (.int (if i < 0 then -i else i)) H) absF := by
  intro B σ F H env Q ds vs Z rp h hz hf
  unfold absF at hf
  split at hf
  · simp only [DenL, Den] at h
    obtain ⟨v, r, rfl, rfl, rfl⟩ := h
    exact ⟨_, rfl, hz _ _ F _ rp (Same.refl _) den_int hf⟩
  · exact hf.elim
def lenF (ds : List D) (Q : D → Prop) : Prop := match ds with
  | [.lst xs] => Q (.int xs.length)
  | [.tup xs] => Q (.int xs.length)
  | [.str z] => z.length ≤ sizeLine ∧ Q (.int z.length)
  | _ => False
theorem c3_len : Call3 X (fun xs H Q => (∃ p ys, xs = [.ref p] ∧ (SqL X.K H p ys ∨ SqT X.K H p ys) ∧ Q (.int ys.length) H) ∨ ∃ z, xs = [.str z] ∧ z.length ≤ sizeLine ∧ Q (.int z.length) H) lenF := by
  intro B σ F H env Q ds vs Z rp h hz hf
  unfold lenF at hf
  split at hf
  · simp only [DenL, Den] at h
    obtain ⟨v, r, rfl, ⟨p, ys, rfl, q, r⟩, rfl⟩ := h
    refine .inl ⟨p, ys, rfl, .inl (rp.fh.seq q), hz _ _ F _ rp (Same.refl _) den_int ?_⟩
    rw [← r.length]; exact hf
  · simp only [DenL, Den] at h
    obtain ⟨v, r, rfl, ⟨p, ys, rfl, q, r⟩, rfl⟩ := h
    refine .inl ⟨p, ys, rfl, .inr (Same.seqT rp.fh q), hz _ _ F _ rp (Same.refl _) den_int ?_⟩
    rw [← r.length]; exact hf
  · simp only [DenL, Den] at h
    obtain ⟨v, r, rfl, rfl, rfl⟩ := h
    exact .inr ⟨_, rfl, hf.1, hz _ _ F _ rp (Same.refl _) den_int hf.2⟩
  · exact hf.elim
def maxF (ds : List D) (Q : D → Prop) : Prop := match ds with
  | [.int i, .int j] => Q (.int (if j > i then j else i))
  | _ => False
def minF (ds : List D) (Q : D → Prop) : Prop := match ds with
  | [.int i, .int j] => Q (.int (if j < i then j else i))
  | _ => False
theorem c3_max : Call3 X (fun xs H Q => ∃ i j, xs = [.int i, .int j] ∧ Q (.int (if j > i then j else i)) H) maxF := by
  intro B σ F H env Q ds vs Z rp h hz hf
  unfold maxF at hf
  split at hf
  · simp only [DenL, Den] at h
    obtain ⟨v, r, rfl, rfl, v', r', rfl, rfl, rfl⟩ := h
    exact ⟨_, _, rfl, hz _ _ F _ rp (Same.refl _) den_int hf⟩
  · exact hf.elim
theorem c3_min : Call3 X (fun xs H Q => ∃ i j, xs = [.int i, .int j] ∧ Q (.int (if j < i then j else i)) H) minF := by
  intro B σ F H env Q ds vs Z rp h hz hf
  unfold minF at hf
  split at hf
  · simp only [DenL, Den] at h
    obtain ⟨v, r, rfl, rfl, v', r', rfl, rfl, rfl⟩ := h
    exact ⟨_, _, rfl, hz _ _ F _ rp (Same.refl _) den_int hf⟩
  · exact hf.elim
def intF (ds : List D) (Q : D → Prop) : Prop := match ds with
  | [.int i] => Q (.int i)
  | [.bl k] => Q (.int (if k then 1 else 0))
  | _ => False
theorem c3_int : Call3 X (fun xs H Q => (∃ i, xs = [.int i] ∧ Q (.int i) H) ∨ ∃ k, xs = [.bl k] ∧ Q (.int (if k then 1 else 0)) H) intF := by
  intro B σ F H env Q ds vs Z rp h hz hf
  unfold intF at hf
  split at hf
  · simp only [DenL, Den] at h
    obtain ⟨v, r, rfl, rfl, rfl⟩ := h
    exact .inl ⟨_, rfl, hz _ _ F _ rp (Same.refl _) den_int hf⟩
  · simp only [DenL, Den] at h
    obtain ⟨v, r, rfl, rfl, rfl⟩ := h
    exact .inr ⟨_, rfl, hz _ _ F _ rp (Same.refl _) den_int hf⟩
  · exact hf.elim
def listF (ds : List D) (Q : D → Prop) : Prop := match ds with
  | [.lst xs] => Q (.lst xs)
  | [.tup xs] => Q (.lst xs)
  | _ => False
theorem c3_list : Call3 X (fun xs H Q => ∃ p ys, xs = [.ref p] ∧ (SqL X.K H p ys ∨ SqT X.K H p ys) ∧ ∀ l, H l = none → Q (.ref l) (upd H l (.lst ys))) listF := by
  intro B σ F H env Q ds vs Z rp h hz hf
  unfold listF at hf
  split at hf
  · simp only [DenL, Den] at h
    obtain ⟨v, r, rfl, ⟨p, ys, rfl, q, r⟩, rfl⟩ := h
    refine ⟨p, ys, rfl, .inl (rp.fh.seq q), fun w hw => ?_⟩
    obtain ⟨r2, s2⟩ := rp.laid (o := .lst ys) hw
    exact hz _ _ _ _ r2 s2 (den_lst (SqL.of upd_same) (DenL.mono s2 _ _ r)) hf
  · simp only [DenL, Den] at h
    obtain ⟨v, r, rfl, ⟨p, ys, rfl, q, r⟩, rfl⟩ := h
    refine ⟨p, ys, rfl, .inr (Same.seqT rp.fh q), fun w hw => ?_⟩
    obtain ⟨r2, s2⟩ := rp.laid (o := .lst ys) hw
    exact hz _ _ _ _ r2 s2 (den_lst (SqL.of upd_same) (DenL.mono s2 _ _ r)) hf
  · exact hf.elim
def tupleF (ds : List D) (Q : D → Prop) : Prop := match ds with
  | [.lst xs] => Q (.tup xs)
  | [.tup xs] => Q (.tup xs)
  | _ => False
theorem c3_tuple : Call3 X (fun xs H Q => ∃ p ys, xs = [.ref p] ∧ ((SqL X.K H p ys ∧ ∀ l, H l = none → Q (.ref l) (upd H l (.tup ys))) ∨ (SqT X.K H p ys ∧ Q (.ref p) H))) tupleF := by
  intro B σ F H env Q ds vs Z rp h hz hf
  unfold tupleF at hf
  split at hf
  · simp only [DenL, Den] at h
    obtain ⟨v, r, rfl, ⟨p, ys, rfl, q, r⟩, rfl⟩ := h
    refine ⟨p, ys, rfl, .inl ⟨rp.fh.seq q, fun w hw => ?_⟩⟩
    obtain ⟨r2, s2⟩ := rp.laid (o := .tup ys) hw
    exact hz _ _ _ _ r2 s2 (den_tup (SqT.of upd_same) (DenL.mono s2 _ _ r)) hf
  · simp only [DenL, Den] at h
    obtain ⟨v, r, rfl, ⟨p, ys, rfl, q, r⟩, rfl⟩ := h
    exact ⟨p, ys, rfl, .inr ⟨Same.seqT rp.fh q, hz _ _ F _ rp (Same.refl _) (den_tup q r) hf⟩⟩
  · exact hf.elim
def TyV (K : PySem.W.Frag) (H : Hp) (x : V) (t : String) : Prop := match x with
  | .non => t = "NoneType"
  | .bl _ => t = "bool"
  | .int _ => t = "int"
  | .str _ => t = "str"
  | .ref a => (t = "tuple" ∧ ∃ vs, SqT K H a vs) ∨ (t = "list" ∧ ∃ vs, SqL K H a vs)
  | _ => False
theorem call_isi : CallR X (.builtin "isinstance") (fun xs H Q => ∃ x n t b, xs = [x, .ty n] ∧ TyV X.K H x t ∧ PySem.W.kitOne X.K (.type t) (.type n) = some b ∧ Q (.bl b) H) := by
  intro pins s σ H xs us Q I r h
  obtain ⟨x, n, t, b, rfl, ty, e, q⟩ := h
  obtain ⟨u, w, rfl, rx, rw'⟩ := vals2 r
  cases (show w = Value.type n from rw')
  have fin : ∀ tk, EP X pins σ Q (.bool b) { s with toks := tk } := fun tk => ⟨.bl b, H, I.tok tk, rfl, q⟩
  cases x with
  | non => cases (show t = "NoneType" from ty); cases (show u = Value.none from rx); exact PySem.W.kia_one PySem.W.kitx_none I.kIn True.intro e (fun z => nomatch z) fin
  | bl y => cases (show t = "bool" from ty); cases (show u = Value.bool y from rx); exact PySem.W.kia_one PySem.W.kitx_bool I.kIn True.intro e (fun z => nomatch z) fin
  | int i => cases (show t = "int" from ty); obtain ⟨t, q⟩ := (show ∃ t, u = Value.int i t from rx); cases q; exact PySem.W.kia_one PySem.W.kitx_int I.kIn True.intro e (fun z => nomatch z) fin
  | str i => cases (show t = "str" from ty); obtain ⟨t, q⟩ := (show ∃ t, u = Value.str i t from rx); cases q; exact PySem.W.kia_one PySem.W.kitx_str I.kIn True.intro e (fun z => nomatch z) fin
  | ref a =>
    cases (show u = Value.ref a from rx)
    rcases ty with ⟨rfl, vs, hq⟩ | ⟨rfl, vs, hq⟩
    · obtain ⟨_, _, ⟨o, h1, h2, _⟩, _⟩ := I.tuple hq
      exact PySem.W.kia_one PySem.W.kitx_tuple I.kIn ⟨o, h1, h2⟩ e (fun z => nomatch z) fin
    · obtain ⟨_, _, ⟨o, n, h1, h2, _⟩, _⟩ := I.list hq
      exact PySem.W.kia_one PySem.W.kitx_list I.kIn ⟨o, h1, h2⟩ e (fun z => nomatch z) fin
  | _ => exact False.elim ty
inductive Kd where | non | bl | int | str | tup | lst | oth
def kdD : D → Kd
  | .non => .non
  | .bl _ => .bl
  | .int _ => .int
  | .str _ => .str
  | .tup _ => .tup
  | .lst _ => .lst
  | _ => .oth
def isiK : Kd → String → Option Bool
  | .oth, _ => none
  | k, "int" => some (match k with | .int => true | .bl => true | _ => false)
  | k, "bool" => some (match k with | .bl => true | _ => false)
  | k, "str" => some (match k with | .str => true | _ => false)
  | k, "tuple" => some (match k with | .tup => true | _ => false)
  | k, "list" => some (match k with | .lst => true | _ => false)
  | _, _ => none
def isiF (ds : List D) (Q : D → Prop) : Prop := match ds with
  | [x, .ty n] => ∃ b, isiK (kdD x) n = some b ∧ Q (.bl b)
  | _ => False
theorem kit_isi (K : PySem.W.Frag) (k : Kd) (n t : String) (b : Bool) (h : isiK k n = some b)
    (ht : t = match k with | .non => "NoneType" | .bl => "bool" | .int => "int" | .str => "str" | .tup => "tuple" | .lst => "list" | .oth => "type") : PySem.W.kitOne K (.type t) (.type n) = some b := by
  subst ht
  unfold isiK at h
  split at h
  · cases h
  all_goals (cases k <;> simp at h <;> subst h <;> rfl)
theorem c3_isi : Call3 X (fun xs H Q => ∃ x n t b, xs = [x, .ty n] ∧ TyV X.K H x t ∧ PySem.W.kitOne X.K (.type t) (.type n) = some b ∧ Q (.bl b) H) isiF := by
  intro B σ F H env Q ds vs Z rp h hz hf
  unfold isiF at hf
  split at hf
  · rename_i x n
    obtain ⟨b, hb, q⟩ := hf
    simp only [DenL] at h
    obtain ⟨v, r, rfl, hd, v', r', rfl, hd', rfl⟩ := h
    simp only [Den] at hd'
    subst hd'
    have fin := hz (.bl b) H F (.bl b) rp (Same.refl _) den_bl q
    cases x with
    | non => simp only [Den] at hd; subst hd; exact ⟨_, n, "NoneType", b, rfl, rfl, kit_isi _ _ _ _ _ hb rfl, fin⟩
    | bl k => simp only [Den] at hd; subst hd; exact ⟨_, n, "bool", b, rfl, rfl, kit_isi _ _ _ _ _ hb rfl, fin⟩
    | int k => simp only [Den] at hd; subst hd; exact ⟨_, n, "int", b, rfl, rfl, kit_isi _ _ _ _ _ hb rfl, fin⟩
    | str k => simp only [Den] at hd; subst hd; exact ⟨_, n, "str", b, rfl, rfl, kit_isi _ _ _ _ _ hb rfl, fin⟩
    | tup k => simp only [Den] at hd; obtain ⟨p, vs, rfl, q', r⟩ := hd; exact ⟨_, n, "tuple", b, rfl, .inl ⟨rfl, vs, Same.seqT rp.fh q'⟩, kit_isi _ _ _ _ _ hb rfl, fin⟩
    | lst k => simp only [Den] at hd; obtain ⟨p, vs, rfl, q', r⟩ := hd; exact ⟨_, n, "list", b, rfl, .inr ⟨rfl, vs, rp.fh.seq q'⟩, kit_isi _ _ _ _ _ hb rfl, fin⟩
    | dct k _ => cases hb
    | obj k => cases hb
    | ty k => cases hb
    | exc k => cases hb
    | cls k => cases hb
  · exact hf.elim
end
end L2.L3
set_option Elab.async false
set_option linter.all false
set_option maxRecDepth 100000
set_option maxHeartbeats 4000000
namespace L2.L3
open PySem PySem.Spec PyProof.Rows
section
variable {K : PySem.W.Frag} {B : Base} {F H : Hp} {σ : St} {env : En}
theorem Rep.bare (r : Rep K B F H σ env) : Rep K B F H [] [] :=
  ⟨r.f0, r.fh, r.h0, r.nf, fun i x q => by simp at q, fun i x q => by simp at q, fun i j _ _ _ _ q => by simp at q, fun i x q => by simp at q, fun i j _ _ _ _ q => by simp at q⟩
end
section
variable {X : Cx} {a b c e : Expr} {es : List Expr} {ta tb tc : TD} {tA tB' : TB} {ts : TDs} {pos : Pos} {rest : List Expr} {st : Stmt} {sts : List Stmt} {t u : TS3}
def dNext : TS3 := fun D env => D.nx env
def dSeq (t u : TS3) : TS3 := fun D env => t { D with nx := u D } env
theorem qss_nil : QSs X [] dNext := ⟨fun B σ F H env D rp h => wSs_of pss_nil ⟨F, env, rp, h⟩⟩
theorem qss_one (h1 : QS X st t) : QSs X [st] t := ⟨fun B σ F H env D rp h => wSs_of (pss_one ps_w) (h1 B σ F H env D rp h)⟩
theorem qss_cons (h1 : QS X st t) (h2 : QSs X sts u) : QSs X (st :: sts) (dSeq t u) := by
  refine ⟨?_⟩
  intro B σ F H env D rp h
  refine wSs_of (pss_cons ps_w pss_w) ?_
  exact wS_mono (h1 B σ F H env _ rp h) (fun σ' H' ⟨F', env', rp', q⟩ => h2 B σ' F' H' env' D rp' q) (fun _ _ q => q) (fun _ _ q => q) (fun _ _ q => q)
def dBreak : TS3 := fun D env => D.bk env
def dCont : TS3 := fun D env => D.ct env
def dRet (te : TD) : TS3 := fun D env => te env D.rt
theorem qs_ret (he : QE X e ta) : QS X (.Return (some e) pos) (dRet ta) := by
  refine ⟨?_⟩
  intro B σ F H env D rp h
  refine wS_of (ps_ret pe_w) ?_
  exact wE_mono (he B σ F H env _ rp h) fun v H' ⟨F', d, r', s', hd, q⟩ => ⟨F', d, r'.bare, hd, q⟩
def dRetN : TS3 := fun D _ => D.rt .non
def dIf (c : TB) (t u : TS3) : TS3 := fun D env => c env fun k => if k = true then t D env else u D env
theorem qs_if {xs ys : List Stmt} (hc : QT X c tA) (ha : QSs X xs t) (hb : QSs X ys u) : QS X (.If c xs ys pos) (dIf tA t u) := by
  refine ⟨?_⟩
  intro B σ F H env D rp h
  refine wS_of (ps_if pt_w pss_w pss_w) ?_
  refine wT_mono (hc B σ F H env _ rp h) fun k H1 ⟨F1, r1, s1, q1⟩ => ?_
  cases k with
  | true => exact ha B σ F1 H1 env D r1 q1
  | false => exact hb B σ F1 H1 env D r1 q1
def dNever : TS3 := fun _ _ => False
abbrev TG3 := D → En → (En → Prop) → Prop
abbrev TGs3 := List D → En → (En → Prop) → Prop
def wG (X : Cx) (tg : Expr) : TG := fun v σ H Q => ∀ (pins : List (Addr × Obj)) (s : Shared) (u : Value), Inv X pins σ H s → RelV v u →
  wpAny (model X.prog X.w) X.A (assign tg X.env u) (fun _ s' => ∃ σ' H', Inv X pins σ' H' s' ∧ Q σ' H') X.xe s
def wGs (X : Cx) (tg : List Expr) : TGs := fun vs σ H Q => ∀ (pins : List (Addr × Obj)) (s : Shared) (us : List Value), Inv X pins σ H s → Vals vs us →
  wpAny (model X.prog X.w) X.A (assignInOrder ((assignEach tg X.env).map (·.2)) us) (fun _ s' => ∃ σ' H', Inv X pins σ' H' s' ∧ Q σ' H') X.xe s
theorem pg_w {tg : Expr} : PG X tg (wG X tg) := fun pins s σ H v u Q I r h => h pins s u I r
theorem wG_mono {tg : Expr} {v : V} {σ : St} {H : Hp} {Q Q' : St → Hp → Prop} (h : wG X tg v σ H Q) (i : ∀ σ H, Q σ H → Q' σ H) : wG X tg v σ H Q' := fun pins s u I r => thn (h pins s u I r) fun _ _ ⟨σ', H', I', q⟩ => ⟨σ', H', I', i _ _ q⟩
inductive RGk (K : PySem.W.Frag) (B : Base) (F : Hp) (Q : En → Prop) (σ' : St) (H' : Hp) : Prop
  | mk (F' : Hp) (env' : En) (r : Rep K B F' H' σ' env') (z : Same F F') (q : Q env')
abbrev RG (X : Cx) (B : Base) (F : Hp) (Q : En → Prop) (σ' : St) (H' : Hp) : Prop := RGk X.K B F Q σ' H'
structure QG (X : Cx) (tg : Expr) (g : TG3) : Prop where
  of ::
  run : ∀ (B : Base) (σ : St) (F H : Hp) (env : En) (Q : En → Prop) (d : D) (v : V), Rep X.K B F H σ env → Den X.K F d v → g d env Q → wG X tg v σ H (RG X B F Q)
instance {X : Cx} {tg : Expr} {g : TG3} : CoeFun (QG X tg g) (fun _ => ∀ (B : Base) (σ : St) (F H : Hp) (env : En) (Q : En → Prop) (d : D) (v : V), Rep X.K B F H σ env → Den X.K F d v → g d env Q → wG X tg v σ H (RG X B F Q)) := ⟨QG.run⟩
structure QGs (X : Cx) (tg : List Expr) (g : TGs3) : Prop where
  of ::
  run : ∀ (B : Base) (σ : St) (F H : Hp) (env : En) (Q : En → Prop) (ds : List D) (vs : List V), Rep X.K B F H σ env → DenL X.K F ds vs → g ds env Q → wGs X tg vs σ H (RG X B F Q)
instance {X : Cx} {tg : List Expr} {g : TGs3} : CoeFun (QGs X tg g) (fun _ => ∀ (B : Base) (σ : St) (F H : Hp) (env : En) (Q : En → Prop) (ds : List D) (vs : List V), Rep X.K B F H σ env → DenL X.K F ds vs → g ds env Q → wGs X tg vs σ H (RG X B F Q)) := ⟨QGs.run⟩
def kName (i : Nat) : TG3 := fun x env Q => Q (env.set i (some (.d x)))
theorem qg_name {x : Str} (i : Nat) (hN : X.N.Nodup) (hi : X.N[i]? = some x := by rfl) (hx : Loc X.env.scope x := by first | exact Or.inl rfl | exact Or.inr rfl) (hf : X.fn x = true ∨ X.env.scope.names.lookup x = some .local := by first | exact .inl rfl | exact .inr rfl) : QG X (.Name x pos) (kName i) := by
  refine ⟨?_⟩
  intro B σ F H env Q d v rp hd h pins s u I r
  refine pg_name (i := i) hN hi hx hf pins s σ H v u _ I r ?_
  refine ⟨F, _, rp.set hd ?_, Same.refl _, h⟩
  rw [I.len]; exact (List.getElem?_eq_some_iff.mp hi).1
def kNil : TGs3 := fun xs env Q => xs = [] ∧ Q env
def kCons (g : TG3) (gs : TGs3) : TGs3 := fun xs env Q => ∃ x r, xs = x :: r ∧ g x env fun env' => gs r env' Q
def kTup (n : Nat) (gs : TGs3) : TG3 := fun x env Q => ∃ xs, x = .tup xs ∧ xs.length = n ∧ gs xs env Q
def dAsg (te : TD) (g : TG3) : TS3 := fun D env => te env fun x => g x env D.nx
def dSet (i : Nat) (te : TD) : TS3 := fun D env => te env fun x => D.nx (env.set i (some (.d x)))
theorem qs_set {x : Str} {pos' : Pos} (i : Nat) (hN : X.N.Nodup) (he : QE X e ta) (hi : X.N[i]? = some x := by rfl) (hx : Loc X.env.scope x := by first | exact Or.inl rfl | exact Or.inr rfl) (hs : swapsWith e (some (.Name x pos')) pos.line X.env = pure false := by rfl)
    (hf : X.fn x = true ∨ X.env.scope.names.lookup x = some .local := by first | exact .inl rfl | exact .inr rfl) : QS X (.Assign [.Name x pos'] e pos) (dSet i ta) := by
  refine ⟨?_⟩
  intro B σ F H env D rp h pins s I
  refine ps_set (i := i) hN hi hx pe_w hs hf pins s σ H _ I ?_
  refine wE_mono (he B σ F H env _ rp h) fun v H1 ⟨F1, d, r1, s1, d1, q1⟩ => ⟨F1, _, r1.set d1 ?_, q1⟩
  rw [I.len]; exact (List.getElem?_eq_some_iff.mp hi).1
def dPar (i j : Nat) (ts : TDs) : TS3 := fun D env => ts env fun xs => ∃ x y, xs = [x, y] ∧ D.nx ((env.set i (some (.d x))).set j (some (.d y)))
def turns (g : TG3) (tb : TS3) (Z : Ends3) : List D → En → Prop
  | [], env => Z.nx env
  | x :: xs, env => g x env fun env' => tb { Z with nx := turns g tb Z xs, ct := turns g tb Z xs, bk := Z.nx } env'
def signsD (z : Str) : List D := z.cps.toList.map fun c => .str ⟨#[c]⟩
def itemsD : D → Option (List D)
  | .lst xs => some xs
  | .tup xs => some xs
  | .str z => some (signsD z)
  | _ => none
def dFor (te : TD) (g : TG3) (tb : TS3) : TS3 := fun D env => te env fun x => ∃ xs, itemsD x = some xs ∧ turns g tb D xs env
theorem drop_cons {α : Type} {xs : List α} {i : Nat} {x : α} (h : xs[i]? = some x) : xs.drop i = x :: xs.drop (i + 1) := by
  obtain ⟨hl, e⟩ := List.getElem?_eq_some_iff.mp h
  rw [List.drop_eq_getElem_cons hl, e]
theorem RS.same {B : Base} {G : Hp} {D : Ends3} (s : Same B.F G) : (∀ σ H, (RS X ⟨G, B.H, B.N, B.nb⟩ D).nx σ H → (RS X B D).nx σ H) ∧ (∀ v H, (RS X ⟨G, B.H, B.N, B.nb⟩ D).rt v H → (RS X B D).rt v H) ∧
    (∀ σ H, (RS X ⟨G, B.H, B.N, B.nb⟩ D).bk σ H → (RS X B D).bk σ H) ∧ (∀ σ H, (RS X ⟨G, B.H, B.N, B.nb⟩ D).ct σ H → (RS X B D).ct σ H) :=
  ⟨fun _ _ ⟨F', env', r, q⟩ => ⟨F', env', r.back s, q⟩, fun _ _ ⟨F', d, r, hd, q⟩ => ⟨F', d, r.back s, hd, q⟩, fun _ _ ⟨F', env', r, q⟩ => ⟨F', env', r.back s, q⟩, fun _ _ ⟨F', env', r, q⟩ => ⟨F', env', r.back s, q⟩⟩
def intsD (lo : Int) (n : Nat) : List D := (List.range n).map fun (i : Nat) => D.int (lo + (i : Int))
def dForR (f : List D → (Int → Nat → Prop) → Prop) (ts : TDs) (g : TG3) (tb : TS3) : TS3 := fun D env => ts env fun xs => f xs fun lo n => turns g tb D (intsD lo n) env
def rng1 (xs : List D) (Q : Int → Nat → Prop) : Prop := match xs with
  | [.int j] => (-(2 ^ 62) ≤ j ∧ j < 2 ^ 62) ∧ Q 0 j.toNat
  | _ => False
def rng2 (xs : List D) (Q : Int → Nat → Prop) : Prop := match xs with
  | [.int i, .int j] => (-(2 ^ 62) ≤ i ∧ i < 2 ^ 62 ∧ -(2 ^ 62) ≤ j ∧ j < 2 ^ 62) ∧ Q i (j - i).toNat
  | _ => False
theorem for_ints {tg : Expr} {body : List Stmt} {g : TG3} (hg : QG X tg g) (hb : QSs X body t) {B : Base} {D : Ends3} {lo : Int} {n : Nat} {σ : St} {F1 H1 : Hp} {env : En} (r1 : Rep X.K B F1 H1 σ env) (q1 : turns g t D (intsD lo n) env) :
    ∃ W : Nat → Nat → St → Hp → Prop, (∃ m, W 0 m σ H1) ∧ ∀ i m σ H, W i m σ H → ((Itr lo n).stop i H ∧ (RS X B D).nx σ H) ∨ ((Itr lo n).go i H ∧ ∃ N : St → Hp → Prop, (∀ σ' H', N σ' H' → ∃ m', m' < m ∧ W (i + 1) m' σ' H') ∧
        ∀ x H', (Itr lo n).yld i H x H' → wG X tg x σ H' fun σ2 H2 => wSs X body { RS X B D with nx := N, ct := N, bk := (RS X B D).nx } σ2 H2) := by
  have hl : (intsD lo n).length = n := by simp [intsD]
  refine ⟨fun i m σ H => m = n - i ∧ i ≤ n ∧ ∃ F env, Rep X.K B F H σ env ∧ turns g t D ((intsD lo n).drop i) env, ⟨n, by simp, Nat.zero_le _, F1, env, r1, by simpa using q1⟩, ?_⟩
  rintro i m σ2 H2 ⟨rfl, hi2, F2, env2, r2, q2⟩
  by_cases hlt : i < n
  · have hdx : (intsD lo n)[i]? = some (L3.D.int (lo + (i : Int))) := by simp [intsD, hlt]
    rw [drop_cons hdx] at q2
    refine .inr ⟨hlt, RN X B (fun env => turns g t D ((intsD lo n).drop (i + 1)) env), fun σ' H' ⟨F', env', r', q'⟩ => ⟨n - (i + 1), by omega, rfl, by omega, F', env', r', q'⟩, fun y H' hy => ?_⟩
    obtain ⟨rfl, rfl⟩ := hy
    refine wG_mono (hg B σ2 F2 _ env2 _ _ _ r2 den_int q2) fun σ3 H3 hq0 => ?_
    obtain ⟨F3, env3, r3, s3, q3⟩ := hq0
    exact wSs_mono (hb B σ3 F3 H3 env3 _ r3 q3) (fun _ _ q => q) (fun _ _ q => q) (fun _ _ q => q) (fun _ _ q => q)
  · have e : i = n := by omega
    subst e
    rw [List.drop_eq_nil_of_le (by omega)] at q2
    exact .inl ⟨Nat.le_refl _, F2, env2, r2, q2⟩
theorem qs_forR1 {tg : Expr} {body : List Stmt} {g : TG3} {p : Pos} {pos2 : Pos} (hp : PassesOwn (model X.prog X.w) X.A X.env X.xe) (hc : X.calm = true) (hgl : Gl X "range") (hm : X.mg "range" = none) (ha : QA X [a] ts) (hg : QG X tg g) (hb : QSs X body t)
    (hst : starEach [a] X.env = [(false, eval a X.env)] := by rfl) (hs : ∀ x, foldedSetIterable (.Call (.Name "range" p) [a] [] pos2) X.env x = pure x := by intro _; rfl) : QS X (.For tg (.Call (.Name "range" p) [a] [] pos2) body [] pos) (dForR rng1 ts g t) := by
  refine ⟨?_⟩
  intro B σ F H env D rp h
  refine wS_of (ps_for hp hc (pi_range1 hgl hm pa_w hst) pg_w pss_w hs) ?_
  refine wA_mono (ha B σ F H env _ rp h) fun vs H1 hq0 => ?_
  obtain ⟨F1, ds, r1, s1, d1, q1⟩ := hq0
  (try dsimp only at q1); unfold rng1 at q1
  split at q1
  · simp only [DenL, Den] at d1
    obtain ⟨v, r, rfl, rfl, rfl⟩ := d1
    exact ⟨_, rfl, q1.1.1, q1.1.2, for_ints hg hb r1 q1.2⟩
  · exact q1.elim
inductive RFk (K : PySem.W.Frag) (B : Base) (σ : St) (env : En) (F : Hp) (Q : List D → Prop) (v : V) (H' : Hp) : Prop
  | mk (F' H1 : Hp) (p : Addr) (vs : List V) (ds : List D) (ev : v = .ref p) (no : H1 p = none) (eh : H' = upd H1 p (.lst vs)) (r : Rep K B F' H1 σ env) (z : Same F F') (e : DenL K F' ds vs) (q : Q ds)
abbrev RF (X : Cx) (B : Base) (σ : St) (env : En) (F : Hp) (Q : List D → Prop) (v : V) (H' : Hp) : Prop := RFk X.K B σ env F Q v H'
structure QF (X : Cx) (e : Expr) (t : TDs) : Prop where
  of ::
  run : ∀ (B : Base) (σ : St) (F H : Hp) (env : En) (Q : List D → Prop), Rep X.K B F H σ env → t env Q → wE X e σ H (RF X B σ env F Q)
instance {X : Cx} {e : Expr} {t : TDs} : CoeFun (QF X e t) (fun _ => ∀ (B : Base) (σ : St) (F H : Hp) (env : En) (Q : List D → Prop), Rep X.K B F H σ env → t env Q → wE X e σ H (RF X B σ env F Q)) := ⟨QF.run⟩
def cFew (ts : TDs) : TDs := fun env Q => ts env fun xs => xs.length ≤ sizeLine ∧ Q xs
theorem qf_lst (h : QA X es ts) : QF X (.List es pos) (cFew ts) := by
  refine ⟨?_⟩
  intro B σ F H env Q rp hq
  refine wE_of (pe_lst pa_w) ?_
  exact wA_mono (h B σ F H env _ rp hq) fun vs H1 ⟨F1, ds, r1, s1, d1, z, q1⟩ => ⟨by rw [← d1.length]; exact z, fun p hp => ⟨F1, H1, p, vs, ds, rfl, hp, rfl, r1, s1, d1, q1⟩⟩
def dSetOwn (i : Nat) (ts : TDs) : TS3 := fun D env => ts env fun xs => D.nx (env.set i (some (.own xs)))
theorem qs_setOwn {x : Str} {pos' : Pos} (i : Nat) (hN : X.N.Nodup) (he : QF X e ts) (hi : X.N[i]? = some x := by rfl) (hx : Loc X.env.scope x := by first | exact Or.inl rfl | exact Or.inr rfl) (hs : swapsWith e (some (.Name x pos')) pos.line X.env = pure false := by rfl)
    (hf : X.fn x = true ∨ X.env.scope.names.lookup x = some .local := by first | exact .inl rfl | exact .inr rfl) : QS X (.Assign [.Name x pos'] e pos) (dSetOwn i ts) := by
  refine ⟨?_⟩
  intro B σ F H env D rp h pins s I
  refine ps_set (i := i) hN hi hx pe_w hs hf pins s σ H _ I ?_
  refine wE_mono (he B σ F H env _ rp h) fun v H' hq0 => ?_
  obtain ⟨F1, H1, p, vs, ds, e1, hp, e2, r1, s1, d1, q1⟩ := hq0
  subst e1 e2
  refine ⟨F1, _, r1.setOwn hp d1 ?_, q1⟩
  rw [I.len]; exact (List.getElem?_eq_some_iff.mp hi).1
def dAppend (i : Nat) (te : TD) : TS3 := fun D env => ∃ xs, env[i]? = some (some (.own xs)) ∧ xs.length < sizeLine ∧ te env fun x => D.nx (env.set i (some (.own (xs ++ [x]))))
theorem qs_append {x : Str} {px apos cpos : Pos} (i : Nat) (he : QE X e ta) (hN : X.N[i]? = some x := by rfl) (hv : Vis X.env.scope x := by first | exact Or.inl rfl | exact Or.inr (Or.inl rfl) | exact Or.inr (Or.inr rfl)) (hd : (x == ("__debug__" : Str)) = false := by decide) (hcd : (x == ("__classdict__" : Str)) = false := by decide)
    (hbase : attributeBase (.Name x px) "append" X.env (eval (.Name x px) X.env) = eval (.Name x px) X.env := by rfl)
    (hfew : ((backTo cpos (starEach [e] X.env)).all (fun x => !x.1) && (backToKw cpos (keywordEach [] X.env)).all (fun x => x.1.isSome)
      && decide (([e] : List Expr).length + ([] : List Keyword).length + (if ([] : List Keyword).isEmpty then 0 else 1) < 30)) = true := by rfl)
    (hline : (apos.endLine == cpos.line) = true := by rfl) (hst : starEach [e] X.env = (false, eval e X.env) :: starEach [] X.env := by exact star_of rfl) (hplain : (backTo cpos (starEach ([] : List Expr) X.env)).any (·.1) = false := by rfl)
    (hs : swapsWith (.Call (.Attribute (.Name x px) "append" apos) [e] [] cpos) none pos.line X.env = pure false := by rfl) :
    QS X (.Expr (.Call (.Attribute (.Name x px) "append" apos) [e] [] cpos) pos) (dAppend i ta) := by
  refine ⟨?_⟩
  intro B σ F H env D rp h
  refine wS_of (ps_expr (pe_bm PySem.F.plainAttrs_list PySem.F.slot_list_append PySem.F.type_list_append mt_append (pe_var hN hv hd hcd) (pa_cons pe_w pa_nil hst) hbase hfew hline hst hplain) hs) ?_
  obtain ⟨xs, hx, hl, h⟩ := h
  obtain ⟨p, vs, h1, h2, h3, h4, h5⟩ := rp.ov i xs hx
  refine ⟨.ref p, h1, .inl ⟨rfl, vs, SqL.of h2⟩, ?_⟩
  refine wE_mono (he B σ F H env _ rp h) fun y H1 hq0 => ?_
  obtain ⟨F1, d, r1, s1, d1, q1⟩ := hq0
  obtain ⟨p', vs', g1, g2, g3, g4, g5⟩ := r1.ov i xs hx
  rw [h1] at g1; cases g1
  exact ⟨p, vs', y, rfl, rfl, g2, by rw [← g5.length]; exact hl, F1, _, r1.change hx h1 (g5.append (denL_cons d1 denL_nil)), q1⟩
end
end L2.L3
set_option Elab.async false
set_option linter.all false
set_option maxRecDepth 100000
set_option maxHeartbeats 4000000
namespace L2.L3
open PySem PySem.Spec PyProof.Rows
abbrev Fw := List D → (D → Prop) → Prop
def spF (K : PySem.W.Frag) (f : Fw) : Sp := fun vs H Q _ => ∃ (F : Hp) (ds : List D) (P : D → Prop), Same F H ∧ DenL K F ds vs ∧ f ds P ∧
  ∀ (d : D) (v : V) (F' H' : Hp), Same F F' → Same H H' → Same F' H' → (∀ p, H p ≠ none → F p = none → F' p = none) → Den K F' d v → P d → Q v H'
structure Known (P : Program) (w : World) (K : PySem.W.Frag) (mg : Str → Option Value) (base : Heap) (k : Nat) (x : Str) (f : Fw) : Prop where
  ex : ∃ (fa : Addr) (fd : FuncData) (ps : List Str), FnOk P w K mg base CX0 k fa fd ps (spF K f) ∧ mg x = some (.ref fa) ∧ PySem.W.keepIn K (.ref fa) = true ∧ Binds K fd ps []
def start3 (N : List Str) (ds : List D) : En := ds.map (fun d => some (Lo.d d)) ++ List.replicate (N.length - ds.length) none
section
variable {X : Cx} {e : Expr} {es : List Expr} {ts : TDs} {p pos : Pos} {x : Str} {k : Nat} {f : Fw}
theorem q_call (h : Known X.prog X.w X.K X.mg X.base k x f) (hr : Room k X.A) (ha : QA X (e :: es) ts) (hg : Gl X x := by rfl) (hdb : (x == ("__debug__" : Str)) = false := by decide)
    (he : starEach (e :: es) X.env = (false, eval e X.env) :: starEach es X.env := by exact star_of rfl) (hpl : (backTo pos (starEach es X.env)).any (·.1) = false := by rfl) : QE X (.Call (.Name x p) (e :: es) [] pos) (cCall f ts) := by
  refine ⟨?_⟩
  intro B σ F H env Q rp hq
  obtain ⟨fa, fd, ps, G, hm, hk, hb⟩ := h.ex
  refine wE_of (pe_call G hr hg hm hk hb .nil pass0 pa_w hdb he hpl) ?_
  refine wA_mono (ha B σ F H env _ rp hq) fun vs H1 hq0 => ?_
  obtain ⟨F1, ds, r1, s1, d1, hf⟩ := hq0
  rw [List.append_nil]
  exact ⟨F1, ds, Q, r1.fh, d1, hf, fun d v F' H' a b c n hd q => ⟨F', d, r1.ext a c b n, s1.trans a, hd, q⟩⟩
end
theorem start3_rep {K : PySem.W.Frag} {F H : Hp} {N : List Str} {ds : List D} {vs : List V} (fh : Same F H) (hd : DenL K F ds vs) :
    Rep K ⟨F, H, fun p => H p ≠ none ∧ F p = none, fun _ h => h.1⟩ F H (start N vs) (start3 N ds) := by
  have noown : ∀ (i : Nat) ys, (start3 N ds)[i]? = some (some (.own ys)) → False := fun i ys q => by
    unfold start3 at q
    by_cases hi : i < ds.length
    · rw [List.getElem?_append_left (by simpa using hi), List.getElem?_map] at q
      rw [List.getElem?_eq_getElem hi] at q
      cases q
    · rw [List.getElem?_append_right (by simpa using hi), List.getElem?_replicate] at q
      split at q <;> cases q
  have nodic : ∀ (i : Nat) ys, (start3 N ds)[i]? = some (some (.dic ys)) → False := fun i ys q => by
    unfold start3 at q
    by_cases hi : i < ds.length
    · rw [List.getElem?_append_left (by simpa using hi), List.getElem?_map] at q
      rw [List.getElem?_eq_getElem hi] at q
      cases q
    · rw [List.getElem?_append_right (by simpa using hi), List.getElem?_replicate] at q
      split at q <;> cases q
  refine ⟨Same.refl _, fh, Same.refl _, fun p h => h.2, fun i x q => ?_, fun i ys q => (noown i ys q).elim, fun i j xs ys p _ q => (noown i xs q).elim, fun i ys q => (nodic i ys q).elim, fun i j xs ys p _ q => (nodic i xs q).elim⟩
  unfold start3 at q
  by_cases hi : i < ds.length
  · rw [List.getElem?_append_left (by simpa using hi), List.getElem?_map] at q
    rw [List.getElem?_eq_getElem hi] at q
    cases q
    obtain ⟨v, h1, h2⟩ := hd.get (List.getElem?_eq_getElem hi)
    refine ⟨v, ?_, h2⟩
    unfold start
    rw [List.getElem?_append_left (by rw [List.length_map, ← hd.length]; exact hi), List.getElem?_map, h1]
    rfl
  · rw [List.getElem?_append_right (by simpa using hi), List.getElem?_replicate] at q
    split at q <;> cases q
section
variable {P : Program} {w : World} {K : PySem.W.Frag} {mg : Str → Option Value} {base : Heap}
theorem Fun.fnok {x qual : Str} {st : Stmt} {fa : Addr} {fd : FuncData} {N ps : List Str} {k : Nat} {f : Fw} (F : Fun K x qual st fa fd) (S : FnScope N ps (defScope st))
    (hl : ∀ ds Q, f ds Q → ds.length = ps.length)
    (hbody : ∀ (cdv : Value) (A : Around) (outer : List Env) (s : Shared) (H : Hp) (E : XK), Room k (A.deeper (envOfC qual (defScope st) s.heap.objs.size fa cdv)) →
      ∃ t, QSs (cxOf CX0 P w K mg base N qual (defScope st) fa cdv A outer s H E).nox (defBody st) t ∧ ∀ ds (Q : D → Prop), f ds Q → t { nx := fun _ => Q .non, rt := Q } (start3 N ds)) :
    FnOk P w K mg base CX0 (k + 1) fa fd ps (spF K f) := by
  refine F.ok S (fun vs H Q E h => ?_) (fun cdv A outer s H vs Q E hr h => ?_)
  · obtain ⟨F0, ds, P, _, hd, hf, _⟩ := h
    rw [← hd.length]; exact hl ds _ hf
  · obtain ⟨F0, ds, P, fh, hd, hf, kk⟩ := h
    obtain ⟨t, ht, hq⟩ := hbody cdv A outer s H E hr
    refine ⟨_, pss_w, ?_⟩
    have core := ht _ (start N vs) F0 H (start3 N ds) _ (start3_rep fh hd) (hq ds P hf)
    refine wSs_mono core (fun σ' H' ⟨F', env', r, q⟩ => ?_) (fun v H' ⟨F', d', r, dd, q⟩ => ?_) (fun _ _ ⟨_, _, _, q⟩ => q) (fun _ _ ⟨_, _, _, q⟩ => q)
    · exact kk .non .non F' H' r.f0 r.h0 r.fh (fun p h1 h2 => r.nf p ⟨h1, h2⟩) den_non q
    · exact kk d' v F' H' r.f0 r.h0 r.fh (fun p h1 h2 => r.nf p ⟨h1, h2⟩) dd q
theorem Fun.known {x qual : Str} {st : Stmt} {fa : Addr} {fd : FuncData} {N ps : List Str} {k : Nat} {f : Fw} (F : Fun K x qual st fa fd) (S : FnScope N ps (defScope st)) (hmg : mg x = some (.ref fa)) (hb : Binds K fd ps [])
    (hl : ∀ ds Q, f ds Q → ds.length = ps.length)
    (hbody : ∀ (cdv : Value) (A : Around) (outer : List Env) (s : Shared) (H : Hp) (E : XK), Room k (A.deeper (envOfC qual (defScope st) s.heap.objs.size fa cdv)) →
      ∃ t, QSs (cxOf CX0 P w K mg base N qual (defScope st) fa cdv A outer s H E).nox (defBody st) t ∧ ∀ ds (Q : D → Prop), f ds Q → t { nx := fun _ => Q .non, rt := Q } (start3 N ds)) :
    Known P w K mg base (k + 1) x f := ⟨fa, fd, ps, Fun.fnok F S hl hbody, hmg, F.kp, hb⟩
def fLaw (n : Nat) : Fw := fun ds Q => ∃ ns : List Int, ds = [.lst (ns.map D.int)] ∧ ns.length ≤ n ∧ Q (.bl true)
theorem law_sp {K : PySem.W.Frag} {H : Hp} {a : Addr} {ns : List Int} {n : Nat} (hl : ns.length ≤ n) (hS : SqL K H a (ns.map V.int)) : spF K (fLaw n) [.ref a] H (fun v _ => v = .bl true) fun _ _ _ => False := by
  refine ⟨H, [.lst (ns.map D.int)], fun d => d = .bl true, Same.refl _, denL_cons (den_lst hS (denL_ints ns)) denL_nil, ⟨ns, rfl, hl, rfl⟩, fun d v F' H' _ _ _ _ hd q => ?_⟩
  subst q
  simpa only [Den] using hd
end
section
variable {X : Cx} {a b c e : Expr} {es : List Expr} {ta tb tc : TD} {ts : TDs} {pos : Pos} {st : Stmt} {sts : List Stmt} {t u : TS3}
def dFreeze (i : Nat) (t : TS3) : TS3 := fun D env => ∃ xs, env[i]? = some (some (.own xs)) ∧ t D (env.set i (some (.d (.lst xs))))
theorem qs_freeze (i : Nat) (h : QS X st t) : QS X st (dFreeze i t) := by
  refine ⟨?_⟩
  intro B σ F H env D rp hq
  obtain ⟨xs, hx, q⟩ := hq
  obtain ⟨F', s', r'⟩ := rp.freeze hx
  exact h B σ F' H _ D r' q
def cIxOwn (i : Nat) (tj : TD) : TD := fun env Q => ∃ xs, env[i]? = some (some (.own xs)) ∧ tj env fun y => ∃ j v, y = .int j ∧ atI xs j = some v ∧ Q v
def dPut (i : Nat) (tj te : TD) : TS3 := fun D env => te env fun x => ∃ xs, env[i]? = some (some (.own xs)) ∧ tj env fun y => ∃ (j : Int) (k : Nat), y = .int j ∧ ixN xs.length j = some k ∧ D.nx (env.set i (some (.own (xs.set k x))))
end
end L2.L3
set_option Elab.async false
set_option linter.all false
set_option maxRecDepth 100000
set_option maxHeartbeats 4000000
namespace L2.L3
open PySem PySem.Spec PyProof.Rows
def clOf (names : List (Str × NameKind)) (cells : List (Str × Addr)) (acc : List (Str × Addr)) : List (Str × Addr) := match names with
  | [] => acc
  | (n, k) :: r => if k = .free then (match cells.lookup n with | some c => clOf r cells ((n, c) :: acc) | none => clOf r cells acc) else clOf r cells acc
theorem closureFor_from {env : Env} : ∀ (names : List (Str × NameKind)) (acc : List (Str × Addr)), (∀ y ∈ names, y.2 = .free → ∃ c, env.cells.lookup y.1 = some c) →
    (forIn names acc fun (x : Str × NameKind) r => if (x.2 == NameKind.free) = true then (do let a ← cellOf env x.1; pure (ForInStep.yield ((x.1, a) :: r))) else pure (ForInStep.yield r) : Sem (List (Str × Addr))) = pure (clOf names env.cells acc)
  | [], acc, _ => rfl
  | (n, k) :: r, acc, h => by
    rw [List.forIn_cons]
    by_cases hk : k = .free
    · subst hk
      obtain ⟨c, hc⟩ := h (n, .free) List.mem_cons_self rfl
      have hc' : env.cells.lookup n = some c := hc
      have ih := closureFor_from r ((n, c) :: acc) fun y hy => h y (List.mem_cons_of_mem _ hy)
      simp only [beq_self_eq_true, if_true, cellOf, hc', clOf]
      exact ih
    · have ih := closureFor_from r acc fun y hy => h y (List.mem_cons_of_mem _ hy)
      have hb : (k == NameKind.free) = false := by simpa using hk
      simp only [hb, Bool.false_eq_true, if_false, clOf, if_neg hk]
      exact ih
theorem closureFor_eq {scope : Scope} {env : Env} (h : ∀ y ∈ scope.names, y.2 = .free → ∃ c, env.cells.lookup y.1 = some c) : closureFor scope env = pure (clOf scope.names env.cells []) := by
  have e := closureFor_from (env := env) scope.names [] h
  have e2 : closureFor scope env = ((forIn scope.names ([] : List (Str × Addr)) fun (x : Str × NameKind) r => if (x.2 == NameKind.free) = true then (do let a ← cellOf env x.1; pure (ForInStep.yield ((x.1, a) :: r))) else pure (ForInStep.yield r)) >>= fun cs => pure cs) := rfl
  rw [e2, e]; rfl
structure CompOk (X : Cx) (N' : List Str) (nt : Nat) (ix : List Nat) (scope : Scope) : Prop where
  kind : scope.kind = .function
  apart : ∀ x, (x, NameKind.free) ∈ scope.names → (x, NameKind.cell) ∉ scope.names
  names : ∀ x ∈ scope.names, x.2 = .local → scope.names.lookup x.1 = some .local
  free : ∀ x ∈ scope.names, x.2 = .free → X.env.scope.names.lookup x.1 = some .cell ∨ X.env.scope.names.lookup x.1 = some .free
  caps : ∀ (j : Nat) (i : Nat), ix[j]? = some i → ∃ x, N'[nt + j]? = some x ∧ X.N[i]? = some x ∧ (x, NameKind.free) ∈ scope.names ∧ ((relabel scope X.env).names.lookup x = some .cell ∨ (relabel scope X.env).names.lookup x = some .free)
  len : N'.length = nt + ix.length
end L2.L3
set_option Elab.async false
set_option linter.all false
set_option maxRecDepth 100000
set_option maxHeartbeats 4000000
namespace L2.L3
open PySem PySem.Spec PyProof.Rows
def wIfs (X : Cx) (ifs : List Expr) : TT := fun σ H Q => ∀ (pins : List (Addr × Obj)) (s : Shared), Inv X pins σ H s →
  wpAny (model X.prog X.w) X.A (forIn ifs true fun c r => if r = true then do let ok ← isTrue c X.env (eval c X.env); pure (ForInStep.yield ok) else pure (ForInStep.yield r)) (TP X pins σ Q) (fun _ _ => False) s
section
variable {X : Cx} {N' : List Str} {nt : Nat} {ix : List Nat} {scope : Scope}
theorem CompOk.clos {pins : List (Addr × Obj)} {σ : St} {H : Hp} {s : Shared} (O : CompOk X N' nt ix scope) (I : Inv X pins σ H s) : closureFor scope X.env = pure (clOf scope.names X.env.cells []) :=
  closureFor_eq fun y hy hk => I.ok.has y.1 (O.free y hy hk)
end
end L2.L3
set_option Elab.async false
set_option linter.all false
set_option maxRecDepth 100000
set_option maxHeartbeats 4000000
namespace L2.L3
open PySem PySem.Spec PyProof.Rows
def capE (nt : Nat) (ix : List Nat) (env : En) : En := List.replicate nt none ++ ix.map fun i => match env[i]? with
  | some (some (.d x)) => some (.d x)
  | _ => none
def Base.here (F H : Hp) : Base := ⟨F, H, fun p => H p ≠ none ∧ F p = none, fun _ h => h.1⟩
theorem Rep.here {K : PySem.W.Frag} {B : Base} {F H : Hp} {σ : St} {env : En} (r : Rep K B F H σ env) (no : ∀ (i : Nat) ys, env[i]? ≠ some (some (.own ys))) (no' : ∀ (i : Nat) ys, env[i]? ≠ some (some (.dic ys))) : Rep K (Base.here F H) F H σ env :=
  ⟨Same.refl _, r.fh, Same.refl _, fun p h => h.2, r.dv, fun i ys q => (no i ys q).elim, fun i j xs ys p _ q => (no i xs q).elim, fun i ys q => (no' i ys q).elim, fun i j xs ys p _ q => (no' i xs q).elim⟩
theorem Rep.there {K : PySem.W.Frag} {B : Base} {F H F' H' : Hp} {σ : St} {env env0 : En} (r : Rep K (Base.here F H) F' H' σ env) (f0 : Same B.F F) (h0 : Same B.H H) (nf : ∀ p, B.N p → F p = none) (he : ∀ (i : Nat) l, env0[i]? = some (some l) → env[i]? = some (some l)) (no : ∀ (i : Nat) ys, env0[i]? ≠ some (some (.own ys))) (no' : ∀ (i : Nat) ys, env0[i]? ≠ some (some (.dic ys))) : Rep K B F' H' σ env0 := by
  refine ⟨f0.trans r.f0, r.fh, h0.trans r.h0, fun p hp => ?_, fun i x q => r.dv i x (he i _ q), fun i ys q => (no i ys q).elim, fun i j xs ys p _ q => (no i xs q).elim, fun i ys q => (no' i ys q).elim, fun i j xs ys p _ q => (no' i xs q).elim⟩
  refine r.nf p ⟨fun z => ?_, nf p hp⟩
  have q := B.nb p hp
  cases w : B.H p with
  | none => exact q w
  | some o => rw [h0 _ _ w] at z; cases z
structure Steps (K : PySem.W.Frag) (J : It) (F1 : Hp) (xs : List D) : Prop where
  go : ∀ (i : Nat) (G H' : Hp), Same F1 G → Same G H' → i < xs.length → J.go i H'
  yld : ∀ (i : Nat) (G H' : Hp) (y : V) (H'' : Hp) (x : D), Same F1 G → Same G H' → xs[i]? = some x → J.yld i H' y H'' → H'' = H' ∧ Den K G x y
  stop : ∀ (G H' : Hp), Same F1 G → Same G H' → J.stop xs.length H'
def comps (tt : TB) (te : TD) (env0 : En) (Q : List D → Prop) : List D → List D → Prop
  | [], acc => Q acc
  | x :: xs, acc => tt (env0.set 0 (some (.d x))) fun ok => if ok = true then te (env0.set 0 (some (.d x))) fun y => acc.length < sizeLine ∧ comps tt te env0 Q xs (acc ++ [y]) else comps tt te env0 Q xs acc
structure QIfs (X : Cx) (ifs : List Expr) (t : TB) : Prop where
  of ::
  run : ∀ (B : Base) (σ : St) (F H : Hp) (env : En) (Q : Bool → Prop), Rep X.K B F H σ env → t env Q → wIfs X ifs σ H (RB X B σ env F Q)
instance {X : Cx} {ifs : List Expr} {t : TB} : CoeFun (QIfs X ifs t) (fun _ => ∀ (B : Base) (σ : St) (F H : Hp) (env : En) (Q : Bool → Prop), Rep X.K B F H σ env → t env Q → wIfs X ifs σ H (RB X B σ env F Q)) := ⟨QIfs.run⟩
def cTrue : TB := fun _ Q => Q true
section
variable {X : Cx}
variable {N' : List Str} {nt : Nat} {ix : List Nat} {scope : Scope} {elt iter a b : Expr} {ifs : List Expr} {x : Str} {px pos : Pos} {tt : TB} {te ti : TD} {ts : TDs}
theorem RF.rv {B : Base} {σ : St} {env : En} {F : Hp} {Q : D → Prop} {v : V} {H : Hp} (h : RF X B σ env F (fun ds => Q (.lst ds)) v H) : RV X B σ env F Q v H := by
  obtain ⟨F', H1, p, vs, ds, rfl, hp, rfl, r, s, hd, q⟩ := h
  exact (RV.newLst r hd q p hp).weaken s
def cFresh (ts : TDs) : TD := fun env Q => ts env fun ds => Q (.lst ds)
theorem QF.e {e : Expr} {ts : TDs} (h : QF X e ts) : QE X e (cFresh ts) := ⟨fun B σ F H env Q rp hq => wE_mono (h B σ F H env _ rp hq) fun v H' z => z.rv⟩
def cComp (ix : List Nat) (ti : TD) (tt : TB) (te : TD) : TDs := fun env Q => ti env fun d => ∃ xs, itemsD d = some xs ∧ comps tt te (capE 1 ix env) Q xs []
def cCompR (f : List D → (Int → Nat → Prop) → Prop) (ix : List Nat) (ts : TDs) (tt : TB) (te : TD) : TDs := fun env Q => ts env fun xs => f xs fun lo n => comps tt te (capE 1 ix env) Q (intsD lo n) []
end
end L2.L3
set_option Elab.async false
set_option linter.all false
set_option maxRecDepth 100000
set_option maxHeartbeats 4000000
namespace L2.L3
open PySem PySem.Spec PyProof.Rows
section
variable {X : Cx} {a b c e : Expr} {es : List Expr} {ta tb tc : TD} {tA tB' : TB} {ts : TDs} {p p2 pos : Pos} {rest : List Expr}
theorem q_abs (hm : X.mg "abs" = none) (ha : QA X [e] ts) (hg : Gl X "abs" := by rfl) (he : starEach [e] X.env = (false, eval e X.env) :: starEach [] X.env := by exact star_of rfl) : QE X (.Call (.Name "abs" p) [e] [] pos) (cCall absF ts) :=
  q_callB call_abs c3_abs hg hm boot_abs' ha (he := he)
theorem q_len (hm : X.mg "len" = none) (ha : QA X [e] ts) (hg : Gl X "len" := by rfl) (he : starEach [e] X.env = (false, eval e X.env) :: starEach [] X.env := by exact star_of rfl) : QE X (.Call (.Name "len" p) [e] [] pos) (cCall lenF ts) :=
  q_callB (call_len_seq.or call_len_str) c3_len hg hm boot_len' ha (he := he)
theorem q_max (hm : X.mg "max" = none) (ha : QA X [a, b] ts) (hg : Gl X "max" := by rfl) (hc : X.calm = true := by rfl) (he : starEach [a, b] X.env = (false, eval a X.env) :: starEach [b] X.env := by exact star_of rfl) (hpl : (backTo pos (starEach [b] X.env)).any (·.1) = false := by rfl) : QE X (.Call (.Name "max" p) [a, b] [] pos) (cCall maxF ts) :=
  q_callB (call_max2 hc) c3_max hg hm boot_max' ha (he := he) (hpl := hpl)
theorem q_min (hm : X.mg "min" = none) (ha : QA X [a, b] ts) (hg : Gl X "min" := by rfl) (hc : X.calm = true := by rfl) (he : starEach [a, b] X.env = (false, eval a X.env) :: starEach [b] X.env := by exact star_of rfl) (hpl : (backTo pos (starEach [b] X.env)).any (·.1) = false := by rfl) : QE X (.Call (.Name "min" p) [a, b] [] pos) (cCall minF ts) :=
  q_callB (call_min2 hc) c3_min hg hm boot_min' ha (he := he) (hpl := hpl)
theorem q_intOf (hm : X.mg "int" = none) (ha : QA X [e] ts) (hg : Gl X "int" := by rfl) (he : starEach [e] X.env = (false, eval e X.env) :: starEach [] X.env := by exact star_of rfl) : QE X (.Call (.Name "int" p) [e] [] pos) (cCall intF ts) :=
  q_callTy call_int1 c3_int hg hm boot_int' ha (he := he)
theorem q_listOf (hm : X.mg "list" = none) (ha : QA X [e] ts) (hg : Gl X "list" := by rfl) (he : starEach [e] X.env = (false, eval e X.env) :: starEach [] X.env := by exact star_of rfl) : QE X (.Call (.Name "list" p) [e] [] pos) (cCall listF ts) :=
  q_callTy call_list_of c3_list hg hm boot_list' ha (he := he)
theorem q_tupleOf (hm : X.mg "tuple" = none) (ha : QA X [e] ts) (hg : Gl X "tuple" := by rfl) (he : starEach [e] X.env = (false, eval e X.env) :: starEach [] X.env := by exact star_of rfl) : QE X (.Call (.Name "tuple" p) [e] [] pos) (cCall tupleF ts) :=
  q_callTy call_tuple_of c3_tuple hg hm boot_tuple' ha (he := he)
def isiR (n : String) (x : D) (Q : D → Prop) : Prop := ∃ k, isiK (kdD x) n = some k ∧ Q (.bl k)
def cIsi (n : String) (ta : TD) : TD := fun env Q => ta env fun x => isiR n x Q
theorem q_isi {n : Str} {m : String} (hm : X.mg "isinstance" = none) (ht : X.mg n = none) (hb : bootBuiltins n = some (.type m)) (ha : QE X a ta) (hg : Gl X "isinstance" := by rfl) (hg2 : Gl X n := by rfl) (hn : n ≠ "__name__" := by decide) (hd : (n == ("__debug__" : Str)) = false := by decide)
    (he : starEach [a, .Name n p2] X.env = (false, eval a X.env) :: starEach [.Name n p2] X.env := by exact star_of rfl) (hpl : (backTo pos (starEach [.Name n p2] X.env)).any (·.1) = false := by rfl)
    (he2 : starEach [.Name n p2] X.env = (false, eval (.Name n p2) X.env) :: starEach [] X.env := by exact star_of rfl) : QE X (.Call (.Name "isinstance" p) [a, .Name n p2] [] pos) (cIsi m ta) := by
  have h := q_callB (p := p) (pos := pos) call_isi c3_isi hg hm boot_isi' (qa_cons ha (qa_cons (qty hg2 ht hb hn hd) qa_nil he2) he) (he := he) (hpl := hpl)
  exact ⟨fun B σ F H env Q rp hq => h B σ F H env Q rp hq⟩
variable {N' : List Str} {nt : Nat} {ix : List Nat} {scope : Scope} {elt iter : Expr} {ifs : List Expr} {x : Str} {px py spos : Pos} {tt : TB} {te ti : TD}
theorem CompOk.of (sc : Scope) (hsc : X.env.scope = sc) (kind : scope.kind = .function) (nocell : ∀ x ∈ scope.names, x.2 ≠ .cell) (names : ∀ x ∈ scope.names, x.2 = .local → scope.names.lookup x.1 = some .local)
    (free : ∀ x ∈ scope.names, x.2 = .free → sc.names.lookup x.1 = some .cell)
    (caps : ∀ (j : Nat) (i : Nat), ix[j]? = some i → ∃ x, N'[nt + j]? = some x ∧ X.N[i]? = some x ∧ (x, NameKind.free) ∈ scope.names ∧ (relabel scope X.env).names.lookup x = some .cell) (len : N'.length = nt + ix.length) : CompOk X N' nt ix scope :=
  ⟨kind, fun x _ z => nocell _ z rfl, names, by rw [hsc]; exact fun x h1 h2 => .inl (free x h1 h2), fun j i h => let ⟨x, a, b, c, d⟩ := caps j i h; ⟨x, a, b, c, .inl d⟩, len⟩
end
end L2.L3
set_option Elab.async false
set_option linter.all false
set_option maxRecDepth 100000
set_option maxHeartbeats 4000000
namespace L2.L3
open PySem PySem.Spec PyProof.Rows
def Base.guard (B : Base) (p : Addr) (o : HO) : Base := ⟨B.F, upd B.H p o, fun a => a = p ∨ B.N a, fun a h => by
  by_cases e : a = p
  · subst e; rw [upd_same]; simp
  · rw [upd_ne e]; exact B.nb a (h.resolve_left e)⟩
section
variable {K : PySem.W.Frag} {B : Base} {F H : Hp} {σ : St} {env : En} {p : Addr} {o o' : HO}
theorem Rep.guarded (r : Rep K B F H σ env) (hp : H p = none) : Rep K (B.guard p o) F (upd H p o) σ env where
  f0 := r.f0
  fh := r.fh.trans (same_upd hp)
  h0 := fun b u q => by
    by_cases e : b = p
    · subst e; rw [upd_same]; have q' : upd B.H b o b = some u := q; rw [upd_same] at q'; exact q'
    · rw [upd_ne e]; have q' : upd B.H p o b = some u := q; rw [upd_ne e] at q'; exact r.h0 _ _ q'
  nf := fun a h => by
    rcases h with rfl | h
    · exact r.fnone hp
    · exact r.nf a h
  dv := r.dv
  ov := fun i xs h => by
    obtain ⟨q, vs, h1, h2, h3, h4, h5⟩ := r.ov i xs h
    have ne : q ≠ p := fun e => by subst e; rw [hp] at h2; cases h2
    exact ⟨q, vs, h1, by rw [upd_ne ne]; exact h2, h3, by show upd B.H p o q = none; rw [upd_ne ne]; exact h4, h5⟩
  ne := r.ne
  mv := fun i xs h => by
    obtain ⟨q, ep, us, vs, h1, h2, h3, h4, h5⟩ := r.mv i xs h
    have ne : q ≠ p := fun e => by subst e; rw [hp] at h2; cases h2
    exact ⟨q, ep, us, vs, h1, by rw [upd_ne ne]; exact h2, h3, by show upd B.H p o q = none; rw [upd_ne ne]; exact h4, h5⟩
  nm := r.nm
theorem Rep.unguard (r : Rep K (B.guard p o) F H σ env) (hb : B.H p = none) : Rep K B F H σ env ∧ H p = some o ∧ F p = none := by
  refine ⟨⟨r.f0, r.fh, fun b u q => r.h0 b u ?_, fun a h => r.nf a (.inr h), r.dv, fun i xs h => ?_, r.ne, fun i xs h => ?_, r.nm⟩, r.h0 p o upd_same, r.nf p (.inl rfl)⟩
  · show upd B.H p o b = some u
    have : b ≠ p := fun e => by subst e; rw [hb] at q; cases q
    rw [upd_ne this]; exact q
  · obtain ⟨q, vs, h1, h2, h3, h4, h5⟩ := r.ov i xs h
    have h4' : upd B.H p o q = none := h4
    have ne : q ≠ p := fun e => by subst e; rw [upd_same] at h4'; cases h4'
    rw [upd_ne ne] at h4'
    exact ⟨q, vs, h1, h2, h3, h4', h5⟩
  · obtain ⟨q, ep, us, vs, h1, h2, h3, h4, h5⟩ := r.mv i xs h
    have h4' : upd B.H p o q = none := h4
    have ne : q ≠ p := fun e => by subst e; rw [upd_same] at h4'; cases h4'
    rw [upd_ne ne] at h4'
    exact ⟨q, ep, us, vs, h1, h2, h3, h4', h5⟩
end
section
variable {X : Cx} {a b : Expr} {ta tb : TD} {pos : Pos}
def cDisp (ks : List Key) (ts : TDs) : TD := fun env Q => ts env fun xs => Q (.dct ks xs)
end
end L2.L3
set_option Elab.async false
set_option linter.all false
set_option maxRecDepth 100000
set_option maxHeartbeats 4000000
namespace L2.L3
open PySem PySem.Spec PyProof.Rows
section
variable {X : Cx} {e : Expr} {ts : TDs} {pos : Pos}
def dExtend (i : Nat) (te : TDs) : TS3 := fun D env => ∃ xs, env[i]? = some (some (.own xs)) ∧ te env fun ys => xs.length + ys.length ≤ sizeLine ∧ D.nx (env.set i (some (.own (xs ++ ys))))
end
end L2.L3
set_option Elab.async false
set_option linter.all false
set_option maxRecDepth 100000
set_option maxHeartbeats 4000000
namespace L2.L3
open PySem PySem.Spec PyProof.Rows
theorem ObjOk.at {P : Program} {w : World} {H : Hp} {h : Heap} {a : Addr} {o : HO} (x : ObjOk P w H h a o) : ∃ ob, h.get? a = some ob := by
  cases o with
  | lst xs => obtain ⟨_, _, _, _, e⟩ := x; exact ⟨_, e⟩
  | tup xs => obtain ⟨_, _, _, ob, e, _⟩ := x; exact ⟨_, e⟩
  | dK kvs => obtain ⟨_, _, _, _, o, _, _, e, _⟩ := x; exact ⟨_, e⟩
  | dT kvs => obtain ⟨_, _, _, _, o, _, _, e, _⟩ := x; exact ⟨_, e⟩
  | set S n => obtain ⟨o, _, _, _, e, _⟩ := x; exact ⟨_, e⟩
  | ins C dx fs => obtain ⟨_, _, _, e, _⟩ := x; exact ⟨_, e⟩
  | own y => exact x
  | xd fs => obtain ⟨_, ⟨_, _, _, e, _⟩, _⟩ := x; exact ⟨_, e⟩
  | rng lo hi => obtain ⟨_, _, _, e⟩ := x; exact ⟨_, e⟩
  | frz ob u => obtain ⟨e, _⟩ := x; exact ⟨_, e⟩
  | tbl ps => obtain ⟨_, e, _⟩ := x; exact ⟨_, e⟩
  | cdr c q => exact x.1
  | met f y => exact ⟨_, (show h.get? a = some _ from x)⟩
  | ext φ => obtain ⟨_, ⟨_, e⟩, _⟩ := x; exact ⟨_, e⟩
def FliesD (H : Hp) (h0 h : Heap) (a : Addr) (cls : Value) (dd : Option Addr) : Prop := h0.get? a = none ∧ H a = none ∧ ∃ oe vs, h.get? a = some oe ∧ oe.cls = cls ∧ oe.dict = dd ∧ oe.data = .fields vs ∧
  (vs[1]? = some .none ∨ ∃ T oT ts, vs[1]? = some (.ref T) ∧ h0.get? T = none ∧ H T = none ∧ T ≠ a ∧ h.get? T = some oT ∧ oT.data = .fields ts ∧ ts[3]? = some .none)
abbrev Flies (H : Hp) (h0 h : Heap) (a : Addr) (cls : Value) : Prop := FliesD H h0 h a cls none
theorem FliesD.older {H : Hp} {g h0 h : Heap} {a : Addr} {cls : Value} {dd : Option Addr} (x : FliesD H h0 h a cls dd) (k : ∀ b o, g.get? b = some o → ∃ o', h0.get? b = some o') : FliesD H g h a cls dd := by
  have none_ : ∀ b, h0.get? b = none → g.get? b = none := fun b e => by
    cases q : g.get? b with
    | none => rfl
    | some o => obtain ⟨o', e'⟩ := k b o q; rw [e] at e'; cases e'
  obtain ⟨n, f, oe, vs, he, hc, hdc, hd, z⟩ := x
  refine ⟨none_ a n, f, oe, vs, he, hc, hdc, hd, ?_⟩
  rcases z with z | ⟨T, oT, ts, h1, h2, h3⟩
  · exact .inl z
  · exact .inr ⟨T, oT, ts, h1, none_ T h2, h3⟩
def CXe (P : Program) (w : World) : CXT := fun outer H s E e s' => ∃ (a : Addr) (C : Value) (dd : Option Addr) (H' : Hp), e = .ref a ∧ s'.os = s.os ∧ AllBare s'.gens ∧ Un (frs outer) [] H H' s.heap s'.heap ∧ HOk P w H' s'.heap ∧ FliesD H' s.heap s'.heap a C dd ∧ E C dd H'
theorem entry_made {M : Model} {A : Around} {E : Value → Shared → Prop} {s : Shared} {base : Heap} {env : Env} {outer : List Env} {L x : Addr} {ox : Obj} {fs : Array Value} {hd0 : Value} {nx0 : Bool} {Q : Unit → Shared → Prop}
    (hA : A.frames = some (env :: outer)) (ff : s.heap.FunFrames base (env :: outer)) (hL : env.frame = some L) (hx : s.heap.get? x = some ox) (hdx : ox.data = .fields fs) (h2 : 1 < fs.size)
    (k : ∀ h' T oT ts, (∀ b o, s.heap.get? b = some o → b ≠ x → b ∉ frs (env :: outer) → h'.get? b = some o) → (∀ b o, s.heap.get? b = some o → b ∈ frs (env :: outer) → ∃ sl, h'.get? b = some { o with slots := sl }) →
      h'.get? x = some (ox.mapFields (·.setIfInBounds 1 (.ref T))) → s.heap.get? T = none → T ≠ x → h'.get? T = some oT → oT.data = .fields ts → ts[3]? = some .none → Q () { s with heap := h' }) :
    wpAny M A (do let a ← frameOf env; let pl ← entryPlaceOf L nx0; let b ← EntryCells.newEntry hd0 a .none (rawInt L) .none pl; setField (.ref x) 1 b) (fun _ s' => wpAny M A (setFlight (.ref x) none) Q E s') E s := by
  have xnf : x ∉ frs (env :: outer) := fun z => by
    obtain ⟨_, o, e, nf⟩ := ff.mem z
    rw [hx] at e; cases e; exact nf fs hdx
  refine wpAny_bind (wpAny_frameOf_fun hA ff hL fun g so => ?_)
  refine wpAny_bind (wpAny_entryPlaceOf fun pl ipl => ?_)
  unfold EntryCells.newEntry newFields
  refine wpAny_bind (wpAny_newObj_type ?_ (ipl.sizeOk5 _ _ _ _ _))
  have gx : g.get? x = some ox := (so.2.1 x xnf).trans hx
  generalize hno : ({ cls := .type "traceback", dict := none, data := .fields ([hd0, .ref L, .none, rawInt L, .none] ++ (if pl.isEmpty then List.replicate 6 Value.none else pl)).toArray } : Obj) = no
  have nod : no.data = .fields ([hd0, .ref L, .none, rawInt L, .none] ++ (if pl.isEmpty then List.replicate 6 Value.none else pl)).toArray := by rw [← hno]
  have nofree : no.isFreed = false := Obj.isFreed_of_fields nod
  have gx1 : (g.push no).get? x = some ox := Heap.get?_push_of_some no gx
  have gT1 : (g.push no).get? g.objs.size = some no := Heap.get?_push_size g nofree
  have Tx : g.objs.size ≠ x := fun z => absurd (Heap.lt_size gx) (by rw [z]; exact Nat.lt_irrefl _)
  refine wpAny_setField gx1 hdx h2 ?_
  have dx2 := Obj.data_mapFields hdx (·.setIfInBounds 1 (Value.ref g.objs.size))
  have gx2 := Heap.get?_update_self (Obj.mapFields (·.setIfInBounds 1 (Value.ref g.objs.size))) gx1 (Obj.isFreed_of_fields dx2)
  have gT2 : ((g.push no).update x (Obj.mapFields (·.setIfInBounds 1 (Value.ref g.objs.size)))).get? g.objs.size = some no := (Heap.get?_update_other _ _ (Ne.symm Tx)).trans gT1
  unfold setFlight
  refine wpAny_bind (wpAny_field gx2 dx2 (x := .ref g.objs.size) (by simp [h2]) ?_)
  rw [if_pos (show (Value.ref g.objs.size != Value.none) = true from by simp)]
  have sz3 : 3 < ([hd0, .ref L, .none, rawInt L, .none] ++ (if pl.isEmpty then List.replicate 6 Value.none else pl)).toArray.size := by
    simp only [List.size_toArray, List.length_append, List.length_cons, List.length_nil]; omega
  refine wpAny_setField gT2 nod sz3 ?_
  have oth : ∀ b, b ≠ x → b ≠ g.objs.size → (((g.push no).update x (Obj.mapFields (·.setIfInBounds 1 (Value.ref g.objs.size)))).update g.objs.size (Obj.mapFields (·.setIfInBounds 3 ((none : Option Addr).elim Value.none fun f => rawInt f)))).get? b = (g.push no).get? b := fun b b1 b2 => by
    rw [Heap.get?_update_other _ _ (Ne.symm b2), Heap.get?_update_other _ _ (Ne.symm b1)]
  have ne_g : ∀ b o, g.get? b = some o → b ≠ g.objs.size := fun b o e z => absurd (Heap.lt_size e) (by rw [z]; exact Nat.lt_irrefl _)
  have Tn : s.heap.get? g.objs.size = none := Heap.get?_none_of_le (by rw [so.1]; exact Nat.le_refl _)
  refine k _ g.objs.size _ _ (fun b o e b1 b2 => ?_) (fun b o e b2 => ?_) ?_ Tn Tx (Heap.get?_update_self _ gT2 (Obj.isFreed_of_fields (Obj.data_mapFields nod _))) (Obj.data_mapFields nod _) ?_
  · have e1 : g.get? b = some o := (so.2.1 b b2).trans e
    rw [oth b b1 (ne_g b o e1)]; exact Heap.get?_push_of_some no e1
  · obtain ⟨sl, e1⟩ := so.2.2 b o e
    have b1 : b ≠ x := fun z => xnf (z ▸ b2)
    exact ⟨sl, by rw [oth b b1 (ne_g b _ e1)]; exact Heap.get?_push_of_some no e1⟩
  · rw [Heap.get?_update_other _ _ Tx]; exact gx2
  · simp [Array.getElem?_setIfInBounds]
theorem dict_mapFields (o : Obj) (f : Array Value → Array Value) : (o.mapFields f).dict = o.dict := by
  obtain ⟨c, d, dt, sl⟩ := o
  cases dt <;> rfl
theorem note_fly {M : Model} {P : Program} {w : World} {A : Around} {env : Env} {outer : List Env} {base : Heap} {H0 H1 : Hp} {h0 : Heap} {s1 : Shared} {a : Addr} {C : Value} {dd : Option Addr} {L : Addr} {Q : Unit → Shared → Prop} {E : Value → Shared → Prop}
    (hfr : A.frames = some (env :: outer)) (hf : env.frame = some L) (FF : s1.heap.FunFrames base (env :: outer)) (ff : ∀ b ∈ frs (env :: outer), H1 b = none) (hok : HOk P w H1 s1.heap)
    (un : Un (frs (env :: outer)) [] H0 H1 h0 s1.heap) (Fl : FliesD H1 h0 s1.heap a C dd)
    (h : ∀ h', Un (frs (env :: outer)) [] H0 H1 h0 h' → HOk P w H1 h' → FliesD H1 h0 h' a C dd → Q () { s1 with heap := h' }) :
    wpAny M A (noteFrame (.ref a) env) (fun _ s' => wpAny M A (setFlight (.ref a) none) Q E s') E s1 := by
  obtain ⟨n0, na, oe, vs, he, hc, hdc, hd, z⟩ := Fl
  have hsz : 1 < vs.size := by
    rcases z with z | ⟨T, oT, ts, h1, _⟩
    · exact (Array.getElem?_eq_some_iff.mp z).1
    · exact (Array.getElem?_eq_some_iff.mp h1).1
  have core : ∀ (hid : List Addr) (h1 : Heap), a ∈ hid → (∀ b ∈ hid, h0.get? b = none ∧ H1 b = none) → (∀ b o, s1.heap.get? b = some o → b ∉ hid → h1.get? b = some o) → (∀ b, h1.get? b = none → s1.heap.get? b = none) →
      ∀ h' T oT ts, (∀ b o, h1.get? b = some o → b ≠ a → b ∉ frs (env :: outer) → h'.get? b = some o) → (∀ b o, h1.get? b = some o → b ∈ frs (env :: outer) → ∃ sl, h'.get? b = some { o with slots := sl }) →
      h'.get? a = some (oe.mapFields (·.setIfInBounds 1 (.ref T))) → h1.get? T = none → T ≠ a → h'.get? T = some oT → oT.data = .fields ts → ts[3]? = some .none → Q () { s1 with heap := h' } := by
    intro hid h1 ha hids hkeep hnone h' T oT ts k1 k2 k3 hTn hTa hT hdT h3
    have keepN : ∀ b o, s1.heap.get? b = some o → b ∉ hid → b ∉ frs (env :: outer) → h'.get? b = some o := fun b o e nb nf => k1 b o (hkeep b o e nb) (fun z => nb (z ▸ ha)) nf
    have frn : ∀ b ∈ frs (env :: outer), ∀ o, h0.get? b = some o → b ∉ hid := fun b _ o e z => by rw [(hids b z).1] at e; cases e
    have hs := hnone T hTn
    refine h h' ⟨fun b o e n hb hx => ?_, fun b o e n hb hx => ?_, un.free, fun b o e hx => ?_, un.tups, un.frzs, un.tbls⟩ (fun b u e => ?_) ?_
    · exact keepN b o (un.keep b o e n hb hx) (fun z => by rw [(hids b z).1] at e; cases e) hb
    · obtain ⟨s2, e2⟩ := un.slot b o e n hb hx
      obtain ⟨s3, e3⟩ := k2 b _ (hkeep b _ e2 (frn b hb o e)) hb
      exact ⟨s3, e3⟩
    · obtain ⟨o', e'⟩ := un.there b o e hx
      have nb : b ∉ hid := fun z => by rw [(hids b z).1] at e; cases e
      by_cases hb : b ∈ frs (env :: outer)
      · obtain ⟨s3, e3⟩ := k2 b o' (hkeep b o' e' nb) hb
        exact ⟨_, e3⟩
      · exact ⟨o', keepN b o' e' nb hb⟩
    · refine (hok b u e).stay (fun c v hc q => ?_) (fun _ q => q) (fun _ _ q => q) fun _ _ _ q => q
      have hcn : H1 c ≠ none := by
        rcases hc with z | z
        · rw [z, e]; simp
        · rw [z]; simp
      exact keepN c v q (fun z => hcn (hids c z).2) (fun z => hcn (ff c z))
    · refine ⟨n0, na, _, _, k3, (Obj.cls_mapFields _ _).trans hc, (dict_mapFields _ _).trans hdc, Obj.data_mapFields hd _, .inr ⟨T, oT, ts, by simp [hsz], ?_, ?_, hTa, hT, hdT, h3⟩⟩
      · cases q : h0.get? T with
        | none => rfl
        | some o => obtain ⟨o', e'⟩ := un.there T o q (by simp); rw [hs] at e'; cases e'
      · cases q : H1 T with
        | none => rfl
        | some u => obtain ⟨ob, e'⟩ := ObjOk.at (hok T u q); rw [hs] at e'; cases e'
  rcases z with z | ⟨T, oT, ts, h1, hT0, hTn, hTa, hT, hdT, h3⟩
  ·
    unfold noteFrame
    simp only [hf]
    refine wpAny_bind (wpAny_field he hd z ?_)
    rw [if_neg (by decide)]
    exact entry_made hfr FF hf he hd hsz (core [a] s1.heap (by simp) (fun b hb => by rw [List.mem_singleton.mp hb]; exact ⟨n0, na⟩) (fun b o e _ => e) (fun b e => e))
  ·
    unfold noteFrame
    simp only [hf]
    refine wpAny_bind (wpAny_field he hd h1 ?_)
    rw [if_pos (show (Value.ref T != Value.none) = true from by simp)]
    refine wpAny_bind (wpAny_field hT hdT h3 ?_)
    rw [if_neg (show ¬ ((Value.none == rawInt L) = true) from by simp [rawInt])]
    refine wpAny_bind (wpAny_setField hT hdT (Array.getElem?_eq_some_iff.mp h3).1 ?_)
    have other : ∀ b, b ≠ T → (s1.heap.update T (Obj.mapFields (·.setIfInBounds 3 Value.none))).get? b = s1.heap.get? b := fun b hb => Heap.get?_update_other _ _ (Ne.symm hb)
    have noRec : ∀ b o, s1.heap.get? b = some o → (∀ vs, o.data ≠ .fields vs) → b ≠ T := fun b o hb hnf q => by
      subst q; rw [hT] at hb; cases hb; exact hnf ts hdT
    refine entry_made (s := { s1 with heap := s1.heap.update T (Obj.mapFields (·.setIfInBounds 3 Value.none)) }) hfr (FF.of_keeps fun b o hb hnf => ⟨o, (other b (noRec b o hb hnf)).trans hb, rfl⟩) hf ((other a (Ne.symm hTa)).trans he) hd hsz ?_
    refine core [a, T] _ (by simp) (fun b hb => ?_) (fun b o e nb => ?_) (fun b e => ?_)
    · rcases List.mem_cons.mp hb with z | hb
      · subst z; exact ⟨n0, na⟩
      · rw [List.mem_singleton.mp hb]; exact ⟨hT0, hTn⟩
    · rwa [other b (fun z => nb (by simp [z]))]
    · by_cases z : b = T
      · subst z
        have := Heap.get?_update_self (Obj.mapFields (·.setIfInBounds 3 Value.none)) hT (Obj.isFreed_of_fields (Obj.data_mapFields hdT _))
        rw [this] at e; cases e
      · rwa [other b z] at e
end L2.L3
set_option Elab.async false
set_option linter.all false
set_option maxRecDepth 100000
set_option maxHeartbeats 4000000
namespace L2.L3
open PySem PySem.Spec PyProof.Rows
def ThrownD (X : Cx) (pins : List (Addr × Obj)) (σ : St) (H' : Hp) (a : Addr) (C : Value) (dd : Option Addr) (s' : Shared) : Prop := ∃ (Hc : Hp) (sc : Shared), Inv X pins σ Hc sc ∧ s'.os = sc.os ∧ AllBare s'.gens ∧ Un (frs X.stack) [] Hc H' sc.heap s'.heap ∧ HOk X.prog X.w H' s'.heap ∧ FliesD H' sc.heap s'.heap a C dd
abbrev Thrown (X : Cx) (pins : List (Addr × Obj)) (σ : St) (H' : Hp) (a : Addr) (C : Value) (s' : Shared) : Prop := ThrownD X pins σ H' a C none s'
section
variable {X : Cx} {pins : List (Addr × Obj)} {σ : St} {H H' : Hp} {a : Addr} {C : Value} {dd : Option Addr} {s s' : Shared}
theorem ThrownD.inv (t : ThrownD X pins σ H' a C dd s') : Inv X pins σ H' s' := by
  obtain ⟨Hc, sc, I, os, bare, un, hok, fl⟩ := t
  exact I.call' os un hok bare fun b z => absurd z (by simp)
theorem ThrownD.wish (t : ThrownD X pins σ H' a C dd s') (E : Value → Shared → Prop) : ThrownD (X.wish E) pins σ H' a C dd s' := by
  obtain ⟨Hc, sc, I, r⟩ := t
  exact ⟨Hc, sc, I.wish E, r⟩
theorem ThrownD.unwish {E : Value → Shared → Prop} (t : ThrownD (X.wish E) pins σ H' a C dd s') : ThrownD X pins σ H' a C dd s' := by
  obtain ⟨Hc, sc, I, r⟩ := t
  exact ⟨Hc, sc, I.unwish, r⟩
theorem Thrown.made {vs : List Value} {h' : Heap} {e : Addr} (I : Inv X pins σ H s) (m : Heap.MadeExcOf s.heap h' e C vs) : Thrown X pins σ H e C { s with heap := h' } := by
  obtain ⟨t, ht, _⟩ := m.there
  have hn : H e = none := by
    cases q : H e with
    | none => rfl
    | some u => obtain ⟨ob, z⟩ := ObjOk.at (I.hok e u q); rw [m.new] at z; cases z
  exact ⟨H, s, I, rfl, I.bare, Un.kept m.keeps, I.hok.kept m.keeps, m.new, hn, _, _, ht, rfl, rfl, rfl, .inl rfl⟩
theorem ThrownD.note {Q : Unit → Shared → Prop} {E : Value → Shared → Prop} (t : ThrownD X pins σ H' a C dd s') (hst : X.stack = X.env :: X.outer) (hf : X.env.frame = some X.env.locals)
    (h : ∀ s'', ThrownD X pins σ H' a C dd s'' → Q () s'') : wpAny (model X.prog X.w) X.A (noteFrame (.ref a) X.env) (fun _ s => wpAny (model X.prog X.w) X.A (setFlight (.ref a) none) Q E s) E s' := by
  have I' := t.inv
  obtain ⟨Hc, sc, I, os, bare, un, hok, fl⟩ := t
  have hfr := I'.ok.frames
  have FF := I'.stack
  have ff := I'.stkFree
  rw [hst] at hfr FF ff un
  refine note_fly hfr hf FF ff hok un fl fun h' un' hok' fl' => h _ ⟨Hc, sc, I, os, bare, by rw [hst]; exact un', hok', fl'⟩
theorem ThrownD.leave {P : Program} {w : World} {K : PySem.W.Frag} {mg : Str → Option Value} {base : Heap} {N : List Str} {qual : Str} {scope : Scope} {f : Addr} {cd : Value} {A : Around} {outer : List Env} {s0 : Shared} {H0 : Hp} {E : XK}
    (t : ThrownD (cxOf (CXe P w) P w K mg base N qual scope f cd A outer s0 H0 E) pins σ H' a C dd s') (q : E C dd H') : (cxOf (CXe P w) P w K mg base N qual scope f cd A outer s0 H0 E).xe (.ref a) s' := by
  show wpAny (model P w) _ (leaving _ (.ref a)) _ _ s'
  unfold leaving
  refine wpAny_bind (t.note rfl rfl fun s'' t'' => ?_)
  have I := t''.inv
  obtain ⟨Hc, sc, Ic, os, bare, un, hok, fl⟩ := t''
  refine ⟨a, C, dd, H', rfl, I.os, I.bare, I.base, I.hok, fl.older fun b o e => ?_, q⟩
  exact Ic.base.there b o e (by show b ∉ ([] : List Addr); simp)
end
structure Ends4 extends Ends3 where
  xc : Str → Prop
abbrev TS4 := Ends4 → En → Prop
def XZ (X : Cx) (B : Base) (xc : Str → Prop) : Value → Shared → Prop := fun ex s' => ∃ (pins : List (Addr × Obj)) (a : Addr) (c : Str) (C : Value) (σ' : St) (H' F' : Hp) (env' : En), ex = .ref a ∧ Thrown X pins σ' H' a C s' ∧ Rep X.K B F' H' σ' env' ∧ X.mg c = some C ∧ xc c
section
variable {X : Cx} {c e : Expr} {es : List Expr} {st : Stmt} {sts xs ys : List Stmt} {t u : TS3} {p q : TS4} {tc : TB} {te : TD} {ts : TDs} {pos : Pos}
theorem SP.rewish {E E' : Value → Shared → Prop} {pins : List (Addr × Obj)} {D : Ends} {f : Flow} {s' : Shared} (h : SP (X.wish E) pins D f s') : SP (X.wish E') pins D f s' := by
  cases f with
  | next => obtain ⟨σ', H', I, q⟩ := h; exact ⟨σ', H', I.unwish.wish _, q⟩
  | brk => obtain ⟨σ', H', I, q⟩ := h; exact ⟨σ', H', I.unwish.wish _, q⟩
  | cont => obtain ⟨σ', H', I, q⟩ := h; exact ⟨σ', H', I.unwish.wish _, q⟩
  | ret u => obtain ⟨v, σ', H', I, r, q⟩ := h; exact ⟨v, σ', H', I.unwish.wish _, r, q⟩
theorem wS_nox {E : Value → Shared → Prop} {D : Ends} {σ : St} {H : Hp} (h : wS X.nox st D σ H) : wS (X.wish E) st D σ H := fun pins s I =>
  wpAny_mono (h pins s (I.unwish.wish _)) (fun _ _ q => SP.rewish q) fun _ _ z => False.elim z
theorem wSs_nox {E : Value → Shared → Prop} {D : Ends} {σ : St} {H : Hp} (h : wSs X.nox sts D σ H) : wSs (X.wish E) sts D σ H := fun pins s I =>
  wpAny_mono (h pins s (I.unwish.wish _)) (fun _ _ q => SP.rewish q) fun _ _ z => False.elim z
theorem wT_nox {E : Value → Shared → Prop} {Q : Bool → Hp → Prop} {σ : St} {H : Hp} (h : wT X.nox c σ H Q) : wT (X.wish E) c σ H Q := fun pins s I =>
  wpAny_mono (h pins s (I.unwish.wish _)) (fun _ _ ⟨H', I', q⟩ => ⟨H', I'.unwish.wish _, q⟩) fun _ _ z => False.elim z
theorem wA_nox {E : Value → Shared → Prop} {Q : List V → Hp → Prop} {σ : St} {H : Hp} (h : wA X.nox es σ H Q) : wA (X.wish E) es σ H Q := fun pos pins s I =>
  wpAny_mono (h pos pins s (I.unwish.wish _)) (fun _ _ ⟨v, H', I', r, q⟩ => ⟨v, H', I'.unwish.wish _, r, q⟩) fun _ _ z => False.elim z
def zUp (t : TS3) : TS4 := fun D env => t D.toEnds3 env
def zSeq (t u : TS4) : TS4 := fun D env => t { D with nx := u D } env
def zIf (c : TB) (t u : TS4) : TS4 := fun D env => c env fun k => if k = true then t D env else u D env
def zRaise (cx : Str) (ts : TDs) : TS4 := fun D env => ts env fun xs => xs.length ≤ sizeLine ∧ D.xc cx
end
end L2.L3
set_option Elab.async false
set_option linter.all false
set_option maxRecDepth 100000
set_option maxHeartbeats 4000000
namespace L2.L3
open PySem PySem.Spec PyProof.Rows
abbrev FwX := List D → (D → Prop) → (Str → Prop) → Prop
abbrev TX := En → (D → Prop) → (Str → Prop) → Prop
def XX (X : Cx) (pins : List (Addr × Obj)) (σ : St) (B : Base) (env : En) (R : Str → Prop) : Value → Shared → Prop := fun ex s' => ∃ (a : Addr) (c : Str) (C : Value) (H' F' : Hp), ex = .ref a ∧ Thrown X pins σ H' a C s' ∧ Rep X.K B F' H' σ env ∧ X.mg c = some C ∧ R c
structure QX (X : Cx) (e : Expr) (t : TX) : Prop where
  of ::
  run : ∀ (B : Base) (σ : St) (F H : Hp) (env : En) (Q : D → Prop) (R : Str → Prop), Rep X.K B F H σ env → t env Q R → ∀ (pins : List (Addr × Obj)) (s : Shared), Inv X pins σ H s →
    wpAny (model X.prog X.w) X.A (eval e X.env) (EP X pins σ (RV X B σ env F Q)) (XX X pins σ B env R) s
def cCallX (f : FwX) (ts : TDs) : TX := fun env Q R => ts env fun xs => f xs Q R
section
variable {X : Cx} {e : Expr} {es : List Expr} {ts : TDs} {tx : TX} {p pos : Pos} {x : Str} {k : Nat} {f : FwX}
theorem QX.w (h : QX X e tx) {B : Base} {σ : St} {F H : Hp} {env : En} {Q : D → Prop} {R : Str → Prop} (rp : Rep X.K B F H σ env) (hq : tx env Q R) : wE (X.wish (XZ X B R)) e σ H (RV X B σ env F Q) := fun pins s I =>
  wpAny_mono (h.run B σ F H env Q R rp hq pins s I.unwish) (fun _ _ ⟨v, H', I', r, q⟩ => ⟨v, H', I'.wish _, r, q⟩) fun ex s' ⟨a, c, C, H', F', e, t, r, m, x⟩ => ⟨pins, a, c, C, σ, H', F', env, e, t, r, m, x⟩
def zRet (tx : TX) : TS4 := fun D env => tx env D.rt D.xc
def zSet (i : Nat) (tx : TX) : TS4 := fun D env => tx env (fun x => D.nx (env.set i (some (.d x)))) D.xc
def zExpr (tx : TX) : TS4 := fun D env => tx env (fun _ => D.nx env) D.xc
end
section
variable {X : Cx} {pins : List (Addr × Obj)} {σ : St} {H H' : Hp} {a : Addr} {s s' : Shared}
theorem Flies.ext {a C : Addr} {h : Heap} {H : Hp} {h0 : Heap} (f : Flies H h0 h a (.ref C)) : excAt a C h := by
  obtain ⟨_, _, oe, vs, he, hc, hdc, hdt, _⟩ := f
  exact ⟨oe, vs, he, hc, hdc, hdt⟩
end
end L2.L3
set_option Elab.async false
set_option linter.all false
set_option maxRecDepth 100000
set_option maxHeartbeats 4000000
namespace L2.L3
open PySem PySem.Spec PyProof.Rows
section
variable {X : Cx} {pins : List (Addr × Obj)} {σ : St} {H H' : Hp} {a C : Addr} {s s' : Shared}
theorem ThrownD.land {M : Model} {A : Around} {C : Value} {dd : Option Addr} {Q : Unit → Shared → Prop} {E : Value → Shared → Prop} (t : ThrownD X pins σ H' a C dd s') (h : ∀ s'', ThrownD X pins σ H' a C dd s'' → Q () s'') : wpAny M A (setFlight (.ref a) none) Q E s' := by
  obtain ⟨Hc, sc, I, os, bare, un, hok, n0, na, oe, vs, he, hc, hdc, hd, z⟩ := t
  rcases z with z | ⟨T, oT, ts, h1, hT0, hTn, hTa, hT, hdT, h3⟩
  · unfold setFlight
    refine wpAny_bind (wpAny_field he hd z ?_)
    rw [if_neg (by decide)]
    exact wpAny_pure (h _ ⟨Hc, sc, I, os, bare, un, hok, n0, na, oe, vs, he, hc, hdc, hd, .inl z⟩)
  · refine wpAny_setFlight_none he hd h1 hT hdT (Array.getElem?_eq_some_iff.mp h3).1 (h _ ?_)
    have other : ∀ b, b ≠ T → (s'.heap.update T (Obj.mapFields (·.setIfInBounds 3 Value.none))).get? b = s'.heap.get? b := fun b hb => Heap.get?_update_other _ _ (Ne.symm hb)
    have old : ∀ b o, sc.heap.get? b = some o → b ≠ T := fun b o e z => by subst z; rw [hT0] at e; cases e
    have trk : ∀ b u, H' b = some u → b ≠ T := fun b u e z => by subst z; rw [hTn] at e; cases e
    refine ⟨Hc, sc, I, os, bare, ⟨fun b o e n hb hx => (other b (old b o e)).trans (un.keep b o e n hb hx), fun b o e n hb hx => ?_, un.free, fun b o e hx => ?_, un.tups, un.frzs, un.tbls⟩, fun b u e => ?_, n0, na, oe, vs, (other a (Ne.symm hTa)).trans he, hc, hdc, hd, .inr ⟨T, _, _, h1, hT0, hTn, hTa, Heap.get?_update_self _ hT (Obj.isFreed_of_fields (Obj.data_mapFields hdT _)), Obj.data_mapFields hdT _, ?_⟩⟩
    · obtain ⟨sl, q⟩ := un.slot b o e n hb hx
      exact ⟨sl, (other b (old b o e)).trans q⟩
    · obtain ⟨o', q⟩ := un.there b o e hx
      exact ⟨o', (other b (old b o e)).trans q⟩
    · refine (hok b u e).stay (fun c v hc q => ?_) (fun _ q => q) (fun _ _ q => q) fun _ _ _ q => q
      refine (other c ?_).trans q
      rcases hc with z | z
      · subst z; exact trk c u e
      · exact trk c _ z
    · have := (Array.getElem?_eq_some_iff.mp h3).1
      simp [Array.getElem?_setIfInBounds, this]
theorem Inv.goes {h' : Heap} {m' : Str → Option Value} {t' : Nat} (I : Inv X pins σ H s) (hn : h'.Ns X.env.locals m') (hs : Heap.SameBut X.env.locals s.heap h') : Inv X pins (σ.map fun _ => none) H { s with heap := h', toks := t' } := by
  have lo : ∀ b o, X.s₀.heap.get? b = some o → b ≠ X.env.locals := fun b o e => Nat.ne_of_lt (Nat.lt_of_lt_of_le (Heap.lt_size e) I.ok.above)
  refine ⟨I.ok, I.os, I.bare, ⟨fun b o e n hb hx => (hs.2 b (lo b o e)).trans (I.base.keep b o e n hb hx), fun b o e n hb hx => ?_, I.base.free, fun b o e hx => ?_, I.base.tups, I.base.frzs, I.base.tbls⟩, ⟨m', hn, fun i x v e1 e2 => ?_⟩, fun y c e => ?_, I.free, I.freeC, fun p hp => ?_, fun b ob e => ?_, by simpa using I.len⟩
  · obtain ⟨sl, e1⟩ := I.base.slot b o e n hb hx
    exact ⟨sl, (hs.2 b (lo b o e)).trans e1⟩
  · obtain ⟨o', e1⟩ := I.base.there b o e hx
    exact ⟨o', (hs.2 b (lo b o e)).trans e1⟩
  · rw [List.getElem?_map] at e2
    cases q : σ[i]? with
    | none => rw [q] at e2; cases e2
    | some u => rw [q] at e2; cases e2
  · obtain ⟨w', z⟩ := I.cell y c e
    exact ⟨w', z.sameBut hs (I.cne y c e)⟩
  · obtain ⟨e, n, ne, nf, d⟩ := I.pin p hp
    exact ⟨(hs.2 p.1 ne).trans e, n, ne, nf, d⟩
  · refine (I.hok b ob e).stay (fun c w' hc q => (hs.2 c ?_).trans q) (fun _ q => q) (fun _ _ q => q) fun _ _ _ q => q
    have hfree := I.free
    rintro rfl
    rcases hc with z | hc
    · rw [← z, hfree] at e; cases e
    · rw [hfree] at hc; cases hc
end
abbrev Cx.hand (X : Cx) (a : Addr) : Cx := { X with A := X.A.mark (some (.ref a)), calm := false, xe := fun _ _ => False }
theorem Inv.hand {X : Cx} {pins : List (Addr × Obj)} {σ : St} {H : Hp} {s : Shared} (I : Inv X pins σ H s) (a : Addr) : Inv (Cx.hand X a) pins σ H s :=
  ⟨⟨I.ok.mod, I.ok.kind, I.ok.glob, I.ok.blt, I.ok.above, I.ok.inj, I.ok.has, I.ok.cab, (fun z => by cases z), I.ok.frames, I.ok.stk, I.ok.exf, I.ok.bs, I.ok.bsz, I.ok.noex, I.ok.exfs, I.ok.funs, I.ok.frf⟩, I.os, I.bare, I.base, I.loc, I.cell, I.free, I.freeC, I.pin, I.hok, I.len⟩
theorem Inv.unhand {X : Cx} {a : Addr} {pins : List (Addr × Obj)} {σ : St} {H : Hp} {s : Shared} (ok : X.Ok) (I : Inv (Cx.hand X a) pins σ H s) : Inv X pins σ H s :=
  ⟨ok, I.os, I.bare, I.base, I.loc, I.cell, I.free, I.freeC, I.pin, I.hok, I.len⟩
def dTry (i : Nat) (cls : Str) (tx : TX) (tb : TS3) : TS3 := fun D env => tx env (fun _ => D.nx env) fun c => c = cls ∧ tb { nx := fun _ => False, rt := D.rt } (env.set i (some (.d (.exc cls))))
structure XcOk (K : PySem.W.Frag) (C : Addr) : Prop where
  ga : PySem.W.findIn K (.ref C) "__getattribute__" = some (some (.builtin "BaseException.__getattribute__"))
  hk : PySem.W.findIn K (.ref C) "__getattr__" = some none
  dct : PySem.W.hasDictIn K C = true
  fnd : PySem.W.findIn K (.ref C) "__class__" = some (some (.builtin "object.__class__"))
  gt : PySem.W.specialIn K (.builtin "object.__class__") "__get__" = some (some (.builtin "getset_descriptor.__get__"))
  tk : PySem.W.takesIn K (.builtin "object.__class__") = some true
  mro : PySem.W.mroIn K C (.type "object") = some true
  sub : PySem.W.subIn K (.ref C) (.type "BaseException") = some true
theorem exc_cls {K : PySem.W.Frag} {C : Addr} (h : PySem.W.hasDictIn K C = true) : ∃ c d cd sl, K.lookup C = some ⟨c, d, .cls cd, sl⟩ := by
  obtain ⟨_, q, _⟩ := PySem.W.any_some h
  unfold PySem.W.clsIn at q
  split at q
  · exact ⟨_, _, _, _, ‹_›⟩
  · cases q
theorem qcls {X : Cx} {c : Str} {p : Pos} {C : Addr} (ac : PySem.W.nsIn X.K mainGlobals c = some (some (.ref C))) (hg : Gl X c := by rfl) (hdb : (c == ("__debug__" : Str)) = false := by decide) : QE X (.Name c p) (cC (.cls c)) := by
  refine ⟨fun B σ F H env Q rp hq pins s I => ?_⟩
  refine ld_glob I hg (PySem.W.mg_of I.ok.mod.kin I.ok.mod.glob ac) ?_ hdb
  exact ⟨.ref C, H, I, rfl, F, .cls c, rp, Same.refl _, by simp only [Den]; exact ⟨C, rfl, ac⟩, hq⟩
inductive ClsL (K : PySem.W.Frag) : List D → List Value → Prop where
  | nil : ClsL K [] []
  | cons {c : Str} {C : Addr} {ds : List D} {vs : List Value} (h : PySem.W.nsIn K mainGlobals c = some (some (.ref C))) (r : ClsL K ds vs) : ClsL K (.cls c :: ds) (.ref C :: vs)
inductive KitD (K : PySem.W.Frag) (C : Addr) : D → Bool → Prop where
  | ty {n : String} {b : Bool} (e : PySem.W.kitOne K (.ref C) (.type n) = some b) : KitD K C (.ty n) b
  | cls {d : Str} {C' : Addr} {b : Bool} (h : PySem.W.nsIn K mainGlobals d = some (some (.ref C'))) (e : PySem.W.kitOne K (.ref C) (.ref C') = some b) : KitD K C (.cls d) b
  | tup {ds : List D} {vs : List Value} {b : Bool} (h : ClsL K ds vs) (e : PySem.W.kitAny K (.ref C) vs = some b) : KitD K C (.tup ds) b
theorem ClsL.vals {K : PySem.W.Frag} {F : Hp} : ∀ {ds : List D} {vs : List Value} {xs : List V} {us : List Value}, ClsL K ds vs → DenL K F ds xs → Vals xs us → us = vs
  | _, _, xs, us, .nil, h, r => by
    simp only [DenL] at h; subst h
    cases r; rfl
  | _, _, xs, us, .cons hc rr, h, r => by
    simp only [DenL] at h
    obtain ⟨v, rs, rfl, hd, hr⟩ := h
    simp only [Den] at hd
    obtain ⟨C', rfl, e⟩ := hd
    rw [hc] at e
    cases e
    cases r with
    | cons q1 q2 =>
      have e1 := (show _ = Value.ref _ from q1)
      rw [e1, ClsL.vals rr hr q2]
def isxF (c : Str) (y : D) (b : Bool) (ds : List D) (Q : D → Prop) : Prop := ds = [.exc c, y] ∧ Q (.bl b)
end L2.L3
set_option Elab.async false
set_option linter.all false
set_option maxRecDepth 100000
set_option maxHeartbeats 4000000
namespace L2.L3
open PySem PySem.Spec PyProof.Rows
def isD (x y : D) (Q : D → Prop) : Prop := match x, y with
  | .bl a, .bl b => Q (.bl (a == b))
  | _, _ => False
def isnD (x y : D) (Q : D → Prop) : Prop := match x, y with
  | .bl a, .bl b => Q (.bl (a != b))
  | _, _ => False
theorem isD_bb {a b : Bool} {Q : D → Prop} : isD (.bl a) (.bl b) Q = Q (.bl (a == b)) := rfl
theorem isnD_bb {a b : Bool} {Q : D → Prop} : isnD (.bl a) (.bl b) Q = Q (.bl (a != b)) := rfl
theorem boot_VE : bootBuiltins "ValueError" = some (.type "ValueError") := by decide +kernel
end L2.L3
set_option Elab.async false
set_option linter.all false
set_option maxRecDepth 100000
set_option maxHeartbeats 4000000
namespace L2.L3
open PySem PySem.Spec PyProof.Rows
section
variable {X : Cx} {e : Expr} {ts : TDs} {p pos : Pos}
def listOfR (ds : List D) (Q : List D → Prop) : Prop := match ds with
  | [.lst xs] => Q xs
  | [.tup xs] => Q xs
  | _ => False
theorem listOfR_l {xs : List D} {Q : List D → Prop} : listOfR [.lst xs] Q = Q xs := rfl
theorem listOfR_t {xs : List D} {Q : List D → Prop} : listOfR [.tup xs] Q = Q xs := rfl
def cListOf (ts : TDs) : TDs := fun env Q => ts env fun ds => listOfR ds Q
end
section
variable {X : Cx} {es : List Expr} {pos : Pos}
def kLst (n : Nat) (gs : TGs3) : TG3 := fun x env Q => ∃ xs, x = .lst xs ∧ xs.length = n ∧ gs xs env Q
end
end L2.L3
set_option Elab.async false
set_option linter.all false
set_option maxRecDepth 100000
set_option maxHeartbeats 4000000
namespace L2.L3
open PySem PySem.Spec PyProof.Rows
section
variable {X : Cx} {a b c e : Expr} {ta tb tc : TD} {ts : TDs} {pos : Pos}
def cChain (f f' : D → D → (D → Prop) → Prop) (ta tb tc : TD) : TD := fun env Q => ta env fun x => tb env fun y => f x y fun z => ∃ k, z = .bl k ∧ (if k = true then tc env fun w => f' y w Q else Q (.bl false))
end
end L2.L3
set_option Elab.async false
set_option linter.all false
set_option maxRecDepth 100000
set_option maxHeartbeats 4000000
namespace L2.L3
open PySem PySem.Spec PyProof.Rows
section
variable {X : Cx} {p pos : Pos}
def cLenOwn (i : Nat) : TD := fun env Q => ∃ xs, env[i]? = some (some (.own xs)) ∧ Q (.int xs.length)
end
end L2.L3
set_option Elab.async false
set_option linter.all false
set_option maxRecDepth 100000
set_option maxHeartbeats 4000000
set_option Elab.async false
set_option linter.all false
set_option maxRecDepth 100000
set_option maxHeartbeats 4000000
namespace L2.L3
open PySem PySem.Spec PyProof.Rows
section
variable {X : Cx} {b : Expr} {tb : TD} {x : Str} {tab : List (Str × Str)} {a : Addr} {es : Array DictEntry} {n : Nat} {p pos : Pos}
def cInG (tab : List (Str × Str)) (tb : TD) : TD := fun env Q => tb env fun y => ∃ z, y = .str z ∧ Q (.bl (tab.lookup z).isSome)
def cIxG (tab : List (Str × Str)) (tb : TD) : TD := fun env Q => tb env fun y => ∃ z v, y = .str z ∧ tab.lookup z = some v ∧ Q (.str v)
end
end L2.L3
set_option Elab.async false
set_option linter.all false
set_option maxRecDepth 100000
set_option maxHeartbeats 4000000
namespace L2.L3
open PySem PySem.Spec PyProof.Rows
section
variable {X : Cx} {e : Expr} {ts : TDs} {p pos : Pos}
def cOwnT (i : Nat) : TB := fun env Q => ∃ xs, env[i]? = some (some (.own xs)) ∧ Q (!xs.isEmpty)
def dPop (i : Nat) : TS3 := fun D env => ∃ xs, env[i]? = some (some (.own xs)) ∧ xs ≠ [] ∧ D.nx (env.set i (some (.own xs.dropLast)))
def cListS (ts : TDs) : TDs := fun env Q => ts env fun ds => ∃ z, ds = [.str z] ∧ z.length ≤ sizeLine ∧ Q (signsD z)
end
end L2.L3
set_option Elab.async false
set_option linter.all false
set_option maxRecDepth 100000
set_option maxHeartbeats 4000000
namespace L2.L3
open PySem
section
variable {Q : D → Prop} {i j : Int} {xs ys : List D} {z z' : Str} {C : Int → Int → Prop} {g : Int → Int → D} {k : Bool}
theorem ii_eq : iiD C g (.int i) (.int j) Q = (C i j ∧ Q (g i j)) := rfl
theorem addD_ii : addD (.int i) (.int j) Q = Q (.int (i + j)) := rfl
theorem addD_ll : addD (.lst xs) (.lst ys) Q = (xs.length + ys.length ≤ sizeLine ∧ Q (.lst (xs ++ ys))) := rfl
theorem addD_tt : addD (.tup xs) (.tup ys) Q = (xs.length + ys.length ≤ sizeLine ∧ Q (.tup (xs ++ ys))) := rfl
theorem addD_ss : addD (.str z) (.str z') Q = (z.length + z'.length ≤ sizeLine ∧ Q (.str (z ++ z'))) := rfl
theorem negD_i : negD (.int i) Q = Q (.int (-i)) := rfl
theorem eqF_ii : eqF (.int i) (.int j) Q = Q (.bl (decide (i = j))) := by
  unfold eqF DepOk; simp only [dep, eqD, Nat.zero_le, and_self, true_and]; rw [Bool.beq_eq_decide_eq]
theorem neF_ii : neF (.int i) (.int j) Q = Q (.bl (!decide (i = j))) := by
  unfold neF DepOk; simp only [dep, eqD, Nat.zero_le, and_self, true_and]; rw [Bool.beq_eq_decide_eq]
theorem eqF_ss : eqF (.str z) (.str z') Q = Q (.bl (z == z')) := by
  unfold eqF DepOk; simp only [dep, eqD, Nat.zero_le, and_self, true_and]
theorem eqF_bb {k' : Bool} : eqF (.bl k) (.bl k') Q = Q (.bl (k == k')) := by
  unfold eqF DepOk; simp only [dep, eqD, Nat.zero_le, and_self, true_and]
theorem absF_i : absF [.int i] Q = Q (.int i.natAbs) := by
  show Q _ = Q _
  congr 2
  split <;> omega
theorem lenF_l : lenF [.lst xs] Q = Q (.int xs.length) := rfl
theorem lenF_t : lenF [.tup xs] Q = Q (.int xs.length) := rfl
theorem lenF_s : lenF [.str z] Q = (z.length ≤ sizeLine ∧ Q (.int z.length)) := rfl
theorem maxF_ii : maxF [.int i, .int j] Q = Q (.int (max i j)) := by
  show Q _ = Q _
  congr 2
  split <;> omega
theorem minF_ii : minF [.int i, .int j] Q = Q (.int (min i j)) := by
  show Q _ = Q _
  congr 2
  split <;> omega
theorem intF_i : intF [.int i] Q = Q (.int i) := rfl
theorem intF_b : intF [.bl k] Q = Q (.int (if k then 1 else 0)) := rfl
theorem listF_l : listF [.lst xs] Q = Q (.lst xs) := rfl
theorem listF_t : listF [.tup xs] Q = Q (.lst xs) := rfl
theorem tupleF_l : tupleF [.lst xs] Q = Q (.tup xs) := rfl
theorem tupleF_t : tupleF [.tup xs] Q = Q (.tup xs) := rfl
theorem itemsD_l : itemsD (.lst xs) = some xs := rfl
theorem itemsD_t : itemsD (.tup xs) = some xs := rfl
theorem slD_l {lo hi : Option Int} : slD (.lst xs) lo hi Q = Q (.lst (cutD xs lo hi)) := rfl
theorem rng1_i {R : Int → Nat → Prop} : rng1 [.int j] R = ((-(2 ^ 62) ≤ j ∧ j < 2 ^ 62) ∧ R 0 j.toNat) := rfl
theorem rng2_i {R : Int → Nat → Prop} : rng2 [.int i, .int j] R = ((-(2 ^ 62) ≤ i ∧ i < 2 ^ 62 ∧ -(2 ^ 62) ≤ j ∧ j < 2 ^ 62) ∧ R i (j - i).toNat) := rfl
def Pl (x : D) : Prop := kdD x ≠ .oth
def isInt : D → Bool | .int _ => true | .bl _ => true | _ => false
def isStr : D → Bool | .str _ => true | _ => false
def isTup : D → Bool | .tup _ => true | _ => false
theorem isi_str {x : D} (h : Pl x) (q : Q (.bl (isStr x))) : isiR "str" x Q := by cases x <;> first | exact ⟨_, rfl, q⟩ | exact absurd rfl h
theorem isi_tup {x : D} (h : Pl x) (q : Q (.bl (isTup x))) : isiR "tuple" x Q := by cases x <;> first | exact ⟨_, rfl, q⟩ | exact absurd rfl h
end
def two2 (xs : List D) (R : D → D → Prop) : Prop := match xs with | [x, y] => R x y | _ => False
theorem two2_eq {x y : D} {R : D → D → Prop} : two2 [x, y] R = R x y := rfl
theorem dPar_eq (i j : Nat) (ts : TDs) (Z : Ends3) (env : En) : dPar i j ts Z env = ts env fun xs => two2 xs fun x y => Z.nx ((env.set i (some (.d x))).set j (some (.d y))) := by
  unfold dPar two2
  congr 1; funext xs; apply propext
  constructor
  · rintro ⟨x, y, rfl, h⟩; exact h
  · intro h; split at h
    · exact ⟨_, _, rfl, h⟩
    · exact h.elim
def cons1 (xs : List D) (R : D → List D → Prop) : Prop := match xs with | x :: r => R x r | _ => False
theorem cons1_eq {x : D} {r : List D} {R : D → List D → Prop} : cons1 (x :: r) R = R x r := rfl
theorem kCons_eq (g : TG3) (gs : TGs3) (xs : List D) (env : En) (Q : En → Prop) : kCons g gs xs env Q = cons1 xs fun x r => g x env fun env' => gs r env' Q := by
  unfold kCons cons1
  apply propext
  constructor
  · rintro ⟨x, y, rfl, h⟩; exact h
  · intro h; split at h
    · exact ⟨_, _, rfl, h⟩
    · exact h.elim
theorem turns_of {g : TG3} {tb : TS3} {Z : Ends3} {xs : List D} (I : Nat → En → Prop)
    (step : ∀ (i : Nat) (x : D) (env : En) (N : En → Prop), xs[i]? = some x → I i env → (∀ e, I (i + 1) e → N e) → g x env fun e => tb { Z with nx := N, ct := N, bk := Z.nx } e)
    (done : ∀ env, I xs.length env → Z.nx env) {env : En} (h0 : I 0 env) : turns g tb Z xs env := by
  have go : ∀ (n k : Nat) (env : En), k + n = xs.length → I k env → turns g tb Z (xs.drop k) env := by
    intro n
    induction n with
    | zero =>
      intro k env hk h
      rw [List.drop_eq_nil_of_le (by omega)]
      exact done env (by rw [← hk]; exact h)
    | succ n ih =>
      intro k env hk h
      have hx : xs[k]? = some (xs[k]'(by omega)) := by simp
      rw [drop_cons hx]
      exact step k _ env _ hx h fun e he => ih (k + 1) e (by omega) he
  simpa using go xs.length 0 env (by omega) h0
theorem atI_nat {α : Type} {xs : List α} {i : Int} (h0 : 0 ≤ i) (h1 : i < xs.length) : atI xs i = xs[i.toNat]? := by
  unfold L2.atI ixN
  rw [if_pos h0, if_pos h1]; rfl
theorem fmod_range {a b : Int} (h : 0 < b) : 0 ≤ a.fmod b ∧ a.fmod b < b := ⟨Int.fmod_nonneg_of_pos a h, Int.fmod_lt_of_pos a h⟩
def Bits (n : Nat) (a : Int) : Prop := a.natAbs < 2 ^ n
theorem div_ok {n : Nat} {a b : Int} (hb : Bits n b) (h0 : b ≠ 0) (hn : n ≤ 9000) : DivOk a b := by
  refine ⟨h0, ?_⟩
  have : b.natAbs ≠ 0 := by omega
  exact Nat.lt_of_lt_of_le ((Nat.log2_lt this).mpr hb) hn
theorem mul_ok_l {a b : Int} (h1 : -(2 ^ 64) < a) (h2 : a < 2 ^ 64) : IntMulOk a b := .of_left (intBits_le_64 h1 h2)
theorem mul_ok_r {a b : Int} (h1 : -(2 ^ 64) < b) (h2 : b < 2 ^ 64) : IntMulOk a b := .of_right (intBits_le_64 h1 h2)
theorem divL {c : Int} (j : Int) (h : j ≠ 0 ∧ j.natAbs < 2 ^ 256) : DivOk c j := div_ok (n := 256) h.2 h.1 (by decide)
theorem powL (i j : Int) (h : 0 ≤ j ∧ j ≤ 1000000 ∧ i.natAbs < 2 ^ 64) : CPow i j := h
theorem modL {c : Int} (j : Int) (h : j ≠ 0) : ModOk c j := h
theorem bitsL (n : Nat) (a : Int) (h : a.natAbs < 2 ^ n) : Bits n a := h
def Digs (m : Nat) (b : Int) (d : D) : Prop := ∃ xs : List Int, d = .lst (xs.map D.int) ∧ xs.length = m ∧ ∀ x ∈ xs, 0 ≤ x ∧ x < b
end L2.L3
local macro_rules | `(tactic| simp_all_arith only [$ls,*]) => `(tactic| ((try dsimp only [$(⟨ls.elemsAndSeps⟩),*, L2.L3.dSeq, L2.L3.dIf, L2.L3.dRet, L2.L3.dRetN, L2.L3.dNext, L2.L3.dBreak, L2.L3.dCont, L2.L3.dNever, L2.L3.dSet, L2.L3.dAsg, L2.L3.dFor, L2.L3.dForR, L2.L3.dSetOwn, L2.L3.dAppend, L2.L3.dExtend, L2.L3.dFreeze, L2.L3.dPut, L2.L3.cVar, L2.L3.cC, L2.L3.cOp, L2.L3.cUn, L2.L3.cTest, L2.L3.cNot, L2.L3.cAnd, L2.L3.cOr, L2.L3.cAndV, L2.L3.cOrV, L2.L3.cNotV, L2.L3.cIf, L2.L3.cCall, L2.L3.cCons, L2.L3.cNil, L2.L3.cTup, L2.L3.cLst, L2.L3.cIsi, L2.L3.cFresh, L2.L3.cFew, L2.L3.cSl, L2.L3.cPart, L2.L3.cNoPart, L2.L3.cIxOwn, L2.L3.kName, L2.L3.kTup, L2.L3.cDisp, L2.L3.kNil, L2.L3.cTrue, L2.L3.start3, List.map_cons, List.map_nil, List.length_cons, List.length_nil, List.cons_append, List.nil_append, List.getElem?_cons_zero, List.getElem?_cons_succ, List.set_cons_zero, List.set_cons_succ, L2.L3.cComp, L2.L3.cCompR, L2.L3.ii_eq, L2.L3.addD_ii, L2.L3.addD_ll, L2.L3.addD_tt, L2.L3.addD_ss, L2.L3.negD_i, L2.L3.lenF_l, L2.L3.lenF_t, L2.L3.lenF_s, L2.L3.intF_i, L2.L3.intF_b, L2.L3.listF_l, L2.L3.listF_t, L2.L3.tupleF_l, L2.L3.tupleF_t]); (try simp only [$ls,*, L2.L3.dSeq, L2.L3.dIf, L2.L3.dRet, L2.L3.dRetN, L2.L3.dNext, L2.L3.dBreak, L2.L3.dCont, L2.L3.dNever, L2.L3.dSet, L2.L3.dAsg, L2.L3.dPar_eq, L2.L3.two2_eq, L2.L3.dFor, L2.L3.dForR, L2.L3.dSetOwn, L2.L3.dAppend, L2.L3.dExtend, L2.L3.dFreeze, L2.L3.dPut, L2.L3.cVar, L2.L3.cC, L2.L3.cOp, L2.L3.cUn, L2.L3.cTest, L2.L3.cNot, L2.L3.cAnd, L2.L3.cOr, L2.L3.cAndV, L2.L3.cOrV, L2.L3.cNotV, L2.L3.cIf, L2.L3.cCall, L2.L3.cCons, L2.L3.cNil, L2.L3.cTup, L2.L3.cLst, L2.L3.cIsi, L2.L3.cFresh, L2.L3.cFew, L2.L3.cSl, L2.L3.cPart, L2.L3.cNoPart, L2.L3.cIxOwn, L2.L3.kName, L2.L3.kTup, L2.L3.kCons_eq, L2.L3.cons1_eq, L2.L3.cDisp, L2.L3.kNil, L2.L3.cTrue, L2.L3.start3, List.map_cons, List.map_nil, List.length_cons, List.length_nil, List.cons_append, List.nil_append, List.append_nil, List.getElem?_cons_zero, List.getElem?_cons_succ, List.getElem?_nil, List.set_cons_zero, List.set_cons_succ, Option.some.injEq, L2.L3.Lo.d.injEq, L2.L3.Lo.own.injEq, L2.L3.D.bl.injEq, L2.L3.D.int.injEq, exists_eq_left', exists_eq_left, Nat.reduceAdd, Nat.reduceSub, Nat.sub_self, Nat.add_one_sub_one, List.replicate_succ, List.replicate_zero, L2.L3.D.tup.injEq, List.cons.injEq, and_assoc, L2.L3.cComp, L2.L3.cCompR, L2.L3.ii_eq, L2.L3.addD_ii, L2.L3.addD_ll, L2.L3.addD_tt, L2.L3.addD_ss, L2.L3.negD_i, L2.L3.eqF_ii, L2.L3.neF_ii, L2.L3.eqF_ss, L2.L3.eqF_bb, L2.L3.absF_i, L2.L3.lenF_l, L2.L3.lenF_t, L2.L3.lenF_s, L2.L3.maxF_ii, L2.L3.minF_ii, L2.L3.intF_i, L2.L3.intF_b, L2.L3.listF_l, L2.L3.listF_t, L2.L3.tupleF_l, L2.L3.tupleF_t, L2.L3.itemsD_l, L2.L3.itemsD_t, L2.L3.slD_l, L2.L3.rng1_i, L2.L3.rng2_i, decide_eq_true_eq, true_and, and_true, if_true, if_false, Bool.false_eq_true, Bool.not_eq_true', decide_eq_false_iff_not, PySem.sizeLine_eq, Int.reduceToNat, Int.reducePow, Int.reduceMul, Int.reduceAdd, Int.reduceNeg, Int.reduceSub, Int.reduceLT, Int.reduceLE, Int.reduceEq, Nat.reduceEqDiff, decide_true, decide_false, Nat.reduceLeDiff, Nat.reduceLT, Bool.true_eq_false, Bool.not_true, Bool.not_false, Bool.not_not])))
set_option Elab.async false
set_option linter.all false
set_option maxRecDepth 100000
set_option maxHeartbeats 4000000
namespace L2.L3
open PySem
def F1 (P : D → (D → Prop) → Prop) : Fw := fun ds Q => ∃ x, ds = [x] ∧ P x Q
def F2 (P : D → D → (D → Prop) → Prop) : Fw := fun ds Q => ∃ x y, ds = [x, y] ∧ P x y Q
def F3 (P : D → D → D → (D → Prop) → Prop) : Fw := fun ds Q => ∃ x y z, ds = [x, y, z] ∧ P x y z Q
theorem lenF1 {P} : ∀ ds Q, F1 P ds Q → ds.length = 1 := by rintro ds Q ⟨x, rfl, _⟩; rfl
theorem lenF2 {P} : ∀ ds Q, F2 P ds Q → ds.length = 2 := by rintro ds Q ⟨x, y, rfl, _⟩; rfl
theorem lenF3 {P} : ∀ ds Q, F3 P ds Q → ds.length = 3 := by rintro ds Q ⟨x, y, z, rfl, _⟩; rfl
theorem F1_eq {P} {x : D} {Q} : F1 P [x] Q = P x Q := by
  unfold F1; apply propext; constructor
  · rintro ⟨x', e, h⟩; cases e; exact h
  · intro h; exact ⟨_, rfl, h⟩
theorem F2_eq {P} {x y : D} {Q} : F2 P [x, y] Q = P x y Q := by
  unfold F2; apply propext; constructor
  · rintro ⟨x', y', e, h⟩; cases e; exact h
  · intro h; exact ⟨_, _, rfl, h⟩
theorem F3_eq {P} {x y z : D} {Q} : F3 P [x, y, z] Q = P x y z Q := by
  unfold F3; apply propext; constructor
  · rintro ⟨x', y', z', e, h⟩; cases e; exact h
  · intro h; exact ⟨_, _, _, rfl, h⟩
end L2.L3
set_option Elab.async false
set_option linter.all false
set_option maxRecDepth 100000
set_option maxHeartbeats 4000000
namespace L2.L3
open PySem
def cellZ (ns : List Int) (k : Int) : Int := if k < ns.length then ns.getD k.toNat 0 else 0
def pCell (x y : D) (Q : D → Prop) : Prop := ∃ (ns : List Int) (k : Int), x = .lst (ns.map D.int) ∧ y = .int k ∧ 0 ≤ k ∧ Q (.int (cellZ ns k))
def f_law_cell : Fw := F2 pCell
def t_law_cell : TS3 := (dSeq (dIf (cTest (cOp ltD (cVar 1) (cCall lenF (cCons (cVar 0) cNil)))) (dRet (cOp ixD (cVar 0) (cVar 1))) dNext) (dRet (cC (.int 0))))
theorem len_law_cell : ∀ ds Q, f_law_cell ds Q → ds.length = 2 := lenF2
theorem ob_law_cell : ∀ ds (Q : D → Prop), f_law_cell ds Q → t_law_cell { nx := fun _ => Q .non, rt := Q } (start3 ["_law_script", "_law_k"] ds) := by
  rintro ds Q ⟨x, y, rfl, ns, k, rfl, rfl, hk, h⟩
  simp_all_arith only [t_law_cell, List.length_map]
  unfold cellZ at h
  by_cases hl : k < ns.length
  · rw [if_pos hl] at h ⊢
    have hn : k.toNat < ns.length := by omega
    refine ⟨.int (ns.getD k.toNat 0), ?_, h⟩
    rw [atI_nat hk (by simpa using hl)]
    simp [hn]
  · rw [if_neg hl] at h ⊢; exact h
def pDigs (x y z : D) (Q : D → Prop) : Prop := ∃ (c b : Int) (m : Nat), x = .int c ∧ y = .int b ∧ z = .int m ∧ 0 < b ∧ Bits 9000 b ∧ m ≤ 100000 ∧ ∀ d, Digs m b d → Q d
def f_law_digits : Fw := F3 pDigs
theorem len_law_digits : ∀ ds Q, f_law_digits ds Q → ds.length = 3 := lenF3
def f_law_mixed : Fw := F3 pDigs
theorem len_law_mixed : ∀ ds Q, f_law_mixed ds Q → ds.length = 3 := lenF3
def f_law_row : Fw := F3 pDigs
theorem len_law_row : ∀ ds Q, f_law_row ds Q → ds.length = 3 := lenF3
end L2.L3
set_option Elab.async false
set_option linter.all false
set_option maxRecDepth 100000
set_option maxHeartbeats 4000000
set_option Elab.async false
set_option linter.all false
set_option maxRecDepth 100000
set_option maxHeartbeats 4000000
set_option Elab.async false
set_option linter.all false
set_option maxRecDepth 100000
set_option maxHeartbeats 4000000
set_option Elab.async false
set_option linter.all false
set_option maxRecDepth 100000
set_option maxHeartbeats 4000000
namespace L2.L3
open PySem PySem.Spec PyProof.Rows
structure StepsN (K : PySem.W.Frag) (J : It) (F1 : Hp) (xs : List D) : Prop where
  go : ∀ (i : Nat) (G H' : Hp), Same F1 G → Same G H' → i < xs.length → J.go i H'
  yld : ∀ (i : Nat) (G H' : Hp) (y : V) (H'' : Hp) (x : D) (B : Base) (σ : St) (env : En), Same F1 G → Rep K B G H' σ env → xs[i]? = some x → J.yld i H' y H'' → ∃ G', Rep K B G' H'' σ env ∧ Same G G' ∧ Den K G' x y
  stop : ∀ (G H' : Hp), Same F1 G → Same G H' → J.stop xs.length H'
theorem Steps.new {K : PySem.W.Frag} {J : It} {F1 : Hp} {xs : List D} (S : Steps K J F1 xs) : StepsN K J F1 xs :=
  ⟨S.go, fun i G H' y H'' x B σ env s1 r hx hy => by
    obtain ⟨e, d⟩ := S.yld i G H' y H'' x s1 r.fh hx hy
    subst e
    exact ⟨G, r, Same.refl _, d⟩, S.stop⟩
def enumD (xs : List D) : List D := xs.mapIdx fun i x => .tup [.int (i : Int), x]
def comps2 (tt : TB) (te : TD) (env0 : En) (Q : List D → Prop) : List D → List D → Prop
  | [], acc => Q acc
  | x :: xs, acc => ∃ a b, x = .tup [a, b] ∧ tt ((env0.set 0 (some (.d a))).set 1 (some (.d b))) fun ok => if ok = true then te ((env0.set 0 (some (.d a))).set 1 (some (.d b))) fun y => acc.length < sizeLine ∧ comps2 tt te env0 Q xs (acc ++ [y]) else comps2 tt te env0 Q xs acc
section
variable {X : Cx} {N' : List Str} {ix : List Nat} {scope : Scope} {elt iter a b : Expr} {ifs : List Expr} {x y : Str} {px py tp pos : Pos} {c : Nat} {tt : TB} {te ti : TD} {ts : TDs}
def cComp2 (ix : List Nat) (ti : TD) (tt : TB) (te : TD) : TDs := fun env Q => ti env fun d => ∃ xs, itemsD d = some xs ∧ comps2 tt te (capE 2 ix env) Q xs []
def enD (d : D) : Option (List D) := match d with | .lst xs => some xs | .tup xs => some xs | _ => none
def dForE (ts : TDs) (g : TG3) (tb : TS3) : TS3 := fun D env => ts env fun ds => ∃ d xs, ds = [d] ∧ enD d = some xs ∧ turns g tb D (enumD xs) env
end
end L2.L3
set_option Elab.async false
set_option linter.all false
set_option maxRecDepth 100000
set_option maxHeartbeats 4000000
namespace L2.L3
open PySem PySem.Spec PyProof.Rows
mutual
theorem eqD_sub : ∀ (a b c : D), eqD a b = true → eqD a c = eqD b c := by
  intro a b c h
  cases a <;> cases b <;> first | (simp only [eqD, Bool.false_eq_true] at h; done) | skip
  all_goals cases c <;> first | rfl | (simp only [eqD, beq_iff_eq] at h ⊢; subst h; rfl) | skip
  all_goals first
    | (simp only [eqD] at h ⊢; exact eqDs_sub _ _ _ h)
    | (simp only [eqD, beq_iff_eq] at h ⊢; rw [Bool.eq_iff_iff]; simp only [beq_iff_eq]; split at h <;> split <;> simp_all <;> omega)
    | (simp only [eqD, beq_iff_eq] at h ⊢; rw [Bool.eq_iff_iff]; simp only [beq_iff_eq]; split at h <;> simp_all)
    | (simp only [eqD, beq_iff_eq] at h ⊢; subst h; rw [Bool.eq_iff_iff]; simp only [beq_iff_eq]; split <;> simp_all)
    | (simp only [eqD, beq_iff_eq] at h ⊢; subst h; split <;> simp_all)
theorem eqDs_sub : ∀ (a b c : List D), eqDs a b = true → eqDs a c = eqDs b c := by
  intro a b c h
  cases a with
  | nil => cases b with
    | nil => rfl
    | cons y r => simp only [eqDs, Bool.false_eq_true] at h
  | cons x r => cases b with
    | nil => simp only [eqDs, Bool.false_eq_true] at h
    | cons y t =>
      simp only [eqDs, Bool.and_eq_true] at h
      cases c with
      | nil => rfl
      | cons z u => simp only [eqDs]; rw [eqD_sub x y z h.1, eqDs_sub r t u h.2]
end
section
variable {X : Cx} {pins : List (Addr × Obj)} {σ : St} {H F : Hp} {s : Shared}
open Classical in
noncomputable def eAtU (us : List Value) (ds : List D) (d : D) (u : Value) : Bool := decide (∃ (i : Nat) (x : D), us[i]? = some u ∧ ds[i]? = some x ∧ eqD x d = true)
open Classical in
theorem eAtU_of (I : Inv X pins σ H s) (fh : Same F H) {ds : List D} {vs : List V} {us : List Value} {d : D} (hd : depL ds < 1000) (dl : DenL X.K F ds vs) (rv : Vals vs us) {j : Nat} {x : D} {u : Value} (hx : ds[j]? = some x) (hu : us[j]? = some u) : eAtU us ds d u = eqD x d := by
  unfold eAtU
  have dle : ∀ (k : Nat) (y : D), ds[k]? = some y → dep y < 1000 := fun k y hy => by
    clear dl rv hx hu
    induction ds generalizing k with
    | nil => simp at hy
    | cons z r ih =>
      simp only [depL] at hd
      cases k with
      | zero => simp at hy; subst hy; omega
      | succ k => exact ih (by omega) k (by simpa using hy)
  cases hb : eqD x d with
  | true => exact decide_eq_true ⟨j, x, hu, hx, hb⟩
  | false =>
    refine decide_eq_false fun hq0 => ?_
    obtain ⟨i, y, h1, h2, h3⟩ := hq0
    obtain ⟨v1, e1, d1⟩ := dl.get hx
    obtain ⟨v2, e2, d2⟩ := dl.get h2
    obtain ⟨w1, g1, r1⟩ := rv.get e1
    obtain ⟨w2, g2, r2⟩ := rv.get e2
    rw [hu] at g1; cases g1
    rw [h1] at g2; cases g2
    have := r1.inj r2
    subst this
    have k := den_inj I fh y x _ (dle _ _ h2) (dle _ _ hx) d2 d1
    rw [eqD_sub y x d k, hb] at h3
    cases h3
theorem eAtU_any (I : Inv X pins σ H s) (fh : Same F H) {ds : List D} {vs : List V} {us : List Value} {d : D} (hd : depL ds < 1000) (dl : DenL X.K F ds vs) (rv : Vals vs us) : us.map (eAtU us ds d) = ds.map fun x => eqD x d := by
  have l1 := dl.length
  have l2 := rv.length
  apply List.ext_getElem?
  intro i
  rw [List.getElem?_map, List.getElem?_map]
  by_cases hi : i < ds.length
  · have h1 : ds[i]? = some ds[i] := by simp [hi]
    have h2 : us[i]? = some (us[i]'(by omega)) := List.getElem?_eq_getElem _
    rw [h1, h2]
    simp only [Option.map_some]
    rw [eAtU_of I fh hd dl rv h1 h2]
  · rw [List.getElem?_eq_none (by omega), List.getElem?_eq_none (by omega)]; rfl
end
section
variable {X : Cx} {a b : Expr} {ta tb : TD} {pos : Pos}
def rInD (X : Cx) (neg : Bool) : R2 := fun x y H Q => ∃ (F : Hp) (d : D) (ds : List D) (vs : List V) (p : Addr), Same F H ∧ Den X.K F d x ∧ y = .ref p ∧ (SqL X.K F p vs ∨ SqT X.K F p vs) ∧ DenL X.K F ds vs ∧ X.A.units + 64 < cLine ∧ depL ds ≤ 60 ∧ dep d ≤ 60 ∧ Q (.bl (if neg then !ds.any (fun e => eqD e d) else ds.any fun e => eqD e d)) H
theorem any_map' {α : Type} (f : α → Bool) (l : List α) : l.any f = (l.map f).any id := by rw [List.any_map]; rfl
theorem in_items {X : Cx} {pins : List (Addr × Obj)} {σ : St} {H F : Hp} {s : Shared} (I : Inv X pins σ H s) (fh : Same F H) {ds : List D} {vs : List V} {us : List Value} {d : D} {x : V} {v : Value} (hu : X.A.units + 64 < cLine) (hds : depL ds ≤ 60) (hd : dep d ≤ 60) (dl : DenL X.K F ds vs) (rv : Vals vs us) (dx : Den X.K F d x) (rx : RelV x v) :
    ∀ u ∈ us, SeqAt.EqAt X.A.in1 s u v (eAtU us ds d u) := by
  intro u hu'
  obtain ⟨j, hj, e⟩ := List.getElem_of_mem hu'
  have h2 : us[j]? = some u := by rw [← e]; simp [hj]
  have l1 := dl.length
  have l2 := rv.length
  have h1 : ds[j]? = some (ds[j]'(by omega)) := List.getElem?_eq_getElem _
  rw [eAtU_of I fh (by omega) dl rv h1 h2]
  obtain ⟨w, g1, g2⟩ := dl.get h1
  obtain ⟨u', g3, g4⟩ := rv.get g1
  rw [h2] at g3; cases g3
  have dle : dep (ds[j]'(by omega)) ≤ 60 := by
    have go : ∀ (l : List D) (n : Nat), depL l ≤ n → ∀ y ∈ l, dep y ≤ n := by
      intro l
      induction l with
      | nil => intro n _ y hy; cases hy
      | cons z r ih =>
        intro n hn y hy
        simp only [depL] at hn
        rcases List.mem_cons.mp hy with rfl | hy
        · omega
        · exact ih n (by omega) y hy
    exact go ds 60 hds _ (List.getElem_mem _)
  exact eqAt_one I fh _ d X.A.in1 _ x u v (by rw [units_in1]; omega) (by omega) (by omega) g2 dx g4 rx
theorem op_inD : OpR X (compareOp .In) (rInD X false) := by
  intro pins s σ H x y v u Q I rx ry h
  obtain ⟨F, d, ds, vs, p, fh, dx, rfl, hq, dl, hu, h1, h2, q⟩ := h
  cases ry
  rcases hq with hq | hq
  · obtain ⟨its, r, pl, hz⟩ := I.list (fh.seq hq)
    refine SeqAt.in_listAt (eAtU its ds d) pl.isList (fun w hw => in_items I fh hu h1 h2 dl r dx rx w (by simpa using hw)) ⟨.bl _, H, I, rfl, ?_⟩
    rw [show its.toArray.any (eAtU its ds d) = its.any (eAtU its ds d) by simp, any_map', eAtU_any I fh (by omega) dl r, ← any_map']
    exact q
  · obtain ⟨its, r, pl, hz⟩ := I.tuple (Same.seqT fh hq)
    refine SeqAt.in_tupleAt (eAtU its ds d) pl (fun w hw => in_items I fh hu h1 h2 dl r dx rx w (by simpa using hw)) ⟨.bl _, H, I, rfl, ?_⟩
    rw [show its.toArray.any (eAtU its ds d) = its.any (eAtU its ds d) by simp, any_map', eAtU_any I fh (by omega) dl r, ← any_map']
    exact q
theorem op_ninD : OpR X (compareOp .NotIn) (rInD X true) := by
  intro pins s σ H x y v u Q I rx ry h
  obtain ⟨F, d, ds, vs, p, fh, dx, rfl, hq, dl, hu, h1, h2, q⟩ := h
  cases ry
  rcases hq with hq | hq
  · obtain ⟨its, r, pl, hz⟩ := I.list (fh.seq hq)
    refine SeqAt.notIn_listAt (eAtU its ds d) pl.isList (fun w hw => in_items I fh hu h1 h2 dl r dx rx w (by simpa using hw)) ⟨.bl _, H, I, rfl, ?_⟩
    rw [show its.toArray.any (eAtU its ds d) = its.any (eAtU its ds d) by simp, any_map', eAtU_any I fh (by omega) dl r, ← any_map']
    exact q
  · obtain ⟨its, r, pl, hz⟩ := I.tuple (Same.seqT fh hq)
    refine SeqAt.notIn_tupleAt (eAtU its ds d) pl (fun w hw => in_items I fh hu h1 h2 dl r dx rx w (by simpa using hw)) ⟨.bl _, H, I, rfl, ?_⟩
    rw [show its.toArray.any (eAtU its ds d) = its.any (eAtU its ds d) by simp, any_map', eAtU_any I fh (by omega) dl r, ← any_map']
    exact q
def inLD (neg : Bool) (x y : D) (Q : D → Prop) : Prop := ∃ ds, enD y = some ds ∧ depL ds ≤ 60 ∧ dep x ≤ 60 ∧ Q (.bl (if neg then !ds.any (fun e => eqD e x) else ds.any fun e => eqD e x))
theorem o3_inD (hu : X.A.units + 64 < cLine) (neg : Bool) : Op3 X (rInD X neg) (inLD neg) := by
  intro B σ F H env Q d d' x y Z rp h1 h2 hz hf
  obtain ⟨ds, e, l1, l2, q⟩ := hf
  cases d' with
  | lst xs =>
    simp only [enD] at e; cases e
    simp only [Den] at h2
    obtain ⟨p, vs, rfl, hq, dl⟩ := h2
    exact ⟨F, d, _, vs, p, rp.fh, h1, rfl, .inl hq, dl, hu, l1, l2, hz _ H F _ rp (Same.refl _) den_bl q⟩
  | tup xs =>
    simp only [enD] at e; cases e
    simp only [Den] at h2
    obtain ⟨p, vs, rfl, hq, dl⟩ := h2
    exact ⟨F, d, _, vs, p, rp.fh, h1, rfl, .inr hq, dl, hu, l1, l2, hz _ H F _ rp (Same.refl _) den_bl q⟩
  | _ => simp only [enD] at e; cases e
theorem t_inL (hu : X.A.units + 64 < cLine) (ha : QE X a ta) (hb : QE X b tb) (hm : behindInMarks .In b = false := by rfl) : QT X (.Compare a [.In] [b] pos) (cTest (cOp (inLD false) ta tb)) := qt_cmp op_inD (o3_inD hu false) ha hb hm
theorem t_ninL (hu : X.A.units + 64 < cLine) (ha : QE X a ta) (hb : QE X b tb) (hm : behindInMarks .NotIn b = false := by rfl) : QT X (.Compare a [.NotIn] [b] pos) (cTest (cOp (inLD true) ta tb)) := qt_cmp op_ninD (o3_inD hu true) ha hb hm
def isnoneD (neg : Bool) (x : D) : D := .bl (match x with | .non => !neg | _ => neg)
theorem den_non_iff {K : PySem.W.Frag} {F : Hp} {d : D} {v : V} (h : Den K F d v) : decide (v = .non) = (match d with | .non => true | _ => false) := by
  cases d <;> simp only [Den] at h <;> first | (subst h; rfl) | (obtain ⟨_, _, rfl, _⟩ := h; rfl) | (obtain ⟨_, rfl, _⟩ := h; rfl)
def isNoneF (neg : Bool) (x y : D) (Q : D → Prop) : Prop := y = .non ∧ Q (isnoneD neg x)
theorem o3_notN : Op3 X (fun x y H Q => y = .non ∧ Q (.bl (!decide (x = .non))) H) (isNoneF true) := by
  intro B σ F H env Q d d' x y Z rp h1 h2 hz hf
  obtain ⟨rfl, q⟩ := hf
  simp only [Den] at h2
  refine ⟨h2, hz _ H F _ rp (Same.refl _) ?_ q⟩
  rw [den_non_iff h1]
  unfold isnoneD
  cases d <;> exact den_bl
theorem t_isnN (ha : QE X a ta) (hb : QE X b tb) : QT X (.Compare a [.IsNot] [b] pos) (cTest (cOp (isNoneF true) ta tb)) := qt_cmp op_notN o3_notN ha hb (nomark _)
end
end L2.L3
set_option Elab.async false
set_option linter.all false
set_option maxRecDepth 100000
set_option maxHeartbeats 4000000
namespace L2.L3
open PySem PySem.Spec PyProof.Rows
section
variable {X : Cx} {e f : Expr} {te tf : TD} {ts : TDs} {pos : Pos}
def dInsert (i : Nat) (te tf : TD) : TS3 := fun D env => ∃ xs, env[i]? = some (some (.own xs)) ∧ te env fun y => tf env fun x => ∃ k : Int, y = .int k ∧ 0 ≤ k ∧ k ≤ xs.length ∧ xs.length < sizeLine ∧ D.nx (env.set i (some (.own (xs.take k.toNat ++ x :: xs.drop k.toNat))))
def cOwnNe (i : Nat) : TB := fun env Q => ∃ xs, env[i]? = some (some (.own xs)) ∧ depL xs ≤ 50 ∧ Q (!xs.isEmpty)
def dSetPop (j i : Nat) (te : TD) : TS3 := fun Z env => ∃ xs, env[i]? = some (some (.own xs)) ∧ te env fun y => ∃ (k : Nat) (x : D), y = .int k ∧ xs[k]? = some x ∧ k < 2 ^ 62 ∧ Z.nx ((env.set i (some (.own (xs.eraseIdx k)))).set j (some (.d x)))
theorem DenL.eraseIdx {K : PySem.W.Frag} {F : Hp} : ∀ {ds : List D} {vs : List V} (k : Nat), DenL K F ds vs → DenL K F (ds.eraseIdx k) (vs.eraseIdx k)
  | [], vs, k, h => by simp only [DenL] at h; subst h; simpa using denL_nil
  | d :: ds, vs, 0, h => by
    simp only [DenL] at h
    obtain ⟨v, r, rfl, a, b⟩ := h
    exact b
  | d :: ds, vs, k + 1, h => by
    simp only [DenL] at h
    obtain ⟨v, r, rfl, a, b⟩ := h
    exact denL_cons a (DenL.eraseIdx k b)
theorem vals_ints {n : Nat} {acc : Array Value} (h : ItemsOf (fun i v => ∃ t, v = .int ((0 : Int) + i * 1) t) acc n) : Vals ((List.range n).map fun (i : Nat) => V.int (i : Int)) acc.toList := by
  have hl : acc.toList.length = n := by simpa using h.1
  have go : ∀ (l : List Value) (k : Nat), (∀ (j : Nat) (v : Value), l[j]? = some v → ∃ t, v = .int ((k + j : Nat) : Int) t) → Vals ((List.range' k l.length).map fun (i : Nat) => V.int (i : Int)) l := by
    intro l
    induction l with
    | nil => intro k _; exact .nil
    | cons v r ih =>
      intro k hk
      obtain ⟨t, e⟩ := hk 0 v rfl
      refine .cons ⟨t, by simpa using e⟩ (ih (k + 1) fun j w hw => ?_)
      obtain ⟨t', e'⟩ := hk (j + 1) w (by simpa using hw)
      exact ⟨t', by rw [e']; congr 1; omega⟩
  have := go acc.toList 0 fun j v hv => by
    obtain ⟨t, e⟩ := h.2 j v (by simpa using hv)
    exact ⟨t, by rw [e]; congr 1; omega⟩
  rw [hl, ← List.range_eq_range'] at this
  exact this
def cListR (ts : TDs) : TDs := fun env Q => ts env fun ds => ∃ n : Int, ds = [.int n] ∧ (-(2 ^ 62) ≤ n ∧ n ≤ 16777216) ∧ Q (intsD 0 n.toNat)
end
end L2.L3
set_option Elab.async false
set_option linter.all false
set_option maxRecDepth 100000
set_option maxHeartbeats 4000000
namespace L2.L3
open PySem PySem.Spec PyProof.Rows
section
variable {X : Cx} {o e : Expr} {to te : TD} {apos cpos : Pos}
def cCount (to te : TD) : TD := fun env Q => to env fun x => ∃ ds, x = .tup ds ∧ depL ds ≤ 60 ∧ te env fun y => dep y ≤ 60 ∧ Q (.int (ds.countP fun d => eqD d y))
end
end L2.L3
set_option Elab.async false
set_option linter.all false
set_option maxRecDepth 100000
set_option maxHeartbeats 4000000
namespace L2.L3
open PySem PySem.Spec PyProof.Rows
section
variable {X : Cx} {a b e : Expr} {ta te : TD} {pos p2 : Pos}
theorem DenL.reverse {K : PySem.W.Frag} {F : Hp} : ∀ {ds : List D} {vs : List V}, DenL K F ds vs → DenL K F ds.reverse vs.reverse
  | [], vs, h => by simp only [DenL] at h; subst h; exact denL_nil
  | d :: ds, vs, h => by
    simp only [DenL] at h
    obtain ⟨v, r, rfl, x, y⟩ := h
    rw [List.reverse_cons, List.reverse_cons]
    exact (DenL.reverse y).append (denL_cons x denL_nil)
def cRevT (ta te : TD) : TD := fun env Q => ta env fun x => te env fun y => ∃ ds, x = .tup ds ∧ y = .int (-1) ∧ Q (.tup ds.reverse)
def dFdiv (i : Nat) (te : TD) : TS3 := fun Z env => ∃ x, env[i]? = some (some (.d x)) ∧ te env fun y => fdivD x y fun z => Z.nx (env.set i (some (.d z)))
abbrev TDe := En → (D → En → Prop) → Prop
abbrev TDse := En → (List D → En → Prop) → Prop
inductive RVek (K : PySem.W.Frag) (B : Base) (σ : St) (F : Hp) (Q : D → En → Prop) (v : V) (H' : Hp) : Prop
  | mk (F' : Hp) (d : D) (env' : En) (r : Rep K B F' H' σ env') (z : Same F F') (e : Den K F' d v) (q : Q d env')
abbrev RVe (X : Cx) (B : Base) (σ : St) (F : Hp) (Q : D → En → Prop) (v : V) (H' : Hp) : Prop := RVek X.K B σ F Q v H'
structure QEe (X : Cx) (e : Expr) (t : TDe) : Prop where
  of ::
  run : ∀ (B : Base) (σ : St) (F H : Hp) (env : En) (Q : D → En → Prop), Rep X.K B F H σ env → t env Q → wE X e σ H (RVe X B σ F Q)
def eOf (t : TD) : TDe := fun env Q => t env fun d => Q d env
theorem QEe.up {t : TD} (h : QE X e t) : QEe X e (eOf t) := ⟨fun B σ F H env Q rp q => wE_mono (h B σ F H env _ rp q) fun v H' ⟨F', d, r, s, dv, q'⟩ => ⟨F', d, env, r, s, dv, q'⟩⟩
def ePop (i : Nat) : TDe := fun env Q => ∃ xs x, env[i]? = some (some (.own (xs ++ [x]))) ∧ Q x (env.set i (some (.own xs)))
theorem qe_pop {x : Str} {px apos cpos : Pos} (i : Nat) (hN : X.N[i]? = some x := by rfl) (hv : Vis X.env.scope x := by first | exact Or.inl rfl | exact Or.inr (Or.inl rfl) | exact Or.inr (Or.inr rfl)) (hd : (x == ("__debug__" : Str)) = false := by decide)
    (hcd : (x == ("__classdict__" : Str)) = false := by decide) (hbase : attributeBase (.Name x px) "pop" X.env (eval (.Name x px) X.env) = eval (.Name x px) X.env := by rfl) (hline : (apos.endLine == cpos.line) = true := by rfl) :
    QEe X (.Call (.Attribute (.Name x px) "pop" apos) [] [] cpos) (ePop i) := by
  refine ⟨fun B σ F H env Q rp h => wE_of (pe_bm0 PySem.F.plainAttrs_list PySem.F.slot_list_pop PySem.F.type_list_pop mt_pop (pe_var hN hv hd hcd) hbase hline) ?_⟩
  obtain ⟨xs, y, hx, q⟩ := h
  obtain ⟨p, vs, h1, h2, h3, h4, h5⟩ := rp.ov i _ hx
  have hl := h5.length
  have hget : (xs ++ [y])[xs.length]? = some y := by simp
  obtain ⟨v, hv', dv⟩ := h5.get hget
  have hlen : vs.length - 1 = xs.length := by rw [← hl]; simp
  refine ⟨.ref p, h1, .inl ⟨rfl, vs, SqL.of h2⟩, p, vs, v, rfl, rfl, h2, by rw [hlen]; exact hv', F, y, _, rp.change hx h1 ?_, Same.refl _, dv, q⟩
  have := h5.take xs.length
  rw [List.dropLast_eq_take, hlen]
  simpa using this
theorem twoE {r : R2} {f : D → D → (D → Prop) → Prop} {ta tb : TDe} (hf : Op3 X r f) (ha : QEe X a ta) (hb : QEe X b tb) {B : Base} {σ : St} {F H : Hp} {env : En} {Q : D → En → Prop} (rp : Rep X.K B F H σ env) (h : ta env fun x e1 => tb e1 fun y e2 => f x y fun z => Q z e2) :
    tOp r (wE X a) (wE X b) σ H (RVe X B σ F Q) := by
  refine wE_mono (ha.run B σ F H env _ rp h) fun x H1 hq0 => ?_
  obtain ⟨F1, d, e1, r1, s1, d1, q1⟩ := hq0
  refine wE_mono (hb.run B σ F1 H1 e1 _ r1 q1) fun y H2 hq0 => ?_
  obtain ⟨F2, d', e2, r2, s2, d2, q2⟩ := hq0
  exact hf B σ F2 H2 e2 (fun z => Q z e2) d d' x y _ r2 (Den.mono s2 _ _ d1) d2 (fun v H' F' d' r' s' hd q => ⟨F', d', e2, r', (s1.trans s2).trans s', hd, q⟩) q2
def eOp (f : D → D → (D → Prop) → Prop) (ta tb : TDe) : TDe := fun env Q => ta env fun x e1 => tb e1 fun y e2 => f x y fun z => Q z e2
theorem qe_add {ta tb : TDe} (ha : QEe X a ta) (hb : QEe X b tb) : QEe X (.BinOp a .Add b pos) (eOp addD ta tb) := ⟨fun B σ F H env Q rp h => wE_of (pe_op op_addAll pe_w pe_w) (twoE o3_add ha hb rp h)⟩
def aNilE : TDse := fun env Q => Q [] env
def aConsE (ta : TDe) (tr : TDse) : TDse := fun env Q => ta env fun x e1 => tr e1 fun xs e2 => Q (x :: xs) e2
def eCall (f : Fw) (ts : TDse) : TDe := fun env Q => ts env fun ds e1 => f ds fun d => Q d e1
def dAsgE (te : TDe) (g : TG3) : TS3 := fun Z env => te env fun x e1 => g x e1 Z.nx
theorem qs_asgE {tg : Expr} {g : TG3} {te : TDe} (he : QEe X e te) (hg : QG X tg g) (hs : swapsWithSole [tg] e pos.line X.env = pure false := by rfl) (hw : swappedStores [tg] e X.env = pure none := by rfl)
    (h1 : (assignEach [tg] X.env).map (·.2) = [assign tg X.env] := by rfl) : QS X (.Assign [tg] e pos) (dAsgE te g) := by
  refine ⟨fun B σ F H env D rp h => wS_of (ps_asg pe_w pg_w hs hw h1) ?_⟩
  refine wE_mono (he.run B σ F H env _ rp h) fun v H1 hq0 => ?_
  obtain ⟨F1, d, e1, r1, s1, d1, q1⟩ := hq0
  exact wG_mono (hg B σ F1 H1 e1 _ d v r1 d1 q1) fun σ2 H2 ⟨F2, env2, r2, s2, q2⟩ => ⟨F2, env2, r2, q2⟩
end
end L2.L3
local macro_rules | `(tactic| simp_arith only [$ls,*] $[$loc]?) => `(tactic| ((try dsimp only [$(⟨ls.elemsAndSeps⟩),*, L2.L3.dSeq, L2.L3.dIf, L2.L3.dRet, L2.L3.dRetN, L2.L3.dNext, L2.L3.dBreak, L2.L3.dCont, L2.L3.dNever, L2.L3.dSet, L2.L3.dAsg, L2.L3.dFor, L2.L3.dForR, L2.L3.dSetOwn, L2.L3.dAppend, L2.L3.dExtend, L2.L3.dFreeze, L2.L3.dPut, L2.L3.cVar, L2.L3.cC, L2.L3.cOp, L2.L3.cUn, L2.L3.cTest, L2.L3.cNot, L2.L3.cAnd, L2.L3.cOr, L2.L3.cAndV, L2.L3.cOrV, L2.L3.cNotV, L2.L3.cIf, L2.L3.cCall, L2.L3.cCons, L2.L3.cNil, L2.L3.cTup, L2.L3.cLst, L2.L3.cIsi, L2.L3.cFresh, L2.L3.cFew, L2.L3.cSl, L2.L3.cPart, L2.L3.cNoPart, L2.L3.cIxOwn, L2.L3.kName, L2.L3.kTup, L2.L3.cDisp, L2.L3.kNil, L2.L3.cTrue, L2.L3.start3, List.map_cons, List.map_nil, List.length_cons, List.length_nil, List.cons_append, List.nil_append, List.getElem?_cons_zero, List.getElem?_cons_succ, List.set_cons_zero, List.set_cons_succ, L2.L3.cComp, L2.L3.cCompR, L2.L3.ii_eq, L2.L3.addD_ii, L2.L3.addD_ll, L2.L3.addD_tt, L2.L3.addD_ss, L2.L3.negD_i, L2.L3.lenF_l, L2.L3.lenF_t, L2.L3.lenF_s, L2.L3.intF_i, L2.L3.intF_b, L2.L3.listF_l, L2.L3.listF_t, L2.L3.tupleF_l, L2.L3.tupleF_t, L2.L3.dTry, L2.L3.cCallX, L2.L3.zRaise, L2.L3.zIf, L2.L3.zUp, L2.L3.zSeq, L2.L3.zRet, L2.L3.zSet, L2.L3.zExpr, L2.L3.cListOf, L2.L3.kLst, L2.L3.cChain, L2.L3.cLenOwn, L2.L3.cOwnT, L2.L3.dPop, L2.L3.cInG, L2.L3.cIxG, L2.L3.cListS, L2.L3.dInsert, L2.L3.dSetPop, L2.L3.cOwnNe, L2.L3.cListR, L2.L3.dForE, L2.L3.cComp2, L2.L3.cCount, L2.L3.cRevT, L2.L3.dFdiv, L2.L3.eOf, L2.L3.ePop, L2.L3.eOp, L2.L3.eCall, L2.L3.aNilE, L2.L3.aConsE, L2.L3.dAsgE] $[$loc]?); (try simp only [$ls,*, L2.L3.dSeq, L2.L3.dIf, L2.L3.dRet, L2.L3.dRetN, L2.L3.dNext, L2.L3.dBreak, L2.L3.dCont, L2.L3.dNever, L2.L3.dSet, L2.L3.dAsg, L2.L3.dPar_eq, L2.L3.two2_eq, L2.L3.dFor, L2.L3.dForR, L2.L3.dSetOwn, L2.L3.dAppend, L2.L3.dExtend, L2.L3.dFreeze, L2.L3.dPut, L2.L3.cVar, L2.L3.cC, L2.L3.cOp, L2.L3.cUn, L2.L3.cTest, L2.L3.cNot, L2.L3.cAnd, L2.L3.cOr, L2.L3.cAndV, L2.L3.cOrV, L2.L3.cNotV, L2.L3.cIf, L2.L3.cCall, L2.L3.cCons, L2.L3.cNil, L2.L3.cTup, L2.L3.cLst, L2.L3.cIsi, L2.L3.cFresh, L2.L3.cFew, L2.L3.cSl, L2.L3.cPart, L2.L3.cNoPart, L2.L3.cIxOwn, L2.L3.kName, L2.L3.kTup, L2.L3.kCons_eq, L2.L3.cons1_eq, L2.L3.cDisp, L2.L3.kNil, L2.L3.cTrue, L2.L3.start3, List.map_cons, List.map_nil, List.length_cons, List.length_nil, List.cons_append, List.nil_append, List.append_nil, List.getElem?_cons_zero, List.getElem?_cons_succ, List.getElem?_nil, List.set_cons_zero, List.set_cons_succ, Option.some.injEq, L2.L3.Lo.d.injEq, L2.L3.Lo.own.injEq, L2.L3.D.bl.injEq, L2.L3.D.int.injEq, exists_eq_left', exists_eq_left, Nat.reduceAdd, Nat.reduceSub, Nat.sub_self, Nat.add_one_sub_one, List.replicate_succ, List.replicate_zero, L2.L3.D.tup.injEq, List.cons.injEq, and_assoc, L2.L3.cComp, L2.L3.cCompR, L2.L3.ii_eq, L2.L3.addD_ii, L2.L3.addD_ll, L2.L3.addD_tt, L2.L3.addD_ss, L2.L3.negD_i, L2.L3.eqF_ii, L2.L3.neF_ii, L2.L3.eqF_ss, L2.L3.eqF_bb, L2.L3.absF_i, L2.L3.lenF_l, L2.L3.lenF_t, L2.L3.lenF_s, L2.L3.maxF_ii, L2.L3.minF_ii, L2.L3.intF_i, L2.L3.intF_b, L2.L3.listF_l, L2.L3.listF_t, L2.L3.tupleF_l, L2.L3.tupleF_t, L2.L3.itemsD_l, L2.L3.itemsD_t, L2.L3.slD_l, L2.L3.rng1_i, L2.L3.rng2_i, decide_eq_true_eq, true_and, and_true, if_true, if_false, Bool.false_eq_true, Bool.not_eq_true', decide_eq_false_iff_not, PySem.sizeLine_eq, Int.reduceToNat, Int.reducePow, Int.reduceMul, Int.reduceAdd, Int.reduceNeg, Int.reduceSub, Int.reduceLT, Int.reduceLE, Int.reduceEq, Nat.reduceEqDiff, decide_true, decide_false, Nat.reduceLeDiff, Nat.reduceLT, Bool.true_eq_false, Bool.not_true, Bool.not_false, Bool.not_not, L2.L3.dTry, L2.L3.cCallX, L2.L3.zRaise, L2.L3.zIf, L2.L3.zUp, L2.L3.zSeq, L2.L3.zRet, L2.L3.zSet, L2.L3.zExpr, L2.L3.isxF, L2.L3.isD_bb, L2.L3.isnD_bb, L2.L3.cListOf, L2.L3.listOfR_l, L2.L3.listOfR_t, L2.L3.kLst, L2.L3.D.lst.injEq, L2.L3.cChain, L2.L3.cLenOwn, L2.L3.cOwnT, L2.L3.dPop, L2.L3.cInG, L2.L3.cIxG, L2.L3.cListS, L2.L3.dInsert, L2.L3.dSetPop, L2.L3.cOwnNe, L2.L3.cListR, L2.L3.dForE, L2.L3.enD, L2.L3.cComp2, L2.L3.cCount, L2.L3.cRevT, L2.L3.dFdiv, L2.L3.eOf, L2.L3.ePop, L2.L3.eOp, L2.L3.eCall, L2.L3.aNilE, L2.L3.aConsE, L2.L3.dAsgE] $[$loc]?)))
set_option Elab.async false
set_option linter.all false
set_option maxRecDepth 100000
set_option maxHeartbeats 4000000
namespace L2.L3
open PySem PySem.Spec PyProof.Rows
def XY (X : Cx) (B : Base) (xc : Str → Prop) : Value → Shared → Prop := fun e s' => wpAny (model X.prog X.w) X.A (noteFrame e X.env) (fun _ s2 => wpAny (model X.prog X.w) X.A (setFlight e none) (fun _ s3 => XZ X B xc e s3) (fun _ _ => False) s2) (fun _ _ => False) s'
theorem XY.mono {X : Cx} {B B' : Base} {xc xc' : Str → Prop} {e : Value} {s' : Shared} (h : XY X B xc e s') (k : ∀ e s, XZ X B xc e s → XZ X B' xc' e s) : XY X B' xc' e s' :=
  wpAny_mono h (fun _ _ q => wpAny_mono q (fun _ _ z => k _ _ z) fun _ _ z => z) fun _ _ z => z
section
variable {P : Program} {w : World} {K : PySem.W.Frag} {mg : Str → Option Value} {base : Heap}
theorem XY.leave {N : List Str} {qual : Str} {scope : Scope} {f : Addr} {cd : Value} {A : Around} {outer : List Env} {s0 : Shared} {H0 : Hp} {E : XK} {B : Base} {xc : Str → Prop} {e : Value} {s' : Shared}
    (t : XY (cxOf (CXe P w) P w K mg base N qual scope f cd A outer s0 H0 E) B xc e s') (q : ∀ (c : Str) (C : Value) (σ' : St) (H' F' : Hp) (env' : En), Rep K B F' H' σ' env' → mg c = some C → xc c → E C none H') :
    (cxOf (CXe P w) P w K mg base N qual scope f cd A outer s0 H0 E).xe e s' := by
  show wpAny (model P w) _ (leaving _ e) _ _ s'
  unfold leaving
  refine wpAny_bind (wpAny_mono t (fun _ s2 z => wpAny_mono z (fun _ s3 y => ?_) fun _ _ y => y.elim) fun _ _ y => y.elim)
  obtain ⟨pins, a, c, C, σ', H', F', env', rfl, t'', r, hm, hx⟩ := y
  have I := t''.inv
  obtain ⟨Hc, sc, Ic, os, bare, un, hok, fl⟩ := t''
  refine ⟨a, C, none, H', rfl, I.os, I.bare, I.base, I.hok, fl.older fun b o e => ?_, q c C σ' H' F' env' r hm hx⟩
  exact Ic.base.there b o e (by show b ∉ ([] : List Addr); simp)
end
end L2.L3
set_option Elab.async false
set_option linter.all false
set_option maxRecDepth 100000
set_option maxHeartbeats 4000000
namespace L2.L3
open PySem PySem.Spec PyProof.Rows
section
variable {prog : Program} {w : World} {A : Around} {E : Value → Shared → Prop} {hp : Heap} {g : Array GenState} {d : Drawn} {t : Nat} {os : OsState}
variable {nm qn : Str} {C N : Addr} {bs bm bB : List Value} {hdct : Bool} {sn : List Str} {sub : List Value} {ab : Bool} {col : Option Bool} {dd : Option Addr} {k0 k1 k2 k3 k5 : Option Value} {B nid iid : String}
theorem typeCall_initT (FB : ExcBaseFacts B nid iid bB) (T : OwnTail hp bB bm) {mN : Str → Option Value} {us : List Value} {fI : Addr} {oI : Obj} {Q : Fin → Shared → Prop}
    (oC : hp.get? C = some (excClassObj nm qn C N bs bm hdct sn sub ab col dd k0 k1 k2 k3 k5 nid)) (nN : hp.Ns N mN) (iN : mN "__init__" = some (.ref fI)) (of : hp.get? fI = some oI) (cf : oI.cls = .type "function")
    (k : ∀ h' e, Heap.MadeExcOf hp h' e (.ref C) us → wpAny (model prog w) A (call (.ref fI) (.ref e :: us)) (fun r s' => r = .none ∧ Q (.done (.ret (.ref e))) s') E ⟨h', g, d, t, os⟩) (hu : us.length ≤ sizeLine) :
    wpAny (model prog w) A (Builtin.«type.__call__» ⟨.ref C :: us, []⟩) Q E ⟨hp, g, d, t, os⟩ := by
  repeat (first | with_reducible refine wpAny_loadPart_at oC ?_ | with_reducible refine wpAny_madeBy_exc oC ?_ | wp_step)
  refine codeAny_call_builtin_code (Code.quiet_builtin _ FB.quiet) (wpAny_check_new_subT FB T oC ?_)
  refine codeAny_exc_new_subT FB T oC ?_ hu
  show wpAny _ _ _ _ _ _
  generalize ho1 : ({ cls := .type "tuple", data := .seq us.toArray } : Obj) = o1
  generalize ho2 : ({ cls := .ref C, data := .fields #[.ref hp.objs.size, .none, .none, .none, .bool false, .none] } : Obj) = o2
  have up : ∀ b o, hp.get? b = some o → ((hp.push o1).push o2).get? b = some o := fun b o e => Heap.get?_push_of_some _ (Heap.get?_push_of_some _ e)
  have oC' := up _ _ oC
  have of' := up _ _ of
  have nN' := nN.keeps up
  have T' := T.keeps up
  have ge : ((hp.push o1).push o2).get? (hp.objs.size + 1) = some o2 := by subst ho1 ho2; heap_get
  have gt : ((hp.push o1).push o2).get? hp.objs.size = some o1 := by subst ho1 ho2; exact Heap.get?_push_of_some _ (Heap.get?_push_at rfl rfl)
  have c2 : o2.cls = .ref C := by rw [← ho2]
  have cc : (Value.ref C :: bm).contains (.ref C) = true := by simp
  unfold isInstance
  repeat (first | (with_reducible refine wpAny_loadPart_at ge ?_; rw [c2]) | (with_reducible refine wpAny_isSubtype_exc oC' ?_; rw [cc]) | wp_step)
  show wpAny _ _ (typeLookup (.ref C) _) _ _ _
  refine wpAny_typeLookup_tail oC' nN' T' FB.mroIs FB.init.lookup ?_
  rw [iN]
  refine wpAny_holding (wpAny_bind ?_)
  unfold bindSpecial
  refine wpAny_bind (wpAny_typeOf (T := "function") ⟨_, of', cf⟩ ?_)
  rw [if_pos (by decide)]
  have made : Heap.MadeExcOf hp ((hp.push o1).push o2) (hp.objs.size + 1) (.ref C) us := ⟨up, Heap.get?_none_of_le (Nat.le_succ _), hp.objs.size, by rw [ge, ← ho2], Heap.get?_none_of_le (Nat.le_refl _), by rw [gt, ← ho1]⟩
  refine wpAny_pure (wpAny_bind (wpAny_mono (k _ _ made) (fun r s' hr => ?_) fun _ _ x => x))
  obtain ⟨rfl, hQ⟩ := hr
  wp_walk
  exact hQ
theorem call_initT (FB : ExcBaseFacts B nid iid bB) (T : OwnTail hp bB bm) {mN : Str → Option Value} {us : List Value} {fI : Addr} {oI : Obj} {Q : Value → Shared → Prop}
    (oC : hp.get? C = some (excClassObj nm qn C N bs bm hdct sn sub ab col dd k0 k1 k2 k3 k5 nid)) (nN : hp.Ns N mN) (iN : mN "__init__" = some (.ref fI)) (of : hp.get? fI = some oI) (cf : oI.cls = .type "function")
    (k : ∀ h' e, Heap.MadeExcOf hp h' e (.ref C) us → wpAny (model prog w) (A.under (.builtin "type.__call__" ⟨.ref C :: us, []⟩)) (call (.ref fI) (.ref e :: us)) (fun r s' => r = .none ∧ Q (.ref e) s') E ⟨h', g, d, t, os⟩) (hu : us.length ≤ sizeLine) :
    wpAny (model prog w) A (call (.ref C) us) Q E ⟨hp, g, d, t, os⟩ := by
  have g1 := tc_lookup
  have g2 := tc_bind (.ref C)
  have gT : (⟨hp, g, d, t, os⟩ : Shared).TypeIs (.ref C) "type" := ⟨_, oC, rfl⟩
  refine wpAny_call (codeAny_of_tree ?_)
  show wpAny _ _ (callAny (.ref C) _) _ _ _
  repeat (any_goals (first | assumption | with_reducible refine wpAny_loadPart_at oC ?_ | wp_step))
  refine ⟨rfl, ?_⟩
  exact codeAny_call_builtin_at (Code.quiet_builtin _ (by decide +kernel)) entry_typeCall (wpAny_check_type_call_sub oC (typeCall_initT FB T oC nN iN of cf (fun h' e m => k h' e m) hu))
theorem raise_obj {M : Model} {env : Env} {s : Shared} {x : Sem Value} {Q : Flow → Shared → Prop} (hb : bm.contains (.type "BaseException") = true) (hh : A.handled = none)
    (h : wpAny M A x (fun v s₁ => ∃ e oe vs, v = .ref e ∧ s₁.heap.get? C = some (excClassObj nm qn C N bs bm hdct sn sub ab col dd k0 k1 k2 k3 k5 nid) ∧ s₁.heap.get? e = some oe ∧ oe.cls = .ref C ∧ oe.data = .fields vs ∧ vs[1]? = some .none ∧ E (.ref e) s₁) E s) :
    wpAny M A (raiseStmt env (some x) none) Q E s := by
  have cB : (Value.ref C :: bm).contains (.type "BaseException") = true := by rw [List.contains_cons, hb, Bool.or_true]
  unfold raiseStmt
  refine wpAny_bind (wpAny_mono h (fun v s₁ h₁ => ?_) fun _ _ x => x)
  obtain ⟨e, oe, vs, rfl, oC, he, hcl, hd, h1, hE⟩ := h₁
  obtain ⟨hp, g, d, tk, os⟩ := s₁
  repeat (first | (with_reducible refine wpAny_loadPart_at he ?_; rw [hcl]) | with_reducible refine wpAny_loadPart_at he ?_ | with_reducible refine wpAny_loadPart_at oC ?_ | (with_reducible refine wpAny_isSubtype_exc oC ?_; rw [cB]) | wp_step)
  rw [hd]
  refine wpAny_pure ?_
  rw [h1]
  refine wpAny_pure ?_
  rw [if_neg (by decide)]
  exact wpAny_pure (wpAny_raiseNew_none hh hE)
end
end L2.L3
set_option Elab.async false
set_option linter.all false
set_option maxRecDepth 100000
set_option maxHeartbeats 4000000
namespace L2.L3
open PySem PySem.Spec PyProof.Rows
open Builtin Builtin.ObjectAttr
abbrev veB : List Value := [.type "ValueError", .type "Exception", .type "BaseException", .type "object"]
def excInI (K : PySem.W.Frag) (C fI : Addr) : Bool := match K.lookup C with
  | some ⟨.type "type", _, .cls cd, sl⟩ => (match cd.mro, sl.toList with
    | .ref C' :: bm, [_, _, _, _, some (.builtin n), _] => C' == C && n == "ValueError.__new__" && !cd.hasDel && cd.hasDict && PySem.W.tailIn K veB bm && PySem.W.nsOkIn K cd.ns && PySem.W.nsIn K cd.ns "__init__" == some (some (.ref fI))
    | _, _ => false)
  | _ => false
theorem ns_some_of {K : PySem.W.Frag} {h : Heap} {N : Addr} {mg : Str → Option Value} {n : Str} {v : Value} (X : K.In h) (G : h.Ns N mg) (e : PySem.W.nsIn K N n = some (some v)) : mg n = some v := by
  obtain ⟨o, es, ep, ho, hd, _, hf⟩ := G
  unfold PySem.W.nsIn at e
  split at e
  · rename_i c d es' n' sl q
    have := X _ _ q
    rw [ho] at this
    cases this
    cases hd
    split at e
    · rename_i ent he
      cases e
      rw [← hf]
      unfold nsFind findBy
      rw [← Array.find?_toList, he]
      rfl
    · split at e <;> cases e
  · cases e
theorem xi_obj {K : PySem.W.Frag} {h : Heap} {C fI : Addr} (X : K.In h) (q : excInI K C fI = true) :
    ∃ bm N nm qn bs hdct sn sub ab col dd k0 k1 k2 k3 k5 mN cd, h.get? C = some (excClassObj nm qn C N bs bm hdct sn sub ab col dd k0 k1 k2 k3 k5 "ValueError.__new__") ∧ h.Ns N mN ∧ mN "__init__" = some (.ref fI) ∧ OwnTail h veB bm ∧
      PySem.W.clsIn K C = some cd ∧ cd.hasDict = true ∧ cd.mro = .ref C :: bm := by
  unfold excInI at q
  split at q
  · rename_i dd cd sl ho
    split at q
    · rename_i C' bm k0 k1 k2 k3 n k5 hm hs
      simp only [Bool.and_eq_true, beq_iff_eq, Bool.not_eq_true'] at q
      obtain ⟨⟨⟨⟨⟨⟨rfl, rfl⟩, hdel⟩, hdc⟩, ht⟩, hok⟩, hni⟩ := q
      have hcl : PySem.W.clsIn K C' = some cd := by unfold PySem.W.clsIn; rw [ho]
      have hG : h.Ns cd.ns (h.nsMap cd.ns) := .of_isNs (PySem.W.isNs_of_in X hok)
      have hi := ns_some_of X hG hni
      refine ⟨bm, cd.ns, cd.name, cd.qualname, cd.bases, cd.hasDict, cd.slotNames, cd.subclasses, cd.abstract, cd.collection, dd, k0, k1, k2, k3, k5, _, cd, ?_, hG, hi, PySem.W.tail_of_in X ht, hcl, hdc, hm⟩
      have e := X _ _ ho
      obtain ⟨nm, bs, mro, ns, qn, hd, sn, sub, ab, col, del⟩ := cd
      dsimp only at hm hdel
      subst hm hdel
      have hsl : sl = #[k0, k1, k2, k3, some (.builtin "ValueError.__new__"), k5] := by
        obtain ⟨l⟩ := sl
        simp only at hs
        rw [hs]
      subst hsl
      exact e
    · cases q
  · cases q
section
variable {prog : Program} {w : World} {A : Around} {E : Value → Shared → Prop} {K : PySem.W.Frag} {s : Shared} {x C fI : Addr} {ox : Obj} {od : Option Obj} {name : Str} {tk : Tok} {v : Value} {R : Result → Shared → Prop}
theorem refuse_tail {h : Heap} {bm : List Value} (T : OwnTail h veB bm) (self : Value) : refuseLoop self "__setattr__" bm = pure () := by
  induction T with
  | base => exact PySem.F.store_ValueError.passes self
  | own _ _ _ _ ih => rw [refuseLoop_ref]; exact ih
theorem osa_exc (X : K.In s.heap) (I : PySem.W.InstAt s.heap x ox C od) (q : excInI K C fI = true) (hn : PySem.W.findIn K (.ref C) name = some none)
    (h : ∀ b, wpAny (model prog w) A.in1 (storeInOwnDict (.ref x) (.ref C) (.str name tk) name v b) (fun fin s' => match fin with | .done f => R (.ok f) s' | .again c' => c'.quiet = true ∧ codeAny (model prog w) A c' R s') (fun e s' => R (.error e) s') s) :
    codeAny (model prog w) A (.call (.builtin "object.__setattr__") ⟨[.ref x, .str name tk, v], []⟩) R s := by
  have SF := PySem.F.store_object
  obtain ⟨bm, N, nm, qn, bs, hdct, sn, sub, ab, col, dd, k0, k1, k2, k3, k5, mN, cd, hC, hNs, hi, T, hc, hdc, hm⟩ := xi_obj X q
  have hob : cd.mro.contains (.type "object") = true := by rw [hm, List.contains_cons, T.hasType (X := "object") (b := true) (by decide +kernel), Bool.or_true]
  have isO : PySem.W.Looks (model prog w) s.heap (isInstance (.ref x) (.type "object")) true := I.type.andThen (PySem.W.looks_mroIn X (by unfold PySem.W.mroIn; rw [hc, Option.bind_some, if_neg (by rw [hm]; simp), hob]))
  refine codeAny_call_builtin SF.slot.plain SF.entry (@PySem.W.check_slot (model prog w) _ _ s "object.__setattr__" "object" "__setattr__" (.ref x) [.str name tk, v] [] _ SF.kind SF.split isO (SF.args (.ref x) (.str name tk) v) ?_)
  have lm : PySem.W.Looks (model prog w) s.heap (mroOf (.ref C)) cd.mro := (PySem.W.looks_clsIn X hc).andThen .now
  rw [PySem.W.osa_eq, refuse_eq]
  refine wpAny_bind (wpAny_bind (I.type.here (wpAny_bind (lm.here ?_))))
  rw [hm, refuseLoop_ref, refuse_tail T]
  refine wpAny_pure (wpAny_bind (I.type.here (wpAny_bind ((PySem.W.looks_findIn X hn).here (wpAny_bind (wpAny_pure ?_))))))
  exact h _
theorem xset_new {vs : Array Value} {Q : Unit → Shared → Prop} (X : K.In s.heap) (hx : s.heap.get? x = some ox) (c : ox.cls = .ref C) (dn : ox.dict = none) (df : ox.data = .fields vs) (q : excInI K C fI = true)
    (sa : PySem.W.findIn K (.ref C) "__setattr__" = some (some (.builtin "object.__setattr__"))) (hn : PySem.W.findIn K (.ref C) name = some none)
    (h : ∀ h', h'.Ns1 s.heap.objs.size (fun y => if y = name then some v else none) → Heap.SameBut s.heap.objs.size ((s.heap.push { cls := .type "dict", data := .dict #[] }).update x fun o => { o with dict := some s.heap.objs.size }) h' →
      Q () { s with heap := h', toks := s.toks + 2 }) : wpAny (model prog w) A (setAttr (.ref x) name v) Q E s := by
  have I : PySem.W.InstAt s.heap x ox C none := ⟨hx, c, by unfold PySem.W.notCls; rw [df], by rw [dn]; exact True.intro⟩
  refine PySem.W.set_plain X I sa (osa_exc (s := { s with toks := s.toks + 1 }) X I q hn fun b => ?_)
  obtain ⟨bm, N, nm, qn, bs, hdct, sn, sub, ab, col, dd, k0, k1, k2, k3, k5, mN, cd, hC, hNs, hi, T, hc, hdc, hm⟩ := xi_obj X q
  refine wpAny_bind (wpAny_pure (wpAny_bind (wpAny_bind (wpAny_loadPart hx ?_))))
  rw [c]
  refine wpAny_bind (PySem.W.Looks.here (s := { s with toks := s.toks + 1 }) (PySem.W.looks_clsIn X hc) ?_)
  rw [hdc, dn, df, if_neg (by decide)]
  dsimp only
  rw [if_neg (by simp [typeHasDict])]
  have hx1 : (s.heap.push { cls := .type "dict", data := .dict #[] }).get? x = some ox := Heap.get?_push_of_some _ hx
  have ne : x ≠ s.heap.objs.size := Nat.ne_of_lt (Heap.lt_size hx)
  refine wpAny_bind (wpAny_alloc' ?_)
  refine wpAny_bind (wpAny_update' hx1 ?_)
  refine wpAny_pure ?_
  have gd : ((s.heap.push { cls := .type "dict", data := .dict #[] }).update x fun o => { cls := o.cls, dict := some s.heap.objs.size, data := o.data, slots := o.slots }).get? s.heap.objs.size = some { cls := .type "dict", data := .dict #[] } :=
    (Heap.get?_update_ne _ _ _ _ ne.symm).trans (Heap.get?_push_at rfl rfl)
  have nd : ((s.heap.push { cls := .type "dict", data := .dict #[] }).update x fun o => { cls := o.cls, dict := some s.heap.objs.size, data := o.data, slots := o.slots }).Ns s.heap.objs.size (fun _ => none) :=
    ⟨_, #[], _, gd, rfl, fun e he => absurd he (by simp), fun _ => rfl⟩
  show wpAny _ _ (storeInDict s.heap.objs.size (.str name s.toks) name v) _ _ _
  unfold storeInDict newKeyGuard
  refine wpAny_bind (wpAny_pure (wpAny_bind (wpAny_nsSet1 (Heap.Ns1.of_empty nd) fun h' hn' hs => ?_)))
  obtain ⟨oD, esD, epD, hoD, hdD, hcD⟩ := hn'.count (Within.cons name v Within.nil)
  refine wpAny_bind (wpAny_lookBehind hoD (by rw [hdD]; exact pastItsLine_dict (Nat.le_trans hcD (by rw [List.length_cons, List.length_nil, sizeLine_eq]; omega))) ?_)
  exact wpAny_pure (h h' hn' hs)
theorem xset_more {vs : Array Value} {dx : Addr} {mA : Str → Option Value} {ns : List Str} {Q : Unit → Shared → Prop} (X : K.In s.heap) (hx : s.heap.get? x = some ox) (c : ox.cls = .ref C) (ds : ox.dict = some dx) (df : ox.data = .fields vs) (q : excInI K C fI = true)
    (sa : PySem.W.findIn K (.ref C) "__setattr__" = some (some (.builtin "object.__setattr__"))) (hn : PySem.W.findIn K (.ref C) name = some none) (hd : s.heap.Ns1 dx mA) (hw : Within mA ns) (hsz : ns.length ≤ 1000)
    (h : ∀ h', h'.Ns1 dx (fun y => if y = name then some v else mA y) → Heap.SameBut dx s.heap h' → Q () { s with heap := h', toks := s.toks + 2 }) : wpAny (model prog w) A (setAttr (.ref x) name v) Q E s := by
  obtain ⟨odx, ho, _⟩ := lookIn_ns hd
  have I : PySem.W.InstAt s.heap x ox C (some odx) := ⟨hx, c, by unfold PySem.W.notCls; rw [df], by rw [ds]; exact ho⟩
  refine PySem.W.set_plain X I sa (osa_exc (s := { s with toks := s.toks + 1 }) X I q hn fun b => ?_)
  obtain ⟨bm, N, nm, qn, bs, hdct, sn, sub, ab, col, dd, k0, k1, k2, k3, k5, mN, cd, hC, hNs, hi, T, hc, hdc, hm⟩ := xi_obj X q
  refine wpAny_bind (wpAny_pure (wpAny_bind (wpAny_bind (wpAny_loadPart hx ?_))))
  rw [c]
  refine wpAny_bind (PySem.W.Looks.here (s := { s with toks := s.toks + 1 }) (PySem.W.looks_clsIn X hc) ?_)
  rw [hdc, ds, if_neg (by decide)]
  refine wpAny_pure (a := some dx) ?_
  show wpAny _ _ (storeInDict dx (.str name s.toks) name v) _ _ _
  unfold storeInDict newKeyGuard
  refine wpAny_bind (wpAny_pure (wpAny_bind (wpAny_nsSet1 (s := { s with toks := s.toks + 1 }) hd fun h' hn' hs => ?_)))
  obtain ⟨oD, esD, epD, hoD, hdD, hcD⟩ := hn'.count (Within.cons name v hw)
  refine wpAny_bind (wpAny_lookBehind hoD (by rw [hdD]; exact pastItsLine_dict (Nat.le_trans hcD (by rw [List.length_cons, sizeLine_eq]; omega))) ?_)
  exact wpAny_pure (h h' hn' hs)
end
end L2.L3
set_option Elab.async false
set_option linter.all false
set_option maxRecDepth 100000
set_option maxHeartbeats 4000000
namespace L2.L3
open PySem PySem.Spec PyProof.Rows
def excNew (a C : Addr) (dd : Option Addr) : Heap → Prop := fun h => ∃ o vs, h.get? a = some o ∧ o.cls = .ref C ∧ o.dict = dd ∧ o.data = .fields vs ∧ vs[1]? = some .none
def xdP (dx : Addr) (fs : List (Str × V)) : Heap → Prop := fun h => ∃ mA, h.Ns1 dx mA ∧ (∀ f, RelO (fs.lookup f) (mA f)) ∧ Within mA (fs.map (·.1)) ∧ fs.length ≤ 100
theorem ext_new {P : Program} {w : World} {H : Hp} {h : Heap} {a C : Addr} {dd : Option Addr} (x : excNew a C dd h) : ObjOk P w H h a (.ext (excNew a C dd)) := by
  have ⟨o, vs, h1, h2⟩ := x
  exact ⟨x, ⟨o, h1⟩, fun g g' ⟨o, vs, h1, h2⟩ k => ⟨o, vs, k o h1, h2⟩⟩
theorem ext_xd {P : Program} {w : World} {H : Hp} {h : Heap} {dx : Addr} {fs : List (Str × V)} (x : xdP dx fs h) : ObjOk P w H h dx (.ext (xdP dx fs)) := by
  have ⟨mA, ⟨o, es, ep, ho, hr⟩, h2⟩ := x
  exact ⟨x, ⟨o, ho⟩, fun g g' ⟨mA, ⟨o, es, ep, ho, hr⟩, h2⟩ k => ⟨mA, ⟨o, es, ep, k o ho, hr⟩, h2⟩⟩
def sXFld (K : PySem.W.Frag) (fI : Addr) (ta tv : TE) (f : Str) : TS := fun D σ H => tv σ H fun y H1 => ta σ H1 fun x H2 => ∃ a C, x = .ref a ∧ excInI K C fI = true ∧ PySem.W.findIn K (.ref C) "__setattr__" = some (some (.builtin "object.__setattr__")) ∧ PySem.W.findIn K (.ref C) f = some none ∧
  ((H2 a = some (.ext (excNew a C none)) ∧ ∀ dx, H2 dx = none → D.nx σ (upd (upd H2 a (.ext (excNew a C (some dx)))) dx (.ext (xdP dx [(f, y)])))) ∨
   ∃ dx fs, H2 a = some (.ext (excNew a C (some dx))) ∧ H2 dx = some (.ext (xdP dx fs)) ∧ fs.length < 100 ∧ D.nx σ (upd H2 dx (.ext (xdP dx (putF f y fs)))))
section
variable {X : Cx} {o value : Expr} {f : Str} {pos pos' : Pos} {ta tv : TE} {fI : Addr}
theorem upd_swap {H : Hp} {a b : Addr} {o u : HO} (h : a ≠ b) : upd (upd H a o) b u = upd (upd H b u) a o := by
  funext c
  unfold upd
  by_cases h1 : c = a
  · subst h1; simp [h]
  · by_cases h2 : c = b
    · subst h2; simp [h1]
    · simp [h1, h2]
theorem ps_xfld (ha : PE X o ta) (hv : PE X value tv) (hs : swapsWith value (some (.Attribute o f pos')) pos.line X.env = pure false) : PS X (.Assign [.Attribute o f pos'] value pos) (sXFld X.K fI ta tv f) := by
  intro pins s σ H D I h
  refine plainObj_wpAny_Assign_Attribute (thn (hv pins s σ H _ I h) fun u s1 ⟨y, H1, I1, ry, q⟩ => thn (ha pins s1 σ H1 _ I1 q) fun ov s2 hq0 => ?_) hs
  obtain ⟨x, H2, I2, rx, a, C, ex, xi, sa, hn, q2⟩ := hq0
  subst ex
  obtain rfl : ov = Value.ref a := rx
  rcases q2 with ⟨ea, k⟩ | ⟨dx, fs, ea, ed, hl, k⟩
  · obtain ⟨⟨ox, vs, h1, c, dn, df, v1⟩, _⟩ := (show ObjOk X.prog X.w H2 s2.heap a (.ext (excNew a C none)) from I2.hok a _ ea)
    refine xset_new I2.kIn h1 c dn df xi sa hn fun h' hn' hsb => ?_
    have ne : a ≠ s2.heap.objs.size := Nat.ne_of_lt (Heap.lt_size h1)
    have fr : H2 s2.heap.objs.size = none := I2.hok.fresh (Nat.le_refl _)
    have e1 : (s2.heap.push { cls := .type "dict", data := .dict #[] }).get? s2.heap.objs.size = some { cls := .type "dict", data := .dict #[] } := Heap.get?_push_size _ rfl
    have I3 := I2.laid (a := s2.heap.objs.size) (o := .ext (fun h => ∃ o, h.get? s2.heap.objs.size = some o)) (h' := s2.heap.push { cls := .type "dict", data := .dict #[] }) (t' := s2.toks) (fun b u q => Heap.get?_push_of_some _ q) (Nat.le_refl _)
      ⟨⟨_, e1⟩, ⟨_, e1⟩, fun g g' ⟨o, e⟩ k => ⟨o, k o e⟩⟩
    have h2 : (s2.heap.push { cls := .type "dict", data := .dict #[] }).get? a = some ox := Heap.get?_push_of_some _ h1
    have nf : ({ cls := ox.cls, dict := some s2.heap.objs.size, data := ox.data, slots := ox.slots } : Obj).isFreed = false := Obj.isFreed_of_fields (vs := vs) df
    have h3 := Heap.get?_update_self (fun o => { cls := o.cls, dict := some s2.heap.objs.size, data := o.data, slots := o.slots }) h2 nf
    have I4 := I3.write (x := a) (e := a) (o := .ext (excNew a C (some s2.heap.objs.size))) (h' := (s2.heap.push { cls := .type "dict", data := .dict #[] }).update a fun o => { cls := o.cls, dict := some s2.heap.objs.size, data := o.data, slots := o.slots }) (t' := s2.toks)
      (by rw [upd_ne ne, ea]; exact True.intro) (.inl rfl) (fun b u hb q => (Heap.get?_update_other _ _ (Ne.symm hb)).trans q) ⟨_, h3⟩ (ext_new ⟨_, vs, h3, c, rfl, df, v1⟩)
    have I5 := I4.write (x := s2.heap.objs.size) (e := s2.heap.objs.size) (o := .ext (xdP s2.heap.objs.size [(f, y)])) (h' := h') (t' := s2.toks + 2)
      (by rw [upd_ne (Ne.symm ne), upd_same]; exact True.intro) (.inl rfl) (fun b u hb q => (hsb.2 b hb).trans q) (let ⟨o, _, _, e, _⟩ := hn'; ⟨o, e⟩)
      (ext_xd ⟨_, hn', fun g => ?_, fun g hg => ?_, by simp⟩)
    · refine ⟨σ, _, I5, ?_⟩
      have e : upd (upd (upd H2 s2.heap.objs.size (.ext (fun h => ∃ o, h.get? s2.heap.objs.size = some o))) a (.ext (excNew a C (some s2.heap.objs.size)))) s2.heap.objs.size (.ext (xdP s2.heap.objs.size [(f, y)])) = upd (upd H2 a (.ext (excNew a C (some s2.heap.objs.size)))) s2.heap.objs.size (.ext (xdP s2.heap.objs.size [(f, y)])) := by
        rw [upd_swap (Ne.symm ne), upd_upd]
      rw [e]; exact k _ fr
    · show RelO (List.lookup g [(f, y)]) (if g = f then some u else none)
      by_cases z : g = f
      · subst z; rw [if_pos rfl, List.lookup_cons, beq_self_eq_true]; exact ry
      · rw [if_neg z, List.lookup_cons, beq_eq_false_iff_ne.mpr z]; exact True.intro
    · by_cases z : g = f
      · subst z; simp
      · exact absurd (show (if g = f then some u else none) = none by rw [if_neg z]) hg
  · obtain ⟨⟨ox, vs, h1, c, dn, df, v1⟩, _⟩ := (show ObjOk X.prog X.w H2 s2.heap a (.ext (excNew a C (some dx))) from I2.hok a _ ea)
    obtain ⟨⟨mA, hN, hr, hw, _⟩, _⟩ := (show ObjOk X.prog X.w H2 s2.heap dx (.ext (xdP dx fs)) from I2.hok dx _ ed)
    refine xset_more I2.kIn h1 c dn df xi sa hn hN hw (by rw [List.length_map]; omega) fun h' hn' hsb => ?_
    have I3 := I2.write (x := dx) (e := dx) (o := .ext (xdP dx (putF f y fs))) (h' := h') (t' := s2.toks + 2) (by rw [ed]; exact True.intro) (.inl rfl) (fun b u hb q => (hsb.2 b hb).trans q) (let ⟨o, _, _, e, _⟩ := hn'; ⟨o, e⟩)
      (ext_xd ⟨_, hn', fun g => ?_, fun g hg => ?_, by have := length_putF f y fs; omega⟩)
    · exact ⟨σ, _, I3, k⟩
    · show RelO ((putF f y fs).lookup g) (if g = f then some u else mA g)
      rw [lookup_putF]
      by_cases z : g = f
      · rw [if_pos z, if_pos z]; exact ry
      · rw [if_neg z, if_neg z]; exact hr g
    · by_cases z : g = f
      · rw [z]; exact (keys_putF f y fs).1
      · refine (keys_putF f y fs).2 g (hw g fun y => hg ?_)
        show (if g = f then some u else mA g) = none
        rw [if_neg z]; exact y
end
def spI (C : Addr) (ns : List Str) : Sp := fun vs H Q _ => ∃ a ws, vs = .ref a :: ws ∧ ws.length = ns.length ∧ H a = some (.ext (excNew a C none)) ∧ ∀ dx, H dx = none → Q .non (upd (upd H a (.ext (excNew a C (some dx)))) dx (.ext (xdP dx (ns.zip ws))))
section
variable {P : Program} {w : World} {K : PySem.W.Frag} {mg : Str → Option Value} {base : Heap} {k : Nat} {C f : Addr} {name qual f1 f2 : Str} {params : Arguments} {scope : Scope} {dV kV doc pm cdv ct oc : Value} {an od : Option Addr} {osl : Array (Option Value)} {p1 p2 p3 p4 q1 q2 q3 q4 : Pos}
theorem init_two (lk : K.lookup f = some ⟨oc, od, .func (PySem.W.fnOf name qual params [.Assign [.Attribute (.Name "self" p1) f1 p2] (.Name f1 p3) p4, .Assign [.Attribute (.Name "self" q1) f2 q2] (.Name f2 q3) q4] scope dV kV doc pm an cdv ct), osl⟩)
    (hcd : PySem.W.codeIn K cdv qual = true) (S : FnScope ["self", f1, f2] ["self", f1, f2] scope) (v0 : Vis scope "self") (v1 : Vis scope f1) (v2 : Vis scope f2) (d1 : (f1 == ("__debug__" : Str)) = false ∧ (f1 == ("__classdict__" : Str)) = false) (d2 : (f2 == ("__debug__" : Str)) = false ∧ (f2 == ("__classdict__" : Str)) = false)
    (xi : excInI K C f = true) (sa : PySem.W.findIn K (.ref C) "__setattr__" = some (some (.builtin "object.__setattr__"))) (n1 : PySem.W.findIn K (.ref C) f1 = some none) (n2 : PySem.W.findIn K (.ref C) f2 = some none) (hne : f1 ≠ f2) :
    FnOk P w K mg base CX0 (k + 1) f (PySem.W.fnOf name qual params [.Assign [.Attribute (.Name "self" p1) f1 p2] (.Name f1 p3) p4, .Assign [.Attribute (.Name "self" q1) f2 q2] (.Name f2 q3) q4] scope dV kV doc pm an cdv ct) ["self", f1, f2] (spI C [f1, f2]) := by
  refine fn_of lk hcd S (fun vs H Q E ⟨a, ws, e, l, _⟩ => by subst e; simp [l]) fun A outer s H vs Q E hr hq0 => ?_
  obtain ⟨a, ws, e, l, ha, hq⟩ := hq0
  subst e
  match ws, l with
  | [y, z], _ =>
    refine ⟨_, pss_cons (ps_xfld (fI := f) (pe_var (i := 0) rfl v0 (by decide) (by decide)) (pe_var (i := 1) rfl v1 d1.1 d1.2) rfl) (pss_one (ps_xfld (fI := f) (pe_var (i := 0) rfl v0 (by decide) (by decide)) (pe_var (i := 2) rfl v2 d2.1 d2.2) rfl)), ?_⟩
    refine ⟨y, rfl, .ref a, rfl, a, C, rfl, xi, sa, n1, .inl ⟨ha, fun dx hdx => ?_⟩⟩
    have ne : a ≠ dx := fun z => by subst z; rw [ha] at hdx; cases hdx
    refine ⟨z, rfl, .ref a, rfl, a, C, rfl, xi, sa, n2, .inr ⟨dx, _, by rw [upd_ne ne, upd_same], upd_same, by simp, ?_⟩⟩
    show Q .non _
    rw [upd_upd, show putF f2 z [(f1, y)] = [f1, f2].zip [y, z] from by show (if f1 = f2 then _ else _) = _; rw [if_neg hne]; rfl]
    exact hq dx hdx
theorem init_one (lk : K.lookup f = some ⟨oc, od, .func (PySem.W.fnOf name qual params [.Assign [.Attribute (.Name "self" p1) f1 p2] (.Name f1 p3) p4] scope dV kV doc pm an cdv ct), osl⟩)
    (hcd : PySem.W.codeIn K cdv qual = true) (S : FnScope ["self", f1] ["self", f1] scope) (v0 : Vis scope "self") (v1 : Vis scope f1) (d1 : (f1 == ("__debug__" : Str)) = false ∧ (f1 == ("__classdict__" : Str)) = false)
    (xi : excInI K C f = true) (sa : PySem.W.findIn K (.ref C) "__setattr__" = some (some (.builtin "object.__setattr__"))) (n1 : PySem.W.findIn K (.ref C) f1 = some none) :
    FnOk P w K mg base CX0 (k + 1) f (PySem.W.fnOf name qual params [.Assign [.Attribute (.Name "self" p1) f1 p2] (.Name f1 p3) p4] scope dV kV doc pm an cdv ct) ["self", f1] (spI C [f1]) := by
  refine fn_of lk hcd S (fun vs H Q E ⟨a, ws, e, l, _⟩ => by subst e; simp [l]) fun A outer s H vs Q E hr hq0 => ?_
  obtain ⟨a, ws, e, l, ha, hq⟩ := hq0
  subst e
  match ws, l with
  | [y], _ =>
    refine ⟨_, pss_one (ps_xfld (fI := f) (pe_var (i := 0) rfl v0 (by decide) (by decide)) (pe_var (i := 1) rfl v1 d1.1 d1.2) rfl), ?_⟩
    refine ⟨y, rfl, .ref a, rfl, a, C, rfl, xi, sa, n1, .inl ⟨ha, fun dx hdx => ?_⟩⟩
    exact hq dx hdx
end
end L2.L3
set_option Elab.async false
set_option linter.all false
set_option maxRecDepth 100000
set_option maxHeartbeats 4000000
namespace L2.L3
open PySem PySem.Spec PyProof.Rows
section
variable {prog : Program} {w : World} {A : Around} {E : Value → Shared → Prop} {s : Shared} {env : Env}
variable {nm qn : Str} {C N : Addr} {bs bm : List Value} {hdct : Bool} {sn : List Str} {sub : List Value} {ab : Bool} {col : Option Bool} {dd : Option Addr} {k0 k1 k2 k3 k5 : Option Value} {nid : String}
theorem raise_callI {x : Str} {np cpos pos : Pos} {es : List Expr} {Q : Flow → Shared → Prop} (hb : bm.contains (.type "BaseException") = true) (hh : A.handled = none) (hp : (backTo cpos (starEach es env)).any (·.1) = false)
    (h : wpAny (model prog w) A (eval (.Name x np) env) (fun f s₁ => f = .ref C ∧ wpAny (model prog w) A (evalArgs (.ref C) true (backTo cpos (starEach es env)) [])
      (fun a s₂ => a.kw = [] ∧ s₂.heap.get? C = some (excClassObj nm qn C N bs bm hdct sn sub ab col dd k0 k1 k2 k3 k5 nid) ∧
        wpAny (model prog w) A (call (.ref C) a.pos) (fun v s₃ => ∃ e oe vs, v = .ref e ∧ s₃.heap.get? C = some (excClassObj nm qn C N bs bm hdct sn sub ab col dd k0 k1 k2 k3 k5 nid) ∧ s₃.heap.get? e = some oe ∧ oe.cls = .ref C ∧ oe.data = .fields vs ∧ vs[1]? = some .none ∧ E (.ref e) s₃) E s₂) E s₁) E s) :
    wpAny (model prog w) A (exec (.Raise (some (.Call (.Name x np) es [] cpos)) none pos) env) Q E s := by
  rw [arm_exec_Raise]
  refine wpAny_bind (wpAny_standAt (raise_obj (C := C) (nm := nm) (qn := qn) (N := N) (bs := bs) (bm := bm) (hdct := hdct) (sn := sn) (sub := sub) (ab := ab) (col := col) (dd := dd) (k0 := k0) (k1 := k1) (k2 := k2) (k3 := k3) (k5 := k5) (nid := nid) hb hh ?_))
  refine wpAny_bind (wpAny_mono (wpAny_Call_ofName (wpAny_mono h (fun f s₁ h₁ => ?_) fun _ _ x => x)) (fun v s₃ h₃ => wpAny_bind (wpAny_standAt (wpAny_pure h₃))) fun _ _ x => x)
  obtain ⟨rfl, h₁⟩ := h₁
  unfold callWith
  refine wpAny_bind (wpAny_holding (wpAny_mono h₁ (fun a s₂ h₂ => wpAny_bind (wpAny_standAt ?_)) fun _ _ x => x))
  obtain ⟨us, kw⟩ := a
  obtain ⟨hkw, oC, h₂⟩ := h₂
  obtain rfl : kw = [] := hkw
  obtain ⟨hp', g, d, tk, os⟩ := s₂
  simp only [hp]
  refine wpAny_bind (wpAny_keeperOf_exc oC ?_)
  exact wpAny_bind (wpAny_mono h₂ (fun v s₃ h₃ => wpAny_bind (wpAny_holding (wpAny_point (wpAny_pure h₃)))) fun _ _ x => x)
end
def excAtD (a C dx : Addr) : Heap → Prop := fun h => ∃ o vs, h.get? a = some o ∧ o.cls = .ref C ∧ o.dict = some dx ∧ o.data = .fields vs
def ExcP (c : Str) (ns : List Str) (ds : List D) : PySem.W.Frag → Hp → Addr → Prop := fun K G a => ∃ C dx vs, PySem.W.nsIn K mainGlobals c = some (some (.ref C)) ∧ G a = some (.ext (excAtD a C dx)) ∧ G dx = some (.ext (xdP dx (ns.zip vs))) ∧ DenL K G ds vs ∧ vs.length = ns.length
def excD (c : Str) (ns : List Str) (ds : List D) : D := .obj (ExcP c ns ds)
theorem den_excD {K : PySem.W.Frag} {F : Hp} {c : Str} {ns : List Str} {ds : List D} {vs : List V} {a C dx : Addr} (h1 : PySem.W.nsIn K mainGlobals c = some (some (.ref C))) (h2 : F a = some (.ext (excAtD a C dx))) (h3 : F dx = some (.ext (xdP dx (ns.zip vs)))) (h4 : DenL K F ds vs) (h5 : vs.length = ns.length) : Den K F (excD c ns ds) (.ref a) := by
  unfold excD
  simp only [Den]
  exact ⟨a, rfl, fun G s => ⟨C, dx, vs, h1, s _ _ h2, s _ _ h3, DenL.mono s _ _ h4, h5⟩⟩
theorem excD_den {K : PySem.W.Frag} {F : Hp} {c : Str} {ns : List Str} {ds : List D} {v : V} (h : Den K F (excD c ns ds) v) : ∃ a C dx vs, v = .ref a ∧ PySem.W.nsIn K mainGlobals c = some (some (.ref C)) ∧ F a = some (.ext (excAtD a C dx)) ∧ F dx = some (.ext (xdP dx (ns.zip vs))) ∧ DenL K F ds vs ∧ vs.length = ns.length := by
  unfold excD at h
  simp only [Den] at h
  obtain ⟨a, e, q⟩ := h
  obtain ⟨C, dx, vs, r⟩ := q F (Same.refl _)
  exact ⟨a, C, dx, vs, e, r⟩
structure Ends5 extends Ends3 where
  xc : D → Prop
abbrev TS5 := Ends5 → En → Prop
def XV (X : Cx) (B : Base) (xc : D → Prop) : Value → Shared → Prop := fun ex s' => ∃ (pins : List (Addr × Obj)) (a : Addr) (c : Str) (C dx : Addr) (σ' : St) (H' F' : Hp) (env' : En) (ns : List Str) (ds : List D) (vs : List V),
  ex = .ref a ∧ ThrownD X pins σ' H' a (.ref C) (some dx) s' ∧ Rep X.K B F' H' σ' env' ∧ PySem.W.nsIn X.K mainGlobals c = some (some (.ref C)) ∧ F' dx = some (.ext (xdP dx (ns.zip vs))) ∧ DenL X.K F' ds vs ∧ vs.length = ns.length ∧ xc (excD c ns ds)
def XVn (X : Cx) (B : Base) (xc : D → Prop) : Value → Shared → Prop := fun e s' => wpAny (model X.prog X.w) X.A (noteFrame e X.env) (fun _ s2 => wpAny (model X.prog X.w) X.A (setFlight e none) (fun _ s3 => XV X B xc e s3) (fun _ _ => False) s2) (fun _ _ => False) s'
theorem XV.toN {X : Cx} {B : Base} {xc : D → Prop} {e : Value} {s' : Shared} (hst : X.stack = X.env :: X.outer) (hf : X.env.frame = some X.env.locals) (h : XV X B xc e s') : XVn X B xc e s' := by
  obtain ⟨pins, a, c, C, dx, σ', H', F', env', ns, ds, vs, rfl, th, r⟩ := h
  exact th.note hst hf fun s'' t'' => ⟨pins, a, c, C, dx, σ', H', F', env', ns, ds, vs, rfl, t'', r⟩
structure QV (X : Cx) (st : Stmt) (t : TS5) : Prop where
  of ::
  run : ∀ (B : Base) (σ : St) (F H : Hp) (env : En) (D : Ends5), Rep X.K B F H σ env → t D env → wS (X.wish (XVn X B D.xc)) st (RS X B D.toEnds3) σ H
structure QVs (X : Cx) (st : List Stmt) (t : TS5) : Prop where
  of ::
  run : ∀ (B : Base) (σ : St) (F H : Hp) (env : En) (D : Ends5), Rep X.K B F H σ env → t D env → wSs (X.wish (XVn X B D.xc)) st (RS X B D.toEnds3) σ H
section
variable {X : Cx} {c e : Expr} {es : List Expr} {st : Stmt} {sts xs ys body : List Stmt} {t : TS3} {p q : TS5} {tc : TB} {pos : Pos} {ts : TDs}
def vUp (t : TS3) : TS5 := fun D env => t D.toEnds3 env
theorem qv_up (h : QS X.nox st t) : QV X st (vUp t) := ⟨fun B σ F H env D r hq => wS_nox (h B σ F H env D.toEnds3 r hq)⟩
theorem qvs_up (h : QSs X.nox sts t) : QVs X sts (vUp t) := ⟨fun B σ F H env D r hq => wSs_nox (h B σ F H env D.toEnds3 r hq)⟩
def vSeq (t u : TS5) : TS5 := fun D env => t { D with nx := u D } env
theorem qvs_one (h : QV X st p) : QVs X [st] p := ⟨fun B σ F H env D rp hq => wSs_of (pss_one ps_w) (h.run B σ F H env D rp hq)⟩
theorem qvs_cons (h1 : QV X st p) (h2 : QVs X sts q) : QVs X (st :: sts) (vSeq p q) := by
  refine ⟨fun B σ F H env D rp h => wSs_of (pss_cons ps_w pss_w) ?_⟩
  exact wS_mono (h1.run B σ F H env { D with nx := q D } rp h) (fun σ' H' ⟨F', env', rp', q⟩ => h2.run B σ' F' H' env' D rp' q) (fun _ _ q => q) (fun _ _ q => q) (fun _ _ q => q)
def vIf (c : TB) (t u : TS5) : TS5 := fun D env => c env fun k => if k = true then t D env else u D env
theorem qv_if (hc : QT X.nox c tc) (ha : QVs X xs p) (hb : QVs X ys q) : QV X (.If c xs ys pos) (vIf tc p q) := by
  refine ⟨fun B σ F H env D rp h => wS_of (ps_if pt_w pss_w pss_w) ?_⟩
  refine wT_mono (wT_nox (hc B σ F H env _ rp h)) fun k H1 ⟨F1, r1, s1, q1⟩ => ?_
  cases k with
  | true => exact ha.run B σ F1 H1 env D r1 q1
  | false => exact hb.run B σ F1 H1 env D r1 q1
def vRaise (c : Str) (ns : List Str) (dds : List D) (ts : TDs) : TS5 := fun D env => ts env fun xs => (xs ++ dds).length = ns.length ∧ xs.length ≤ 100 ∧ D.xc (excD c ns (xs ++ dds))
theorem qv_raise {cx : Str} {C fI : Addr} {np cpos : Pos} {k : Nat} {fd : FuncData} {ps ns : List Str} {dvs : List V} {dfs : List Value} {dds : List D} (ac : PySem.W.nsIn X.K mainGlobals cx = some (some (.ref C))) (xi : excInI X.K C fI = true)
    (F : FnOk X.prog X.w X.K X.mg X.base CX0 k fI fd ps (spI C ns)) (hfn : PySem.W.typeIn X.K (.ref fI) = some (.type "function")) (hb : Binds X.K fd ps dfs) (hd : Vals dvs dfs) (hdd : ∀ G, DenL X.K G dds dvs) (hr : Room (k + 1) X.A)
    (ha : QA X.nox (e :: es) ts) (hst : X.stack = X.env :: X.outer := by rfl) (hf : X.env.frame = some X.env.locals := by rfl) (hc : X.calm = true := by rfl) (hg : Gl X cx := by rfl) (hdb : (cx == ("__debug__" : Str)) = false := by decide)
    (he : starEach (e :: es) X.env = (false, eval e X.env) :: starEach es X.env := by exact star_of rfl) (hplain : (backTo cpos (starEach es X.env)).any (·.1) = false := by rfl) :
    QV X (.Raise (some (.Call (.Name cx np) (e :: es) [] cpos)) none pos) (vRaise cx ns dds ts) := by
  refine ⟨fun B σ F0 H env D rp h pins s I => ?_⟩
  have I0 := I.unwish
  obtain ⟨bm, N, nm, qn, bs, hdct, sn, sub, ab, col, dd, k0, k1, k2, k3, k5, mN, cd, hCo, hN, hi, T, hcl, hdc, hm⟩ := xi_obj I0.ok.mod.kin xi
  have hC : X.mg cx = some (.ref C) := PySem.W.mg_of I0.ok.mod.kin I0.ok.mod.glob ac
  refine raise_callI (C := C) (nm := nm) (qn := qn) (N := N) (bs := bs) (bm := bm) (hdct := hdct) (sn := sn) (sub := sub) (ab := ab) (col := col) (dd := dd) (k0 := k0) (k1 := k1) (k2 := k2) (k3 := k3) (k5 := k5) (nid := "ValueError.__new__")
    (T.hasType (by decide +kernel)) (I0.ok.hd hc) (by rw [he]; show (false || (backTo cpos (starEach es X.env)).any (·.1)) = false; rw [hplain]; rfl) (ld_glob I hg hC ⟨rfl, ?_⟩ hdb)
  have hw := wA_nox (E := XVn X B D.xc) (ha B σ F0 H env _ rp h) cpos pins s I
  rw [he] at hw ⊢
  refine Calls.evalArgs_plain (wpAny_mono hw (fun us s2 ⟨vs, H2, I2, rv, F2, ds, r2, s2', d2, hl, h100, q2⟩ => ⟨rfl, I2.bk _ _ hCo, ?_⟩) fun _ _ y => y)
  have I2' := I2.unwish
  have hu : us.length ≤ sizeLine := by rw [← rv.length, ← d2.length, sizeLine_eq]; omega
  obtain ⟨oI, hoI, hcI⟩ : ∃ oI, s2.heap.get? fI = some oI ∧ oI.cls = .type "function" := by
    unfold PySem.W.typeIn at hfn
    cases q : X.K.lookup fI with
    | none => simp [q] at hfn
    | some o => simp [q] at hfn; exact ⟨o, I2'.kIn _ _ q, hfn⟩
  obtain ⟨h2, g2, dr2, t2, os2⟩ := s2
  refine call_initT PySem.F.excBase_ValueError (T.keeps I2.bk) (I2.bk _ _ hCo) (hN.keeps I2.bk) hi hoI hcI (fun h' x m => ?_) hu
  obtain ⟨tA, ht, _⟩ := m.there
  have hx0 : H2 x = none := by
    cases q : H2 x with
    | none => rfl
    | some u => obtain ⟨ob, z⟩ := ObjOk.at (I2'.hok x u q); rw [m.new] at z; cases z
  have new0 : excNew x C none h' := ⟨_, _, ht, rfl, rfl, rfl, rfl⟩
  have ok3 : HOk X.prog X.w (upd H2 x (.ext (excNew x C none))) h' := fun b u e => by
    by_cases z : b = x
    · subst z; rw [upd_same] at e; cases e; exact ext_new new0
    · rw [upd_ne z] at e
      exact (I2'.hok b u e).stay (fun c v _ q => m.keeps c v q) (fun c q => by rw [upd_ne (ne_of_none q hx0)]; exact q) (fun c xs q => by rw [upd_ne (ne_of_none q hx0)]; exact q) fun c o xs q => by rw [upd_ne (ne_of_none q hx0)]; exact q
  have un3 : Un (frs X.stack) [] H2 (upd H2 x (.ext (excNew x C none))) h2 h' := ⟨fun b o e _ _ _ => m.keeps b o e, fun b o e _ _ _ => ⟨o.slots, m.keeps b o e⟩, fun b o e n _ => by rw [upd_ne (fun z => by subst z; rw [m.new] at e; cases e)]; exact n,
    fun b o e _ => ⟨o, m.keeps b o e⟩, fun b xs q => by rw [upd_ne (ne_of_none q hx0)]; exact q, fun b o u q => by rw [upd_ne (ne_of_none q hx0)]; exact q, fun b ps q => by rw [upd_ne (ne_of_none q hx0)]; exact q⟩
  have I3 : Inv X pins σ (upd H2 x (.ext (excNew x C none))) ⟨h', g2, dr2, t2, os2⟩ := I2'.call' rfl un3 ok3 I2'.bare fun b z => absurd z (by simp)
  have r2' : Vals (V.ref x :: (vs ++ dvs)) (Value.ref x :: (us ++ dfs)) := .cons rfl (rv.append hd)
  have hl2 : (vs ++ dvs).length = ns.length := by rw [← hl, List.length_append, List.length_append, d2.length, (hdd F2).length]
  have hsp : spI C ns (V.ref x :: (vs ++ dvs)) (upd H2 x (.ext (excNew x C none))) (fun v H' => v = .non ∧ ∃ dx, H2 dx = none ∧ dx ≠ x ∧ H' = upd (upd H2 x (.ext (excNew x C (some dx)))) dx (.ext (xdP dx (ns.zip (vs ++ dvs))))) (fun _ _ _ => False) :=
    ⟨x, vs ++ dvs, rfl, hl2, upd_same, fun dx hdx => by
      have ne : dx ≠ x := fun z => by subst z; rw [upd_same] at hdx; cases hdx
      rw [upd_ne ne] at hdx
      exact ⟨rfl, dx, hdx, ne, by rw [upd_upd]⟩⟩
  have hl3 : (Value.ref x :: us ++ dfs).length = ps.length := by
    have e := r2'.length
    rw [F.len _ _ _ _ hsp] at e
    exact e.symm
  refine wpAny_call (codeAny_mono (F.run _ X.stack _ _ ⟨Value.ref x :: us, []⟩ (Value.ref x :: (us ++ dfs)) _ _ _ (hr.make C us []) (I3.env0.make C us []) (hb _ (Value.ref x :: us) I3.kIn hl3) r2' hsp) fun r s' hq => ?_)
  cases r with
  | error ex => exact False.elim hq
  | ok fl =>
    cases fl with
    | next => exact False.elim hq
    | brk => exact False.elim hq
    | cont => exact False.elim hq
    | ret u =>
      obtain ⟨v, H', os', bare', un', hok', rvu, ev, dx, hdx, ne, eH⟩ := hq
      subst ev
      obtain rfl : u = Value.none := rvu
      refine ⟨rfl, ?_⟩
      have I4 : Inv X pins σ H' s' := I3.call' os' un' hok' bare' fun b z => absurd z (by simp)
      have hHx : H' x = some (.ext (excNew x C (some dx))) := by rw [eH, upd_ne (Ne.symm ne), upd_same]
      have hHd : H' dx = some (.ext (xdP dx (ns.zip (vs ++ dvs)))) := by rw [eH, upd_same]
      have hHo : ∀ b, b ≠ x → H' b = upd H2 dx (.ext (xdP dx (ns.zip (vs ++ dvs)))) b := fun b hb => by
        rw [eH]
        by_cases z : b = dx
        · subst z; rw [upd_same, upd_same]
        · rw [upd_ne z, upd_ne z, upd_ne hb]
      obtain ⟨⟨oe, fs, e1, e2, e3, e4, e5⟩, _⟩ := (show ObjOk X.prog X.w H' s'.heap x (.ext (excNew x C (some dx))) from hok' x _ hHx)
      refine ⟨x, oe, fs, rfl, I4.bk _ _ hCo, e1, e2, e4, e5, XV.toN hst hf ?_⟩
      obtain ⟨rp3, sm3⟩ := r2.laid (o := .ext (xdP dx (ns.zip (vs ++ dvs)))) hdx
      have hxH : upd H2 dx (.ext (xdP dx (ns.zip (vs ++ dvs)))) x = none := by rw [upd_ne (Ne.symm ne)]; exact hx0
      refine ⟨pins, x, cx, C, dx, σ, _, _, env, ns, ds ++ dds, vs ++ dvs, rfl, ⟨H2, ⟨h2, g2, dr2, t2, os2⟩, I2', os', bare', ?_, ?_, m.new, hxH, oe, fs, e1, e2, e3, e4, .inl e5⟩, rp3, ac, upd_same, (DenL.mono sm3 _ _ d2).append (hdd _), hl2, q2⟩
      · have nx : ∀ b o, h2.get? b = some o → b ≠ x := fun b o e z => by subst z; rw [m.new] at e; cases e
        have n3 : ∀ b o, h2.get? b = some o → H2 b = none → upd H2 x (.ext (excNew x C none)) b = none := fun b o e n => by rw [upd_ne (nx b o e)]; exact n
        refine ⟨fun b o e n hb hx => un'.keep b o (m.keeps b o e) (n3 b o e n) hb hx, fun b o e n hb hx => un'.slot b o (m.keeps b o e) (n3 b o e n) hb hx, fun b o e n hx => ?_, fun b o e hx => un'.there b o (m.keeps b o e) hx, fun b xs q => ?_, fun b o u q => ?_, fun b ps q => ?_⟩
        · have := un'.free b o (m.keeps b o e) (n3 b o e n) hx
          rw [hHo b (nx b o e)] at this; exact this
        · rw [upd_ne (ne_of_none q hdx)]; exact q
        · rw [upd_ne (ne_of_none q hdx)]; exact q
        · rw [upd_ne (ne_of_none q hdx)]; exact q
      · intro b u e
        have nb : b ≠ x := fun z => by subst z; rw [hxH] at e; cases e
        have e' : H' b = some u := by rw [hHo b nb]; exact e
        refine (hok' b u e').stay (fun _ _ _ q => q) (fun c q => ?_) (fun c xs q => ?_) fun c o xs q => ?_
        · have nc : c ≠ x := fun z => by subst z; rw [hHx] at q; cases q
          rw [← hHo c nc]; exact q
        · have nc : c ≠ x := fun z => by subst z; rw [hHx] at q; cases q
          rw [← hHo c nc]; exact q
        · have nc : c ≠ x := fun z => by subst z; rw [hHx] at q; cases q
          rw [← hHo c nc]; exact q
end
end L2.L3
set_option Elab.async false
set_option linter.all false
set_option maxRecDepth 100000
set_option maxHeartbeats 4000000
namespace L2.L3
open PySem PySem.Spec PyProof.Rows
def vturns (g : TG3) (tb : TS5) (Z : Ends5) : List D → En → Prop
  | [], env => Z.nx env
  | x :: xs, env => g x env fun env' => tb { Z with nx := vturns g tb Z xs, ct := vturns g tb Z xs, bk := Z.nx } env'
def vForR (f : List D → (Int → Nat → Prop) → Prop) (ts : TDs) (g : TG3) (tb : TS5) : TS5 := fun D env => ts env fun xs => f xs fun lo n => vturns g tb D (intsD lo n) env
abbrev FwV := List D → (D → Prop) → (D → Prop) → Prop
def spV (K : PySem.W.Frag) (f : FwV) : Sp := fun vs H Q E => ∃ (F : Hp) (ds : List D) (P : D → Prop) (R : D → Prop), Same F H ∧ DenL K F ds vs ∧ f ds P R ∧
  (∀ (d : D) (v : V) (F' H' : Hp), Same F F' → Same H H' → Same F' H' → (∀ p, H p ≠ none → F p = none → F' p = none) → Den K F' d v → P d → Q v H') ∧
  ∀ (c : Str) (C dx : Addr) (F' H' : Hp) (ns : List Str) (xs : List D) (us : List V), Same F F' → Same H H' → Same F' H' → (∀ p, H p ≠ none → F p = none → F' p = none) → PySem.W.nsIn K mainGlobals c = some (some (.ref C)) → F' dx = some (.ext (xdP dx (ns.zip us))) → DenL K F' xs us → us.length = ns.length → R (excD c ns xs) → E (.ref C) (some dx) H'
structure KnownV (P : Program) (w : World) (K : PySem.W.Frag) (mg : Str → Option Value) (base : Heap) (k : Nat) (x : Str) (f : FwV) : Prop where
  ex : ∃ (fa : Addr) (fd : FuncData) (ps : List Str), FnOk P w K mg base (CXe P w) k fa fd ps (spV K f) ∧ mg x = some (.ref fa) ∧ PySem.W.keepIn K (.ref fa) = true ∧ Binds K fd ps []
section
variable {P : Program} {w : World} {K : PySem.W.Frag} {mg : Str → Option Value} {base : Heap}
theorem XVn.leave {N : List Str} {qual : Str} {scope : Scope} {f : Addr} {cd : Value} {A : Around} {outer : List Env} {s0 : Shared} {H0 : Hp} {E : XK} {B : Base} {xc : D → Prop} {e : Value} {s' : Shared}
    (t : XVn (cxOf (CXe P w) P w K mg base N qual scope f cd A outer s0 H0 E) B xc e s')
    (q : ∀ (c : Str) (C dx : Addr) (σ' : St) (H' F' : Hp) (env' : En) (ns : List Str) (xs : List D) (us : List V), Rep K B F' H' σ' env' → PySem.W.nsIn K mainGlobals c = some (some (.ref C)) → F' dx = some (.ext (xdP dx (ns.zip us))) → DenL K F' xs us → us.length = ns.length → xc (excD c ns xs) → E (.ref C) (some dx) H') :
    (cxOf (CXe P w) P w K mg base N qual scope f cd A outer s0 H0 E).xe e s' := by
  show wpAny (model P w) _ (leaving _ e) _ _ s'
  unfold leaving
  refine wpAny_bind (wpAny_mono t (fun _ s2 z => wpAny_mono z (fun _ s3 y => ?_) fun _ _ y => y.elim) fun _ _ y => y.elim)
  obtain ⟨pins, a, c, C, dx, σ', H', F', env', ns, xs, us, rfl, t'', r, hc, hd, hl, hn, hx⟩ := y
  have I := t''.inv
  obtain ⟨Hc, sc, Ic, os, bare, un, hok, fl⟩ := t''
  refine ⟨a, .ref C, some dx, H', rfl, I.os, I.bare, I.base, I.hok, fl.older fun b o e => ?_, q c C dx σ' H' F' env' ns xs us r hc hd hl hn hx⟩
  exact Ic.base.there b o e (by show b ∉ ([] : List Addr); simp)
theorem Fun.knownV {x qual : Str} {st : Stmt} {fa : Addr} {fd : FuncData} {N ps : List Str} {k : Nat} {f : FwV} (F : Fun K x qual st fa fd) (S : FnScope N ps (defScope st)) (hmg : mg x = some (.ref fa)) (hb : Binds K fd ps [])
    (hl : ∀ ds Q R, f ds Q R → ds.length = ps.length)
    (hbody : ∀ (cdv : Value) (A : Around) (outer : List Env) (s : Shared) (H : Hp) (E : XK), Room k (A.deeper (envOfC qual (defScope st) s.heap.objs.size fa cdv)) →
      ∃ t, QVs (cxOf (CXe P w) P w K mg base N qual (defScope st) fa cdv A outer s H E) (defBody st) t ∧ ∀ ds (Q R : D → Prop), f ds Q R → t { nx := fun _ => Q .non, rt := Q, xc := R } (start3 N ds)) :
    KnownV P w K mg base (k + 1) x f := by
  refine ⟨fa, fd, ps, ?_, hmg, F.kp, hb⟩
  obtain ⟨oc, od, kV, doc, pm, an, cdv, ct, osl, rfl, lk, hcd⟩ := F.ex
  refine fn_of lk hcd S (fun vs H Q E h => ?_) fun A outer s H vs Q E hr h => ?_
  · obtain ⟨F0, ds, P, R, _, hd, hf, _⟩ := h
    rw [← hd.length]; exact hl ds _ _ hf
  · obtain ⟨F0, ds, P', R, fh, hd, hf, kk, kx⟩ := h
    obtain ⟨t, ht, hq⟩ := hbody cdv A outer s H E hr
    refine ⟨_, pss_w, ?_⟩
    have core := ht.run _ (start N vs) F0 H (start3 N ds) _ (start3_rep fh hd) (hq ds P' R hf)
    intro pins s1 I
    refine wpAny_mono (core pins s1 (I.wish _)) (fun fl s2 z => ?_) fun ex s2 z => ?_
    · refine SP_mono (SP.unwish z) (fun σ' H' ⟨F', env', r, q⟩ => ?_) (fun v H' ⟨F', d', r, dd, q⟩ => ?_) (fun _ _ ⟨_, _, _, q⟩ => q) (fun _ _ ⟨_, _, _, q⟩ => q)
      · exact kk .non .non F' H' r.f0 r.h0 r.fh (fun p h1 h2 => r.nf p ⟨h1, h2⟩) den_non q
      · exact kk d' v F' H' r.f0 r.h0 r.fh (fun p h1 h2 => r.nf p ⟨h1, h2⟩) dd q
    · exact XVn.leave z fun c C dx σ' H' F' env' ns xs us r hc hd hl hn hx => kx c C dx F' H' ns xs us r.f0 r.h0 r.fh (fun p h1 h2 => r.nf p ⟨h1, h2⟩) hc hd hl hn hx
end
abbrev TV := En → (D → Prop) → (D → Prop) → Prop
def XXV (X : Cx) (pins : List (Addr × Obj)) (σ : St) (B : Base) (env : En) (R : D → Prop) : Value → Shared → Prop := fun ex s' => ∃ (a : Addr) (c : Str) (C dx : Addr) (H' F' : Hp) (ns : List Str) (ds : List D) (vs : List V),
  ex = .ref a ∧ ThrownD X pins σ H' a (.ref C) (some dx) s' ∧ Rep X.K B F' H' σ env ∧ PySem.W.nsIn X.K mainGlobals c = some (some (.ref C)) ∧ F' dx = some (.ext (xdP dx (ns.zip vs))) ∧ DenL X.K F' ds vs ∧ vs.length = ns.length ∧ R (excD c ns ds)
structure QXV (X : Cx) (e : Expr) (t : TV) : Prop where
  of ::
  run : ∀ (B : Base) (σ : St) (F H : Hp) (env : En) (Q R : D → Prop), Rep X.K B F H σ env → t env Q R → ∀ (pins : List (Addr × Obj)) (s : Shared), Inv X pins σ H s →
    wpAny (model X.prog X.w) X.A (eval e X.env) (EP X pins σ (RV X B σ env F Q)) (XXV X pins σ B env R) s
def cCallV (f : FwV) (ts : TDs) : TV := fun env Q R => ts env fun xs => f xs Q R
section
variable {X : Cx} {e : Expr} {es : List Expr} {ts : TDs} {tx : TV} {p pos : Pos} {x : Str} {k : Nat} {f : FwV}
theorem q_callV (h : KnownV X.prog X.w X.K X.mg X.base k x f) (hr : Room k X.A) (ha : QA X.nox (e :: es) ts) (hg : Gl X x := by rfl) (hdb : (x == ("__debug__" : Str)) = false := by decide)
    (he : starEach (e :: es) X.env = (false, eval e X.env) :: starEach es X.env := by exact star_of rfl) (hpl : (backTo pos (starEach es X.env)).any (·.1) = false := by rfl) : QXV X (.Call (.Name x p) (e :: es) [] pos) (cCallV f ts) := by
  refine ⟨fun B σ F H env Q R rp hq pins s I => ?_⟩
  obtain ⟨fa, fd, ps, G, hm, hk, hb⟩ := h.ex
  refine wpAny_Call_Name_kw (ld_glob I hg hm ?_ hdb)
  have hw := wA_nox (E := XXV X pins σ B env R) (ha B σ F H env _ rp hq) pos pins s (I.wish _)
  refine PySem.W.callWith_K (h₀ := X.base) I.ok.mod.kin hk (thn hw fun us s1 ⟨vs, H1, I1, r, F1, ds, r1, s1', d1, hf⟩ => ⟨I1.kIn, ?_⟩) he hpl
  have I1' := I1.unwish
  have hsp : spV X.K f (vs ++ []) H1 (RV X B σ env F Q) (fun C dd H' => ∃ (c : Str) (C' dx : Addr) (F' : Hp) (ns : List Str) (xs : List D) (us : List V), C = .ref C' ∧ dd = some dx ∧ Rep X.K B F' H' σ env ∧ PySem.W.nsIn X.K mainGlobals c = some (some (.ref C')) ∧ F' dx = some (.ext (xdP dx (ns.zip us))) ∧ DenL X.K F' xs us ∧ us.length = ns.length ∧ R (excD c ns xs)) := by
    rw [List.append_nil]
    exact ⟨F1, ds, Q, R, r1.fh, d1, hf, fun d v F' H' a b c n hd q => ⟨F', d, r1.ext a c b n, s1'.trans a, hd, q⟩, fun c C dx F' H' ns xs us a b c' n hc hd hl hn hx => ⟨c, C, dx, F', ns, xs, us, rfl, rfl, r1.ext a c' b n, hc, hd, hl, hn, hx⟩⟩
  have hl : (us ++ []).length = ps.length := by
    have := G.len _ _ _ _ hsp
    rw [List.append_nil] at this ⊢
    rw [← r.length]; exact this
  refine wpAny_call (codeAny_mono (G.run X.A X.stack s1 H1 ⟨us, []⟩ (us ++ []) (vs ++ []) _ _ hr I1'.env0 (hb s1 us I1'.kIn hl) (by simpa using r) hsp) fun rs s' hq' => ?_)
  cases rs with
  | error ex =>
    obtain ⟨a, C, dd, H', rfl, os, bare, un, hok, fl, c, C', dx, F', ns, xs, us', rfl, rfl, r', rest⟩ := hq'
    exact ⟨a, c, C', dx, H', F', ns, xs, us', rfl, ⟨H1, s1, I1', os, bare, un, hok, fl⟩, r', rest⟩
  | ok fl =>
    cases fl with
    | ret u => exact I1'.after hq'
    | next => exact False.elim hq'
    | brk => exact False.elim hq'
    | cont => exact False.elim hq'
end
end L2.L3
set_option Elab.async false
set_option linter.all false
set_option maxRecDepth 100000
set_option maxHeartbeats 4000000
namespace L2.L3
open PySem PySem.Spec PyProof.Rows
section
variable {prog : Program} {w : World} {A : Around} {E : Value → Shared → Prop} {K : PySem.W.Frag} {x C : Addr} {ox od : Obj} {h : Heap} {g : Array GenState} {d : Drawn} {t : Nat} {os : OsState}
theorem xcd_class (O : XcOk K C) : PySem.W.findObj K C (some od) "__class__" = some (.bind (.builtin "getset_descriptor.__get__") (.builtin "object.__class__")) :=
  PySem.W.findObj_data (by obtain ⟨cd, hc, _⟩ := PySem.W.any_some O.dct; rw [hc]; rfl) O.fnd O.gt O.tk
theorem xcd_body {tk : Tok} {Q : Fin → Shared → Prop} (O : XcOk K C) (X : K.In h) (I : PySem.W.InstAt h x ox C (some od)) (hq : Q (.done (.ret (.ref C))) ⟨h, g, d, t, os⟩) :
    wpAny (model prog w) A (Builtin.«object.__getattribute__» ⟨[.ref x, .str "__class__" tk], []⟩) Q E ⟨h, g, d, t, os⟩ := by
  have L0 := I.type (M := model prog w)
  have L1 := PySem.W.looks_find (M := model prog w) X I (xcd_class O)
  unfold Builtin.«object.__getattribute__»
  refine wpAny_bind (wpAny_pure (wpAny_bind (wpAny_pure (wpAny_bind (L0.at (wpAny_bind (L1.at ?_)))))))
  show wpAny _ _ (Builtin.ObjectAttr.bindTo _ _ _ _) _ _ _
  unfold Builtin.ObjectAttr.bindTo
  refine wpAny_bind (wpAny_holding (wpAny_call (PySem.W.class_get (s := ⟨h, g, d, t, os⟩) (ox := ox) (od := some od) X I O.mro ?_)))
  exact wpAny_pure hq
theorem xcd_own {tk : Tok} {name : Str} {v : Value} {Q : Fin → Shared → Prop} (X : K.In h) (I : PySem.W.InstAt h x ox C (some od)) (hf : PySem.W.findObj K C (some od) name = some (.value v)) (hq : Q (.done (.ret v)) ⟨h, g, d, t, os⟩) :
    wpAny (model prog w) A (Builtin.«object.__getattribute__» ⟨[.ref x, .str name tk], []⟩) Q E ⟨h, g, d, t, os⟩ := by
  have L0 := I.type (M := model prog w)
  have L1 := PySem.W.looks_find (M := model prog w) X I hf
  unfold Builtin.«object.__getattribute__»
  refine wpAny_bind (wpAny_pure (wpAny_bind (wpAny_pure (wpAny_bind (L0.at (wpAny_bind (L1.at ?_)))))))
  exact wpAny_pure hq
theorem xcd_check {nameV : Value} {Q : Unit → Shared → Prop} (O : XcOk K C) (X : K.In h) (I : PySem.W.InstAt h x ox C (some od)) (hq : Q () ⟨h, g, d, t, os⟩) :
    wpAny (model prog w) A (checkBuiltinCall "BaseException.__getattribute__" ⟨[.ref x, nameV], []⟩) Q E ⟨h, g, d, t, os⟩ := by
  have kd : builtinKind "BaseException.__getattribute__" = some .slot := by decide +kernel
  have sp : splitId "BaseException.__getattribute__" = some ("BaseException", "__getattribute__") := by decide +kernel
  have ha := F.args_bexc_ga (.ref x) nameV
  have L0 := I.type (M := model prog w)
  have L2 : PySem.W.Looks (model prog w) h (isInstance (.ref x) (.type "BaseException")) true := L0.andThen (PySem.W.looks_subIn X O.sub)
  simp only [checkBuiltinCall, kd, sp]
  refine wpAny_bind (L2.at ?_)
  repeat (first | assumption | wp_step)
theorem xcd_getClass {Q : Option Value → Shared → Prop} (O : XcOk K C) (X : K.In h) (I : PySem.W.InstAt h x ox C (some od)) (hq : Q (some (.ref C)) ⟨h, g, d, t + 1, os⟩) : wpAny (model prog w) A (getAttr? (.ref x) "__class__") Q E ⟨h, g, d, t, os⟩ := by
  have L0 := I.type (M := model prog w)
  have L1 := PySem.W.looks_findIn (M := model prog w) X O.ga
  have L2 := PySem.W.looks_findIn (M := model prog w) X O.hk
  have FB := PySem.F.attrBase_ValueError
  unfold getAttr? getAttrBy? getAttrBy
  refine wpAny_bind (wpAny_mkText (wpAny_bind (wpAny_attempt (wpAny_holding (wpAny_bind (L0.at (wpAny_bind (L1.at ?_))))))))
  have n1 : (onTheHeap (Value.ref C) && Value.builtin "BaseException.__getattribute__" == Value.builtin "object.__getattribute__") = false := by
    rw [show (Value.builtin "BaseException.__getattribute__" == Value.builtin "object.__getattribute__") = false by decide +kernel]; rfl
  show wpAny _ _ (if (onTheHeap (Value.ref C) && Value.builtin "BaseException.__getattribute__" == Value.builtin "object.__getattribute__") = true then _ else _) _ _ _
  rw [n1, if_neg (by decide)]
  unfold getAttrByItsOwn
  refine wpAny_bind (L2.at (wpAny_bind (wpAny_attempt (wpAny_holding ?_))))
  unfold callGetattribute boundAndCalled
  rw [if_neg (by decide), FB.ga.bind]
  refine wpAny_bind (wpAny_pure ?_)
  refine wpAny_call (codeAny_call_builtin FB.ga.plain F.entry_bexc_ga (xcd_check O X I (xcd_body O X I ?_)))
  exact PySem.W.handed_on rfl (wpAny_pure hq)
theorem xcd_get {name : Str} {v : Value} {b : Bool} {Q : Value → Shared → Prop} (O : XcOk K C) (X : K.In h) (I : PySem.W.InstAt h x ox C (some od)) (hf : PySem.W.findObj K C (some od) name = some (.value v)) (hh : PySem.W.handedIn v = true) (hq : Q v ⟨h, g, d, t + 1, os⟩) :
    wpAny (model prog w) A (getAttr (.ref x) name b) Q E ⟨h, g, d, t, os⟩ := by
  have L0 := I.type (M := model prog w)
  have L1 := PySem.W.looks_findIn (M := model prog w) X O.ga
  have L2 := PySem.W.looks_findIn (M := model prog w) X O.hk
  have FB := PySem.F.attrBase_ValueError
  unfold getAttr getAttrBy
  refine wpAny_bind (wpAny_mkText (wpAny_holding (wpAny_bind (L0.at (wpAny_bind (L1.at ?_))))))
  have n1 : (onTheHeap (Value.ref C) && Value.builtin "BaseException.__getattribute__" == Value.builtin "object.__getattribute__") = false := by
    rw [show (Value.builtin "BaseException.__getattribute__" == Value.builtin "object.__getattribute__") = false by decide +kernel]; rfl
  show wpAny _ _ (if (onTheHeap (Value.ref C) && Value.builtin "BaseException.__getattribute__" == Value.builtin "object.__getattribute__") = true then _ else _) _ _ _
  rw [n1, if_neg (by decide)]
  unfold getAttrByItsOwn
  refine wpAny_bind (L2.at (wpAny_bind (wpAny_attempt (wpAny_holding ?_))))
  unfold callGetattribute boundAndCalled
  rw [if_neg (by cases b <;> decide), FB.ga.bind]
  refine wpAny_bind (wpAny_pure ?_)
  refine wpAny_call (codeAny_call_builtin FB.ga.plain F.entry_bexc_ga (xcd_check O X I (xcd_own X I hf ?_)))
  exact PySem.W.handed_on hh hq
theorem kitx_xcd (O : XcOk K C) : PySem.W.KitX K (.ref x) (.ref C) (fun h => ∃ ox od, PySem.W.InstAt h x ox C (some od)) where
  ty := fun _ _ _ ⟨_, _, I⟩ => I.type
  it := fun _ _ kin _ A Q E s keep q => let ⟨_, _, _, _, e⟩ := exc_cls O.dct; wpAny_bind (wpAny_loadPart (keep _ _ (kin _ _ e)) (wpAny_pure q))
  ne := fun h tp dd its n sl kin e => by
    obtain ⟨_, _, _, _, e1⟩ := exc_cls O.dct
    cases z : (Value.ref C == Value.ref tp) with
    | false => rfl
    | true =>
      cases eq_of_beq z
      cases (kin _ _ e1).symm.trans e
  ca := fun {prog w A E Q s} X p h => by
    obtain ⟨ox, od, I⟩ := p
    obtain ⟨hh, g, d, t, os⟩ := s
    exact xcd_getClass O X I h
end
theorem xcd_inst {X : Cx} {pins : List (Addr × Obj)} {σ : St} {H : Hp} {s : Shared} {a C dx : Addr} {fs : List (Str × V)} (I : Inv X pins σ H s) (h1 : H a = some (.ext (excAtD a C dx))) (h2 : H dx = some (.ext (xdP dx fs))) :
    ∃ (ox od : Obj) (mA : Str → Option Value), PySem.W.InstAt s.heap a ox C (some od) ∧ (∀ name, PySem.W.lookIn name od = some (mA name)) ∧ ∀ f, RelO (fs.lookup f) (mA f) := by
  obtain ⟨⟨o, vs, e1, e2, e3, e4⟩, _⟩ := (show ObjOk X.prog X.w H s.heap a (.ext (excAtD a C dx)) from I.hok a _ h1)
  obtain ⟨⟨mA, hn, hr, _⟩, _⟩ := (show ObjOk X.prog X.w H s.heap dx (.ext (xdP dx fs)) from I.hok dx _ h2)
  obtain ⟨od, ho, hl⟩ := lookIn_ns hn
  exact ⟨o, od, mA, ⟨e1, e2, by unfold PySem.W.notCls; rw [e4], by rw [e3]; exact ho⟩, hl, hr⟩
def isxDF (c : Str) (y : D) (b : Bool) (l : List D) (Q : D → Prop) : Prop := ∃ ns ds, l = [excD c ns ds, y] ∧ Q (.bl b)
def rIsxD (K : PySem.W.Frag) (C : Addr) (b : Bool) : List V → Hp → VK → Prop := fun xs H Q => ∃ a y dx fs, xs = [.ref a, y] ∧ H a = some (.ext (excAtD a C dx)) ∧ H dx = some (.ext (xdP dx fs)) ∧
  ((∃ n, y = .ty n ∧ PySem.W.kitOne K (.ref C) (.type n) = some b) ∨ (∃ C', y = .ref C' ∧ PySem.W.kitOne K (.ref C) (.ref C') = some b) ∨ ∃ t zs, y = .ref t ∧ SqT K H t zs ∧ ∀ us, Vals zs us → PySem.W.kitAny K (.ref C) us = some b) ∧ Q (.bl b) H
section
variable {X : Cx} {C : Addr} {b : Bool} {c : Str} {y : D} {a e2 : Expr} {ts : TDs} {p pos : Pos}
theorem call_isxD (O : XcOk X.K C) : CallR X (.builtin "isinstance") (rIsxD X.K C b) := by
  intro pins s σ H xs us Q I r h
  obtain ⟨x, y, dx, fs, rfl, hx, hdx, hy, q⟩ := h
  obtain ⟨u, w, rfl, rx, ry⟩ := vals2 r
  cases (show u = Value.ref x from rx)
  have fin : ∀ tk, EP X pins σ Q (.bool b) { s with toks := tk } := fun tk => ⟨.bl b, H, I.tok tk, rfl, q⟩
  have at_ : ∃ ox od, PySem.W.InstAt s.heap x ox C (some od) := let ⟨ox, od, _, z, _⟩ := xcd_inst I hx hdx; ⟨ox, od, z⟩
  rcases hy with ⟨n, rfl, e⟩ | ⟨C', rfl, e⟩ | ⟨t, zs, rfl, hq, e⟩
  · cases (show w = Value.type n from ry)
    exact PySem.W.kia_one (kitx_xcd O) I.kIn at_ e (fun z => nomatch z) fin
  · cases (show w = Value.ref C' from ry)
    exact PySem.W.kia_one (kitx_xcd O) I.kIn at_ e (fun z => nomatch z) fin
  · cases (show w = Value.ref t from ry)
    obtain ⟨its, vz, ⟨o, h1, h2, n, h3⟩, _⟩ := I.tuple hq
    obtain ⟨oc, od, odt, osl⟩ := o
    cases h2
    cases h3
    exact PySem.W.kia_tup (kitx_xcd O) I.kIn at_ h1 (e _ vz) (fun z => nomatch z) fin
theorem c3_isxD (ac : PySem.W.nsIn X.K mainGlobals c = some (some (.ref C))) (hk : KitD X.K C y b) : Call3 X (rIsxD X.K C b) (isxDF c y b) := by
  intro B σ F H env Q ds vs Z rp h hz hf
  obtain ⟨ns, xs, rfl, q⟩ := hf
  simp only [DenL] at h
  obtain ⟨v, r, rfl, hd, v', r', rfl, hd', rfl⟩ := h
  obtain ⟨a, C', dx, us, rfl, e, h1, h2, _, _⟩ := excD_den hd
  rw [ac] at e
  cases e
  refine ⟨a, v', dx, _, rfl, rp.fh _ _ h1, rp.fh _ _ h2, ?_, hz (.bl b) H F (.bl b) rp (Same.refl _) den_bl q⟩
  cases hk with
  | ty e => simp only [Den] at hd'; subst hd'; exact .inl ⟨_, rfl, e⟩
  | cls h e =>
    simp only [Den] at hd'
    obtain ⟨C'', rfl, e'⟩ := hd'
    rw [h] at e'
    cases e'
    exact .inr (.inl ⟨_, rfl, e⟩)
  | tup h e =>
    simp only [Den] at hd'
    obtain ⟨t, zs, rfl, hq, hl⟩ := hd'
    exact .inr (.inr ⟨t, zs, rfl, Same.seqT rp.fh hq, fun us hu => by rw [ClsL.vals h hl hu]; exact e⟩)
theorem q_isxD (c : Str) (y : D) (b : Bool) (hm : X.mg "isinstance" = none) (ac : PySem.W.nsIn X.K mainGlobals c = some (some (.ref C))) (O : XcOk X.K C) (hk : KitD X.K C y b) (ha : QA X [a, e2] ts) (hg : Gl X "isinstance" := by rfl)
    (he : starEach [a, e2] X.env = (false, eval a X.env) :: starEach [e2] X.env := by exact star_of rfl) (hpl : (backTo pos (starEach [e2] X.env)).any (·.1) = false := by rfl) : QE X (.Call (.Name "isinstance" p) [a, e2] [] pos) (cCall (isxDF c y b) ts) :=
  q_callB (call_isxD O) (c3_isxD ac hk) hg hm boot_isi' ha (he := he) (hpl := hpl)
theorem zip_look {K : PySem.W.Frag} {F : Hp} {f : Str} {d : D} : ∀ {ns : List Str} {ds : List D} {vs : List V}, DenL K F ds vs → (ns.zip ds).lookup f = some d → ∃ v, (ns.zip vs).lookup f = some v ∧ Den K F d v
  | [], _, _, _, h => by simp at h
  | _ :: _, [], _, _, h => by simp at h
  | n :: ns, x :: ds, vs, hd, h => by
    simp only [DenL] at hd
    obtain ⟨v, r, rfl, hx, hr⟩ := hd
    rw [List.zip_cons_cons, List.lookup_cons] at h ⊢
    cases e : (f == n) with
    | true => rw [e] at h; cases h; exact ⟨v, rfl, hx⟩
    | false => rw [e] at h; exact zip_look hr h
def cFldX (c f : Str) (ta : TD) : TD := fun env Q => ta env fun x => ∃ ns ds d, x = excD c ns ds ∧ (ns.zip ds).lookup f = some d ∧ Q d
theorem q_fldX {e : Expr} {ta : TD} (c f : Str) (ac : PySem.W.nsIn X.K mainGlobals c = some (some (.ref C))) (O : XcOk X.K C) (hn : PySem.W.findIn X.K (.ref C) f = some none) (he : QE X e ta) (hb : attributeBase e f X.env (eval e X.env) = eval e X.env := by rfl) :
    QE X (.Attribute e f pos) (cFldX c f ta) := by
  refine ⟨fun B σ F H env Q rp h pins s I => ?_⟩
  refine attr_of hb (thn (he B σ F H env _ rp h pins s I) fun u s1 hq0 => ?_)
  obtain ⟨x, H1, I1, rx, F1, dd, r1, s1', hd, ns, ds, d, ex, hl, q⟩ := hq0
  subst ex
  obtain ⟨a, C', dx, us, rfl, e', h1, h2, hdl, _⟩ := excD_den hd
  rw [ac] at e'
  cases e'
  obtain rfl : u = Value.ref a := rx
  obtain ⟨ox, od, mA, J, hlk, hr⟩ := xcd_inst I1 (r1.fh _ _ h1) (r1.fh _ _ h2)
  obtain ⟨v, hv, dv⟩ := zip_look (F := F1) hdl hl
  obtain ⟨u', hu', ru⟩ := RelO.some_of (v := v) (o := mA f) (by rw [← hv]; exact hr f)
  obtain ⟨hh, g, dr, t, os⟩ := s1
  refine xcd_get O I1.kIn J (PySem.W.findObj_own O.dct hn rfl (by rw [hlk, hu'])) (handed_of ru) ?_
  exact ⟨v, H1, I1.tok _, ru, F1, d, r1, s1', dv, q⟩
end
theorem ThrownD.caughtD {X : Cx} {pins : List (Addr × Obj)} {σ : St} {H' : Hp} {a C dx : Addr} {s' : Shared} (t : ThrownD X pins σ H' a (.ref C) (some dx) s') : H' a = none ∧ Inv X pins σ (upd H' a (.ext (excAtD a C dx))) s' := by
  obtain ⟨Hc, sc, I, os, bare, un, hok, n0, na, oe, vs, he, hc, hdc, hd, _⟩ := t
  refine ⟨na, I.call' os ⟨un.keep, un.slot, fun b o e n hx => ?_, un.there, fun b xs e => ?_, fun b o u e => ?_, fun b ps e => ?_⟩ (fun b u e => ?_) bare fun b z => absurd z (by simp)⟩
  · have : b ≠ a := fun z => by subst z; rw [n0] at e; cases e
    rw [upd_ne this]; exact un.free b o e n hx
  · have q := un.tups b xs e
    rw [upd_ne (ne_of_none q na)]; exact q
  · have q := un.frzs b o u e
    rw [upd_ne (ne_of_none q na)]; exact q
  · have q := un.tbls b ps e
    rw [upd_ne (ne_of_none q na)]; exact q
  · by_cases z : b = a
    · subst z
      rw [upd_same] at e; cases e
      exact ⟨⟨oe, vs, he, hc, hdc, hd⟩, ⟨oe, he⟩, fun h h' ⟨o, vs, h1, h2⟩ k => ⟨o, vs, k o h1, h2⟩⟩
    · rw [upd_ne z] at e
      exact (hok b u e).stay (fun _ _ _ q => q) (fun c q => by rw [upd_ne (ne_of_none q na)]; exact q) (fun c xs q => by rw [upd_ne (ne_of_none q na)]; exact q) fun c o xs q => by rw [upd_ne (ne_of_none q na)]; exact q
def dTryR (i : Nat) (cls : Str) (tx : TV) (tb : TS3) : TS3 := fun D env => tx env D.rt fun x => (∃ ns ds, x = excD cls ns ds) ∧ tb { nx := fun _ => False, rt := D.rt } (env.set i (some (.d x)))
end L2.L3
set_option Elab.async false
set_option linter.all false
set_option maxRecDepth 100000
set_option maxHeartbeats 4000000
namespace L2.L3
open PySem PySem.Spec PyProof.Rows
def clsBody : Stmt → List Stmt
  | .ClassDef (body := b) .. => b
  | _ => []
section
variable {X : Cx} {a b c e : Expr} {ta tb te : TD} {pos : Pos} {st : Stmt} {t : TS3}
def kPut (i : Nat) (tj : TD) : TG3 := fun x env Q => ∃ xs, env[i]? = some (some (.own xs)) ∧ tj env fun y => ∃ (j : Int) (k : Nat), y = .int j ∧ ixN xs.length j = some k ∧ Q (env.set i (some (.own (xs.set k x))))
def dPopI (i : Nat) (te : TD) : TS3 := fun Z env => ∃ xs, env[i]? = some (some (.own xs)) ∧ te env fun y => ∃ (k : Nat), y = .int k ∧ k < xs.length ∧ k < 2 ^ 62 ∧ Z.nx (env.set i (some (.own (xs.eraseIdx k))))
def dFreezeM (i : Nat) (t : TS3) : TS3 := fun D env => (∃ xs, env[i]? = some (some (.own xs)) ∧ t D (env.set i (some (.d (.lst xs))))) ∨ (∃ x, env[i]? = some (some (.d x)) ∧ t D env)
end
end L2.L3
local macro_rules | `(tactic| simp_all_arith! only [$ls,*]) => `(tactic| ((try dsimp only [$(⟨ls.elemsAndSeps⟩),*, L2.L3.dSeq, L2.L3.dIf, L2.L3.dRet, L2.L3.dRetN, L2.L3.dNext, L2.L3.dBreak, L2.L3.dCont, L2.L3.dNever, L2.L3.dSet, L2.L3.dAsg, L2.L3.dFor, L2.L3.dForR, L2.L3.dSetOwn, L2.L3.dAppend, L2.L3.dExtend, L2.L3.dFreeze, L2.L3.dPut, L2.L3.cVar, L2.L3.cC, L2.L3.cOp, L2.L3.cUn, L2.L3.cTest, L2.L3.cNot, L2.L3.cAnd, L2.L3.cOr, L2.L3.cAndV, L2.L3.cOrV, L2.L3.cNotV, L2.L3.cIf, L2.L3.cCall, L2.L3.cCons, L2.L3.cNil, L2.L3.cTup, L2.L3.cLst, L2.L3.cIsi, L2.L3.cFresh, L2.L3.cFew, L2.L3.cSl, L2.L3.cPart, L2.L3.cNoPart, L2.L3.cIxOwn, L2.L3.kName, L2.L3.kTup, L2.L3.cDisp, L2.L3.kNil, L2.L3.cTrue, L2.L3.start3, List.map_cons, List.map_nil, List.length_cons, List.length_nil, List.cons_append, List.nil_append, List.getElem?_cons_zero, List.getElem?_cons_succ, List.set_cons_zero, List.set_cons_succ, L2.L3.cComp, L2.L3.cCompR, L2.L3.ii_eq, L2.L3.addD_ii, L2.L3.addD_ll, L2.L3.addD_tt, L2.L3.addD_ss, L2.L3.negD_i, L2.L3.lenF_l, L2.L3.lenF_t, L2.L3.lenF_s, L2.L3.intF_i, L2.L3.intF_b, L2.L3.listF_l, L2.L3.listF_t, L2.L3.tupleF_l, L2.L3.tupleF_t, L2.L3.dTry, L2.L3.cCallX, L2.L3.zRaise, L2.L3.zIf, L2.L3.zUp, L2.L3.zSeq, L2.L3.zRet, L2.L3.zSet, L2.L3.zExpr, L2.L3.cListOf, L2.L3.kLst, L2.L3.cChain, L2.L3.cLenOwn, L2.L3.cOwnT, L2.L3.dPop, L2.L3.cInG, L2.L3.cIxG, L2.L3.cListS, L2.L3.dInsert, L2.L3.dSetPop, L2.L3.cOwnNe, L2.L3.cListR, L2.L3.dForE, L2.L3.cComp2, L2.L3.cCount, L2.L3.cRevT, L2.L3.dFdiv, L2.L3.eOf, L2.L3.ePop, L2.L3.eOp, L2.L3.eCall, L2.L3.aNilE, L2.L3.aConsE, L2.L3.dAsgE]); (try simp only [$ls,*, L2.L3.dSeq, L2.L3.dIf, L2.L3.dRet, L2.L3.dRetN, L2.L3.dNext, L2.L3.dBreak, L2.L3.dCont, L2.L3.dNever, L2.L3.dSet, L2.L3.dAsg, L2.L3.dPar_eq, L2.L3.two2_eq, L2.L3.dFor, L2.L3.dForR, L2.L3.dSetOwn, L2.L3.dAppend, L2.L3.dExtend, L2.L3.dFreeze, L2.L3.dPut, L2.L3.cVar, L2.L3.cC, L2.L3.cOp, L2.L3.cUn, L2.L3.cTest, L2.L3.cNot, L2.L3.cAnd, L2.L3.cOr, L2.L3.cAndV, L2.L3.cOrV, L2.L3.cNotV, L2.L3.cIf, L2.L3.cCall, L2.L3.cCons, L2.L3.cNil, L2.L3.cTup, L2.L3.cLst, L2.L3.cIsi, L2.L3.cFresh, L2.L3.cFew, L2.L3.cSl, L2.L3.cPart, L2.L3.cNoPart, L2.L3.cIxOwn, L2.L3.kName, L2.L3.kTup, L2.L3.kCons_eq, L2.L3.cons1_eq, L2.L3.cDisp, L2.L3.kNil, L2.L3.cTrue, L2.L3.start3, List.map_cons, List.map_nil, List.length_cons, List.length_nil, List.cons_append, List.nil_append, List.append_nil, List.getElem?_cons_zero, List.getElem?_cons_succ, List.getElem?_nil, List.set_cons_zero, List.set_cons_succ, Option.some.injEq, L2.L3.Lo.d.injEq, L2.L3.Lo.own.injEq, L2.L3.D.bl.injEq, L2.L3.D.int.injEq, exists_eq_left', exists_eq_left, Nat.reduceAdd, Nat.reduceSub, Nat.sub_self, Nat.add_one_sub_one, List.replicate_succ, List.replicate_zero, L2.L3.D.tup.injEq, List.cons.injEq, and_assoc, L2.L3.cComp, L2.L3.cCompR, L2.L3.ii_eq, L2.L3.addD_ii, L2.L3.addD_ll, L2.L3.addD_tt, L2.L3.addD_ss, L2.L3.negD_i, L2.L3.eqF_ii, L2.L3.neF_ii, L2.L3.eqF_ss, L2.L3.eqF_bb, L2.L3.absF_i, L2.L3.lenF_l, L2.L3.lenF_t, L2.L3.lenF_s, L2.L3.maxF_ii, L2.L3.minF_ii, L2.L3.intF_i, L2.L3.intF_b, L2.L3.listF_l, L2.L3.listF_t, L2.L3.tupleF_l, L2.L3.tupleF_t, L2.L3.itemsD_l, L2.L3.itemsD_t, L2.L3.slD_l, L2.L3.rng1_i, L2.L3.rng2_i, decide_eq_true_eq, true_and, and_true, if_true, if_false, Bool.false_eq_true, Bool.not_eq_true', decide_eq_false_iff_not, PySem.sizeLine_eq, Int.reduceToNat, Int.reducePow, Int.reduceMul, Int.reduceAdd, Int.reduceNeg, Int.reduceSub, Int.reduceLT, Int.reduceLE, Int.reduceEq, Nat.reduceEqDiff, decide_true, decide_false, Nat.reduceLeDiff, Nat.reduceLT, Bool.true_eq_false, Bool.not_true, Bool.not_false, Bool.not_not, L2.L3.dTry, L2.L3.cCallX, L2.L3.zRaise, L2.L3.zIf, L2.L3.zUp, L2.L3.zSeq, L2.L3.zRet, L2.L3.zSet, L2.L3.zExpr, L2.L3.isxF, L2.L3.isD_bb, L2.L3.isnD_bb, L2.L3.cListOf, L2.L3.listOfR_l, L2.L3.listOfR_t, L2.L3.kLst, L2.L3.D.lst.injEq, L2.L3.cChain, L2.L3.cLenOwn, L2.L3.cOwnT, L2.L3.dPop, L2.L3.cInG, L2.L3.cIxG, L2.L3.cListS, L2.L3.dInsert, L2.L3.dSetPop, L2.L3.cOwnNe, L2.L3.cListR, L2.L3.dForE, L2.L3.enD, L2.L3.cComp2, L2.L3.cCount, L2.L3.cRevT, L2.L3.dFdiv, L2.L3.eOf, L2.L3.ePop, L2.L3.eOp, L2.L3.eCall, L2.L3.aNilE, L2.L3.aConsE, L2.L3.dAsgE, L2.L3.dTryR, L2.L3.cCallV, L2.L3.vRaise, L2.L3.vIf, L2.L3.vUp, L2.L3.vSeq, L2.L3.vForR, L2.L3.isxDF, L2.L3.cFldX, L2.L3.kPut, L2.L3.dPopI, L2.L3.dFreezeM])))
set_option Elab.async false
set_option linter.all false
set_option maxRecDepth 100000
set_option maxHeartbeats 4000000
namespace L2.L3
open PySem PySem.Spec PyProof.Rows
section
variable {prog : Program} {w : World} {A : Around} {E : Value → Shared → Prop} {s : Shared}
theorem DictHas.typeIs {d : Addr} {es : Array DictEntry} {ep : Nat} (x : DictHas s.heap d es ep) : s.TypeIs (.ref d) "dict" := let ⟨o, ho, hc, _⟩ := x; ⟨o, ho, hc.1⟩
theorem DictHas.new (h : Heap) : DictHas (h.push { cls := .type "dict", data := .dict #[] }) h.objs.size #[] 0 := ⟨_, Heap.get?_push_size _ rfl, ⟨rfl, rfl, rfl⟩, rfl⟩
end
end L2.L3
set_option Elab.async false
set_option linter.all false
set_option maxRecDepth 100000
set_option maxHeartbeats 4000000
namespace L2.L3
open PySem PySem.Spec PyProof.Rows
mutual
def keyN : D → Bool
  | .int _ => true
  | .non => true
  | .tup ds => keyNs ds
  | _ => false
def keyNs : List D → Bool
  | [] => true
  | d :: ds => keyN d && keyNs ds
end
end L2.L3
set_option Elab.async false
set_option linter.all false
set_option maxRecDepth 100000
set_option maxHeartbeats 4000000
namespace L2.L3
open PySem PySem.Spec PyProof.Rows
structure DicOk (kvs : List (D × D)) : Prop where
  key : ∀ kv ∈ kvs, keyN kv.1 = true ∧ dep kv.1 ≤ 8
  dif : ∀ (i j : Nat) (x y : D × D), kvs[i]? = some x → kvs[j]? = some y → x.1 = y.1 → i = j
end L2.L3
set_option Elab.async false
set_option linter.all false
set_option maxRecDepth 100000
set_option maxHeartbeats 4000000
set_option Elab.async false
set_option linter.all false
set_option maxRecDepth 100000
set_option maxHeartbeats 4000000
set_option Elab.async false
set_option linter.all false
set_option maxRecDepth 100000
set_option maxHeartbeats 4000000
set_option Elab.async false
set_option linter.all false
set_option maxRecDepth 100000
set_option maxHeartbeats 4000000
namespace L2.L3
open PySem PySem.Spec PyProof.Rows
section
variable {K : PySem.W.Frag} {B : Base} {F H : Hp} {σ : St} {e : En}
def AtN (x : Addr) : PySem.W.Frag → Hp → Addr → Prop := fun _ _ a => a = x
theorem at_selfN {i : Nat} {a : Addr} (r : Rep K B F H σ e) (h : e[i]? = some (some (.d (.obj (AtN a))))) : σ[i]? = some (some (.ref a)) := by
  obtain ⟨v, h1, h2⟩ := r.dv i _ h
  simp only [Den] at h2
  obtain ⟨b, rfl, h3⟩ := h2
  have : b = a := h3 F (Same.refl _)
  rw [this] at h1; exact h1
end
end L2.L3
set_option Elab.async false
set_option linter.all false
set_option maxRecDepth 100000
set_option maxHeartbeats 4000000
namespace L2.L3
open PySem PySem.Spec PyProof.Rows
theorem DicOk.nil : DicOk [] := ⟨fun _ h => absurd h List.not_mem_nil, fun i j x y h => by simp at h⟩
end L2.L3
set_option Elab.async false
set_option linter.all false
set_option maxRecDepth 100000
set_option maxHeartbeats 4000000
set_option Elab.async false
set_option linter.all false
set_option maxRecDepth 100000
set_option maxHeartbeats 4000000
namespace L2.L3
open PySem PySem.Spec PyProof.Rows
def spN (K : PySem.W.Frag) (f : Fw) : Sp := fun vs H Q _ => ∃ (F : Hp) (ds : List D) (P : D → Prop), Same F H ∧ DenL K F ds vs ∧ f ds P ∧
  ∀ (xs : List D) (us : List V) (p : Addr) (F' H1 : Hp), Same F F' → Same H H1 → Same F' H1 → (∀ p, H p ≠ none → F p = none → F' p = none) → H1 p = none → DenL K F' xs us → P (.lst xs) → Q (.ref p) (upd H1 p (.lst us))
structure KnownN (P : Program) (w : World) (K : PySem.W.Frag) (mg : Str → Option Value) (base : Heap) (k : Nat) (x : Str) (f : Fw) : Prop where
  ex : ∃ (fa : Addr) (fd : FuncData) (ps : List Str), FnOk P w K mg base CX0 k fa fd ps (spN K f) ∧ mg x = some (.ref fa) ∧ PySem.W.keepIn K (.ref fa) = true ∧ Binds K fd ps []
def cCallN (f : Fw) (ts : TDs) : TDs := fun env Q => ts env fun ds => f ds fun d => ∃ xs, d = .lst xs ∧ Q xs
section
variable {X : Cx} {e : Expr} {es : List Expr} {ts : TDs} {p pos : Pos} {x : Str} {k : Nat} {f : Fw}
theorem qf_callN (h : KnownN X.prog X.w X.K X.mg X.base k x f) (hr : Room k X.A) (ha : QA X (e :: es) ts) (hg : Gl X x := by rfl) (hdb : (x == ("__debug__" : Str)) = false := by decide)
    (he : starEach (e :: es) X.env = (false, eval e X.env) :: starEach es X.env := by exact star_of rfl) (hpl : (backTo pos (starEach es X.env)).any (·.1) = false := by rfl) : QF X (.Call (.Name x p) (e :: es) [] pos) (cCallN f ts) := by
  refine ⟨?_⟩
  intro B σ F H env Q rp hq
  obtain ⟨fa, fd, ps, G, hm, hk, hb⟩ := h.ex
  refine wE_of (pe_call G hr hg hm hk hb .nil pass0 pa_w hdb he hpl) ?_
  refine wA_mono (ha B σ F H env _ rp hq) fun vs H1 hq0 => ?_
  obtain ⟨F1, ds, r1, s1, d1, hf⟩ := hq0
  rw [List.append_nil]
  refine ⟨F1, ds, _, r1.fh, d1, hf, fun xs us p F' H2 a b c n hp hd ⟨ys, e1, q⟩ => ?_⟩
  cases e1
  exact ⟨F', H2, p, us, xs, rfl, hp, rfl, r1.ext a c b n, s1.trans a, hd, q⟩
end
end L2.L3
set_option Elab.async false
set_option linter.all false
set_option maxRecDepth 100000
set_option maxHeartbeats 4000000
set_option Elab.async false
set_option linter.all false
set_option maxRecDepth 100000
set_option maxHeartbeats 4000000
namespace L2.L3
open PySem PySem.Spec PyProof.Rows
def RSn (X : Cx) (B : Base) (Z : Ends3) : Ends where
  nx := RN X B Z.nx
  rt := fun v H' => ∃ F' H1 p us xs, v = .ref p ∧ H1 p = none ∧ H' = upd H1 p (.lst us) ∧ Rep X.K B F' H1 [] [] ∧ DenL X.K F' xs us ∧ Z.rt (.lst xs)
  bk := fun _ _ => False
  ct := fun _ _ => False
structure QNs (X : Cx) (st : List Stmt) (t : TS3) : Prop where
  of ::
  run : ∀ (B : Base) (σ : St) (F H : Hp) (env : En) (D : Ends3), Rep X.K B F H σ env → t D env → wSs X st (RSn X B D) σ H
def dRetOwn (i : Nat) : TS3 := fun Z env => ∃ xs, env[i]? = some (some (.own xs)) ∧ Z.rt (.lst xs)
def dSeqN (t u : TS3) : TS3 := fun Z env => t { nx := u Z, rt := fun _ => False } env
section
variable {X : Cx} {st : Stmt} {sts : List Stmt} {t u : TS3} {pos : Pos}
theorem qns_ret {x : Str} {px : Pos} (i : Nat) (hN : X.N[i]? = some x := by rfl) (hv : Vis X.env.scope x := by first | exact Or.inl rfl | exact Or.inr (Or.inl rfl) | exact Or.inr (Or.inr rfl)) (hd : (x == ("__debug__" : Str)) = false := by decide)
    (hcd : (x == ("__classdict__" : Str)) = false := by decide) : QNs X [.Return (some (.Name x px)) pos] (dRetOwn i) := by
  refine ⟨fun B σ F H env D rp ⟨xs, hx, q⟩ => ?_⟩
  obtain ⟨p, vs, h1, h2, h3, h4, h5⟩ := rp.ov i xs hx
  refine wSs_of (pss_one (ps_ret (pe_var hN hv hd hcd))) ⟨.ref p, h1, F, fun b => if b = p then none else H b, p, vs, xs, rfl, if_pos rfl, ?_, ?_, h5, q⟩
  · funext b
    by_cases z : b = p
    · subst z; rw [upd_same]; exact h2
    · rw [upd_ne z, if_neg z]
  · refine ⟨rp.f0, fun b o z => ?_, fun b o z => ?_, rp.nf, fun i x q => by simp at q, fun i x q => by simp at q, fun i j _ _ _ _ q => by simp at q, fun i x q => by simp at q, fun i j _ _ _ _ q => by simp at q⟩
    · have : b ≠ p := fun w => by subst w; rw [h3] at z; cases z
      rw [if_neg this]; exact rp.fh _ _ z
    · have : b ≠ p := fun w => by subst w; rw [h4] at z; cases z
      rw [if_neg this]; exact rp.h0 _ _ z
theorem qns_cons (h1 : QS X st t) (h2 : QNs X sts u) : QNs X (st :: sts) (dSeqN t u) := by
  refine ⟨fun B σ F H env D rp h => ?_⟩
  refine wSs_of (pss_cons ps_w pss_w) ?_
  exact wS_mono (h1 B σ F H env _ rp h) (fun σ' H' ⟨F', env', rp', q⟩ => h2.run B σ' F' H' env' D rp' q) (fun _ _ ⟨_, _, _, _, q⟩ => q.elim) (fun _ _ ⟨_, _, _, q⟩ => q.elim) (fun _ _ ⟨_, _, _, q⟩ => q.elim)
end
section
variable {P : Program} {w : World} {K : PySem.W.Frag} {mg : Str → Option Value} {base : Heap}
theorem Fun.knownR {x qual : Str} {st : Stmt} {fa : Addr} {fd : FuncData} {N ps : List Str} {k : Nat} {f : Fw} (F : Fun K x qual st fa fd) (S : FnScope N ps (defScope st)) (hmg : mg x = some (.ref fa)) (hb : Binds K fd ps [])
    (hl : ∀ ds Q, f ds Q → ds.length = ps.length)
    (hbody : ∀ (cdv : Value) (A : Around) (outer : List Env) (s : Shared) (H : Hp) (E : XK), Room k (A.deeper (envOfC qual (defScope st) s.heap.objs.size fa cdv)) →
      ∃ t : TS3, QNs (cxOf CX0 P w K mg base N qual (defScope st) fa cdv A outer s H E).nox (defBody st) t ∧ ∀ ds (Q : D → Prop), f ds Q → t { nx := fun _ => False, rt := Q } (start3 N ds)) :
    KnownN P w K mg base (k + 1) x f := by
  refine ⟨fa, fd, ps, F.ok S (fun vs H Q E h => ?_) (fun cdv A outer s H vs Q E hr h => ?_), hmg, F.kp, hb⟩
  · obtain ⟨F0, ds, P, _, hd, hf, _⟩ := h
    rw [← hd.length]; exact hl ds _ hf
  · obtain ⟨F0, ds, P, fh, hd, hf, kk⟩ := h
    obtain ⟨t, ht, hq⟩ := hbody cdv A outer s H E hr
    refine ⟨_, pss_w, ?_⟩
    refine wSs_mono (ht.run _ (start N vs) F0 H (start3 N ds) _ (start3_rep fh hd) (hq ds P hf)) (fun σ' H' ⟨F', env', r, q⟩ => q.elim) (fun v H' ⟨F', H1, p, us, xs, e1, hp, e2, r, dd, q⟩ => ?_) (fun _ _ q => q.elim) (fun _ _ q => q.elim)
    subst e1 e2
    exact kk xs us p F' H1 r.f0 r.h0 r.fh (fun p h1 h2 => r.nf p ⟨h1, h2⟩) hp dd q
theorem KnownN.known {x : Str} {k : Nat} {f : Fw} (h : KnownN P w K mg base k x f) : Known P w K mg base k x f := by
  obtain ⟨fa, fd, ps, G, hm, hk, hb⟩ := h.ex
  refine ⟨fa, fd, ps, G.imp fun vs H Q E ⟨F, ds, P, fh, hd, hf, kk⟩ => ⟨F, ds, P, fh, hd, hf, fun xs us p F' H1 a b c n hp dd q => ?_⟩, hm, hk, hb⟩
  have hF : F' p = none := c.free hp
  refine kk (.lst xs) (.ref p) (upd F' p (.lst us)) (upd H1 p (.lst us)) (a.trans (same_upd hF)) (b.trans (same_upd hp)) (same_upd2 c) (fun r h1 h2 => ?_) (den_lst (SqL.of upd_same) (DenL.mono (same_upd hF) _ _ dd)) q
  have : r ≠ p := fun z => by
    subst z
    cases e : H r with
    | none => exact h1 e
    | some o => rw [b _ _ e] at hp; cases hp
  rw [upd_ne this]; exact n r h1 h2
end
end L2.L3
set_option Elab.async false
set_option linter.all false
set_option maxRecDepth 100000
set_option maxHeartbeats 4000000
set_option Elab.async false
set_option linter.all false
set_option maxRecDepth 100000
set_option maxHeartbeats 4000000
set_option Elab.async false
set_option linter.all false
set_option maxRecDepth 100000
set_option maxHeartbeats 4000000
set_option Elab.async false
set_option linter.all false
set_option maxRecDepth 100000
set_option maxHeartbeats 4000000
set_option Elab.async false
set_option linter.all false
set_option maxRecDepth 100000
set_option maxHeartbeats 4000000
set_option Elab.async false
set_option linter.all false
set_option maxRecDepth 100000
set_option maxHeartbeats 4000000
set_option Elab.async false
set_option linter.all false
set_option maxRecDepth 100000
set_option maxHeartbeats 4000000
set_option Elab.async false
set_option linter.all false
set_option maxRecDepth 100000
set_option maxHeartbeats 4000000
set_option Elab.async false
set_option linter.all false
set_option maxRecDepth 100000
set_option maxHeartbeats 4000000
set_option Elab.async false
set_option linter.all false
set_option maxRecDepth 100000
set_option maxHeartbeats 4000000
namespace L2.L3
open PySem PySem.Spec PyProof.Rows
structure KnownD (P : Program) (w : World) (K : PySem.W.Frag) (mg : Str → Option Value) (base : Heap) (k : Nat) (x : Str) (f : Fw) (i : Int) : Prop where
  ex : ∃ (fa : Addr) (fd : FuncData) (ps : List Str) (t : Tok), FnOk P w K mg base CX0 k fa fd ps (spF K f) ∧ mg x = some (.ref fa) ∧ PySem.W.keepIn K (.ref fa) = true ∧ Binds K fd ps [.int i t]
structure FunD (K : PySem.W.Frag) (x qual : Str) (st : Stmt) (f : Addr) (fd : FuncData) : Prop where
  ex : ∃ (oc : Value) (od : Option Addr) (dV kV doc pm : Value) (an : Option Addr) (cdv ct : Value) (osl : Array (Option Value)),
    fd = PySem.W.fnOf x qual (defArgs st) (defBody st) (defScope st) dV kV doc pm an cdv ct ∧ K.lookup f = some ⟨oc, od, .func fd, osl⟩ ∧ PySem.W.codeIn K cdv qual = true
  kp : PySem.W.keepIn K (.ref f) = true
section
variable {P : Program} {w : World} {K : PySem.W.Frag} {mg : Str → Option Value} {base : Heap}
theorem funD_mk {x qual : Str} {st : Stmt} {f : Addr} {oc : Value} {od an : Option Addr} {osl : Array (Option Value)} {dV kV doc pm cdv ct : Value} (l : K.lookup f = some ⟨oc, od, .func (PySem.W.fnOf x qual (defArgs st) (defBody st) (defScope st) dV kV doc pm an cdv ct), osl⟩)
    (c : PySem.W.codeIn K cdv qual = true) (k : PySem.W.keepIn K (.ref f) = true) : FunD K x qual st f (PySem.W.fnOf x qual (defArgs st) (defBody st) (defScope st) dV kV doc pm an cdv ct) := ⟨⟨oc, od, dV, kV, doc, pm, an, cdv, ct, osl, rfl, l, c⟩, k⟩
theorem FunD.fnok {x qual : Str} {st : Stmt} {fa : Addr} {fd : FuncData} {N ps : List Str} {k : Nat} {f : Fw} (F : FunD K x qual st fa fd) (S : FnScope N ps (defScope st))
    (hl : ∀ ds Q, f ds Q → ds.length = ps.length)
    (hbody : ∀ (cdv : Value) (A : Around) (outer : List Env) (s : Shared) (H : Hp) (E : XK), Room k (A.deeper (envOfC qual (defScope st) s.heap.objs.size fa cdv)) →
      ∃ t, QSs (cxOf CX0 P w K mg base N qual (defScope st) fa cdv A outer s H E).nox (defBody st) t ∧ ∀ ds (Q : D → Prop), f ds Q → t { nx := fun _ => Q .non, rt := Q } (start3 N ds)) :
    FnOk P w K mg base CX0 (k + 1) fa fd ps (spF K f) := by
  obtain ⟨oc, od, dV, kV, doc, pm, an, cdv, ct, osl, rfl, lk, hcd⟩ := F.ex
  refine fn_of lk hcd S (fun vs H Q E h => ?_) fun A outer s H vs Q E hr h => ?_
  · obtain ⟨F0, ds, P, _, hd, hf, _⟩ := h
    rw [← hd.length]; exact hl ds _ hf
  · obtain ⟨F0, ds, P, fh, hd, hf, kk⟩ := h
    obtain ⟨t, ht, hq⟩ := hbody cdv A outer s H E hr
    refine ⟨_, PSs.nox pss_w, ?_⟩
    have core := ht _ (start N vs) F0 H (start3 N ds) _ (start3_rep fh hd) (hq ds P hf)
    refine wSs_mono core (fun σ' H' ⟨F', env', r, q⟩ => ?_) (fun v H' ⟨F', d', r, dd, q⟩ => ?_) (fun _ _ ⟨_, _, _, q⟩ => q) (fun _ _ ⟨_, _, _, q⟩ => q)
    · exact kk .non .non F' H' r.f0 r.h0 r.fh (fun p h1 h2 => r.nf p ⟨h1, h2⟩) den_non q
    · exact kk d' v F' H' r.f0 r.h0 r.fh (fun p h1 h2 => r.nf p ⟨h1, h2⟩) dd q
theorem FunD.known {x qual : Str} {st : Stmt} {fa : Addr} {fd : FuncData} {N ps : List Str} {k : Nat} {f : Fw} {i : Int} {t : Tok} (F : FunD K x qual st fa fd) (S : FnScope N ps (defScope st)) (hmg : mg x = some (.ref fa)) (hb : Binds K fd ps [.int i t])
    (hl : ∀ ds Q, f ds Q → ds.length = ps.length)
    (hbody : ∀ (cdv : Value) (A : Around) (outer : List Env) (s : Shared) (H : Hp) (E : XK), Room k (A.deeper (envOfC qual (defScope st) s.heap.objs.size fa cdv)) →
      ∃ t, QSs (cxOf CX0 P w K mg base N qual (defScope st) fa cdv A outer s H E).nox (defBody st) t ∧ ∀ ds (Q : D → Prop), f ds Q → t { nx := fun _ => Q .non, rt := Q } (start3 N ds)) :
    KnownD P w K mg base (k + 1) x f i := ⟨fa, fd, ps, t, FunD.fnok F S hl hbody, hmg, F.kp, hb⟩
end
end L2.L3
set_option Elab.async false
set_option linter.all false
set_option maxRecDepth 100000
set_option maxHeartbeats 4000000
set_option Elab.async false
set_option linter.all false
set_option maxRecDepth 100000
set_option maxHeartbeats 4000000
set_option Elab.async false
set_option linter.all false
set_option maxRecDepth 100000
set_option maxHeartbeats 4000000
set_option Elab.async false
set_option linter.all false
set_option maxRecDepth 100000
set_option maxHeartbeats 4000000
namespace L2.L3
open PySem PySem.Spec PyProof.Rows
abbrev Cells := List (Addr × HO)
def Base.gs (B : Base) : Cells → Base
  | [] => B
  | c :: r => (B.gs r).guard c.1 c.2
structure Shp (T : Type) where
  lay : T → Hp → Cells → Prop
  ad : List Addr
  nd : ad.Nodup
  at_ : ∀ S F cs, lay S F cs → cs.map (·.1) = ad
  mono : ∀ S F F' cs, Same F F' → lay S F cs → lay S F' cs
variable {T : Type}
def RepG (K : PySem.W.Frag) (B : Base) (h : Shp T) (S : T) (F H : Hp) (σ : St) (env : En) : Prop := ∃ cs, h.lay S F cs ∧ Rep K (B.gs cs) F H σ env
def FitG (B : Base) (h : Shp T) : Prop := ∀ p ∈ h.ad, B.H p = none
structure EndsG (T : Type) where
  nx : T → En → Prop
  rt : T → D → Prop
  bk : T → En → Prop := fun _ _ => False
  ct : T → En → Prop := fun _ _ => False
abbrev TSG (T : Type) := EndsG T → T → En → Prop
def RSG (X : Cx) (B : Base) (h : Shp T) (D : EndsG T) : Ends where
  nx := fun σ' H' => ∃ S' F' env', RepG X.K B h S' F' H' σ' env' ∧ D.nx S' env'
  rt := fun v H' => ∃ S' F' d, RepG X.K B h S' F' H' [] [] ∧ Den X.K F' d v ∧ D.rt S' d
  bk := fun σ' H' => ∃ S' F' env', RepG X.K B h S' F' H' σ' env' ∧ D.bk S' env'
  ct := fun σ' H' => ∃ S' F' env', RepG X.K B h S' F' H' σ' env' ∧ D.ct S' env'
structure QG1 (X : Cx) (h : Shp T) (st : Stmt) (t : TSG T) : Prop where
  of ::
  run : ∀ (B : Base) (σ : St) (F H : Hp) (env : En) (D : EndsG T) (S : T), FitG B h → RepG X.K B h S F H σ env → t D S env → wS X st (RSG X B h D) σ H
structure QGs1 (X : Cx) (h : Shp T) (st : List Stmt) (t : TSG T) : Prop where
  of ::
  run : ∀ (B : Base) (σ : St) (F H : Hp) (env : En) (D : EndsG T) (S : T), FitG B h → RepG X.K B h S F H σ env → t D S env → wSs X st (RSG X B h D) σ H
section
variable {X : Cx} {h : Shp T} {st : Stmt} {sts xs ys body : List Stmt} {t : TS3} {q q' : TSG T} {c : Expr} {tc : TB} {pos : Pos}
def EndsG.at (D : EndsG T) (S : T) : Ends3 := { nx := D.nx S, rt := D.rt S, bk := D.bk S, ct := D.ct S }
def gUp (t : TS3) : TSG T := fun D S env => t (D.at S) env
theorem RepG.lift {K : PySem.W.Frag} {B : Base} {S : T} {F F' H' : Hp} {σ' : St} {env' : En} {cs : Cells} (l : h.lay S F cs) (f0 : Same (B.gs cs).F F)
    (r : Rep K ⟨F, (B.gs cs).H, (B.gs cs).N, (B.gs cs).nb⟩ F' H' σ' env') : RepG K B h S F' H' σ' env' := ⟨cs, h.mono _ _ _ _ r.f0 l, Rep.back (B := B.gs cs) (G := F) f0 r⟩
theorem g_up (hq : QS X st t) : QG1 X h st (gUp t) := by
  refine ⟨fun B σ F H env D S _ ⟨cs, l, r⟩ q => ?_⟩
  refine wS_mono (hq _ σ F H env (D.at S) r.now q) ?_ ?_ ?_ ?_
  · rintro σ' H' ⟨F', env', r', q'⟩; exact ⟨S, F', env', RepG.lift l r.f0 r', q'⟩
  · rintro v H' ⟨F', d, r', hd, q'⟩; exact ⟨S, F', d, RepG.lift l r.f0 r', hd, q'⟩
  · rintro σ' H' ⟨F', env', r', q'⟩; exact ⟨S, F', env', RepG.lift l r.f0 r', q'⟩
  · rintro σ' H' ⟨F', env', r', q'⟩; exact ⟨S, F', env', RepG.lift l r.f0 r', q'⟩
theorem gs_up {t : TS3} (hq : QSs X sts t) : QGs1 X h sts (gUp t) := by
  refine ⟨fun B σ F H env D S _ ⟨cs, l, r⟩ q => ?_⟩
  refine wSs_mono (hq _ σ F H env (D.at S) r.now q) ?_ ?_ ?_ ?_
  · rintro σ' H' ⟨F', env', r', q'⟩; exact ⟨S, F', env', RepG.lift l r.f0 r', q'⟩
  · rintro v H' ⟨F', d, r', hd, q'⟩; exact ⟨S, F', d, RepG.lift l r.f0 r', hd, q'⟩
  · rintro σ' H' ⟨F', env', r', q'⟩; exact ⟨S, F', env', RepG.lift l r.f0 r', q'⟩
  · rintro σ' H' ⟨F', env', r', q'⟩; exact ⟨S, F', env', RepG.lift l r.f0 r', q'⟩
def gSeq (q q' : TSG T) : TSG T := fun D S env => q { D with nx := fun S' e' => q' D S' e' } S env
theorem gs_one (h1 : QG1 X h st q) : QGs1 X h [st] q := ⟨fun B σ F H env D S fit r hq => wSs_of (pss_one ps_w) (h1.run B σ F H env D S fit r hq)⟩
theorem gs_cons (h1 : QG1 X h st q) (h2 : QGs1 X h sts q') : QGs1 X h (st :: sts) (gSeq q q') := by
  refine ⟨fun B σ F H env D S fit r hq => wSs_of (pss_cons ps_w pss_w) ?_⟩
  exact wS_mono (h1.run B σ F H env { D with nx := fun S' e' => q' D S' e' } S fit r hq) (fun σ' H' ⟨S', F', env', r', q⟩ => h2.run B σ' F' H' env' D S' fit r' q) (fun _ _ q => q) (fun _ _ q => q) (fun _ _ q => q)
def gIf (c : TB) (q q' : TSG T) : TSG T := fun D S env => c env fun k => if k = true then q D S env else q' D S env
theorem g_if (hc : QT X c tc) (ha : QGs1 X h xs q) (hb : QGs1 X h ys q') : QG1 X h (.If c xs ys pos) (gIf tc q q') := by
  refine ⟨fun B σ F H env D S fit ⟨cs, l, r⟩ hq => wS_of (ps_if pt_w pss_w pss_w) ?_⟩
  refine wT_mono (hc _ σ F H env _ r.now hq) fun k H1 ⟨F1, r1, s1, q1⟩ => ?_
  cases k with
  | true => exact ha.run B σ F1 H1 env D S fit (RepG.lift l r.f0 r1) q1
  | false => exact hb.run B σ F1 H1 env D S fit (RepG.lift l r.f0 r1) q1
def gturns (g : TG3) (tb : TSG T) (Z : EndsG T) : List D → T → En → Prop
  | [], S, env => Z.nx S env
  | x :: xs, S, env => g x env fun env' => tb { Z with nx := fun S' e' => gturns g tb Z xs S' e', ct := fun S' e' => gturns g tb Z xs S' e', bk := Z.nx } S env'
variable {a : Expr} {ts : TDs} {tg : Expr} {g : TG3} {ti : TD}
theorem for_intsG (hg : QG X tg g) (hb : QGs1 X h body q) {B : Base} {D : EndsG T} {lo : Int} {n : Nat} {σ : St} {F1 H1 : Hp} {env : En} {S : T} (fit : FitG B h) (r1 : RepG X.K B h S F1 H1 σ env) (q1 : gturns g q D (intsD lo n) S env) :
    ∃ W : Nat → Nat → St → Hp → Prop, (∃ m, W 0 m σ H1) ∧ ∀ i m σ H, W i m σ H → ((Itr lo n).stop i H ∧ (RSG X B h D).nx σ H) ∨ ((Itr lo n).go i H ∧ ∃ N : St → Hp → Prop, (∀ σ' H', N σ' H' → ∃ m', m' < m ∧ W (i + 1) m' σ' H') ∧
        ∀ x H', (Itr lo n).yld i H x H' → wG X tg x σ H' fun σ2 H2 => wSs X body { RSG X B h D with nx := N, ct := N, bk := (RSG X B h D).nx } σ2 H2) := by
  have hl : (intsD lo n).length = n := by simp [intsD]
  refine ⟨fun i m σ H => m = n - i ∧ i ≤ n ∧ ∃ S F env, RepG X.K B h S F H σ env ∧ gturns g q D ((intsD lo n).drop i) S env, ⟨n, by simp, Nat.zero_le _, S, F1, env, r1, by simpa using q1⟩, ?_⟩
  rintro i m σ2 H2 ⟨rfl, hi2, S2, F2, env2, r2, q2⟩
  by_cases hlt : i < n
  · have hdx : (intsD lo n)[i]? = some (L3.D.int (lo + (i : Int))) := by simp [intsD, hlt]
    rw [drop_cons hdx] at q2
    refine .inr ⟨hlt, fun σ' H' => ∃ S F env, RepG X.K B h S F H' σ' env ∧ gturns g q D ((intsD lo n).drop (i + 1)) S env, fun σ' H' ⟨S', F', env', r', q'⟩ => ⟨n - (i + 1), by omega, rfl, by omega, S', F', env', r', q'⟩, fun y H' hy => ?_⟩
    obtain ⟨rfl, rfl⟩ := hy
    obtain ⟨cs, l, r⟩ := r2
    refine wG_mono (hg _ σ2 F2 _ env2 _ _ _ r.now den_int q2) fun σ3 H3 hq0 => ?_
    obtain ⟨F3, env3, r3, s3, q3⟩ := hq0
    have rl : RepG X.K B h S2 F3 H3 σ3 env3 := RepG.lift l r.f0 r3
    exact wSs_mono (hb.run B σ3 F3 H3 env3 { D with nx := fun S' e' => gturns g q D ((intsD lo n).drop (i + 1)) S' e', ct := fun S' e' => gturns g q D ((intsD lo n).drop (i + 1)) S' e', bk := D.nx } S2 fit rl q3) (fun _ _ q => q) (fun _ _ q => q) (fun _ _ q => q) (fun _ _ q => q)
  · have e : i = n := by omega
    subst e
    rw [List.drop_eq_nil_of_le (by omega)] at q2
    exact .inl ⟨Nat.le_refl _, S2, F2, env2, r2, q2⟩
theorem gturns_of {tb : TSG T} {Z : EndsG T} {xs : List L3.D} (I : Nat → T → En → Prop)
    (step : ∀ (i : Nat) (x : L3.D) (S : T) (env : En) (N : T → En → Prop), xs[i]? = some x → I i S env → (∀ S' e, I (i + 1) S' e → N S' e) → g x env fun e => tb { Z with nx := N, ct := N, bk := Z.nx } S e)
    (done : ∀ S env, I xs.length S env → Z.nx S env) {S : T} {env : En} (h0 : I 0 S env) : gturns g tb Z xs S env := by
  have go : ∀ (n k : Nat) (S : T) (env : En), k + n = xs.length → I k S env → gturns g tb Z (xs.drop k) S env := by
    intro n
    induction n with
    | zero =>
      intro k S env hk h
      rw [List.drop_eq_nil_of_le (by omega)]
      exact done S env (by rw [← hk]; exact h)
    | succ n ih =>
      intro k S env hk h
      have hx : xs[k]? = some (xs[k]'(by omega)) := by simp
      rw [drop_cons hx]
      exact step k _ S env _ hx h fun S' e he => ih (k + 1) S' e (by omega) he
  have := go xs.length 0 S env (by omega) h0
  simpa using this
theorem gs_at {B : Base} : ∀ {cs : Cells} {p : Addr} {o : HO}, (cs.map (·.1)).Nodup → (p, o) ∈ cs → (B.gs cs).H p = some o
  | c :: r, p, o, nd, hm => by
    obtain ⟨n1, n2⟩ := List.nodup_cons.mp nd
    show upd (B.gs r).H c.1 c.2 p = some o
    rcases List.mem_cons.mp hm with e | e
    · subst e; exact upd_same
    · rw [upd_ne (fun z => n1 (by show c.1 ∈ _; rw [← z]; exact List.mem_map.mpr ⟨_, e, rfl⟩))]
      exact gs_at n2 e
theorem Rep.cell {K : PySem.W.Frag} {B : Base} {cs : Cells} {F H : Hp} {σ : St} {env : En} (r : Rep K (B.gs cs) F H σ env) (nd : (cs.map (·.1)).Nodup) {p : Addr} {o : HO} (hm : (p, o) ∈ cs) : H p = some o := r.h0 p o (gs_at nd hm)
end
end L2.L3
set_option Elab.async false
set_option linter.all false
set_option maxRecDepth 100000
set_option maxHeartbeats 4000000
namespace L2.L3
open PySem PySem.Spec PyProof.Rows
theorem Rep.regd {K : PySem.W.Frag} {B1 B2 : Base} {F H : Hp} {σ : St} {env : En} {a : Addr} {o o' : HO} (r : Rep K B1 F H σ env) (ha : B1.H a = some o) (hn : B1.N a) (hF : Same B2.F F) (hH : ∀ z, B2.H z = upd B1.H a o' z) (hN : ∀ z, B2.N z → B1.N z) : Rep K B2 F (upd H a o') σ env where
  f0 := hF
  fh := fun z u q => by
    have : z ≠ a := fun e => by subst e; rw [r.nf z hn] at q; cases q
    rw [upd_ne this]; exact r.fh _ _ q
  h0 := fun z u q => by
    rw [hH] at q
    by_cases e : z = a
    · subst e; rw [upd_same] at q ⊢; exact q
    · rw [upd_ne e] at q ⊢; exact r.h0 _ _ q
  nf := fun z h => r.nf z (hN z h)
  dv := r.dv
  ov := fun i xs h => by
    obtain ⟨q, vs, h1, h2, h3, h4, h5⟩ := r.ov i xs h
    have ne : q ≠ a := fun e => by subst e; rw [ha] at h4; cases h4
    exact ⟨q, vs, h1, by rw [upd_ne ne]; exact h2, h3, by rw [hH, upd_ne ne]; exact h4, h5⟩
  ne := r.ne
  mv := fun i xs h => by
    obtain ⟨q, ep, us, vs, h1, h2, h3, h4, h5⟩ := r.mv i xs h
    have ne : q ≠ a := fun e => by subst e; rw [ha] at h4; cases h4
    exact ⟨q, ep, us, vs, h1, by rw [upd_ne ne]; exact h2, h3, by rw [hH, upd_ne ne]; exact h4, h5⟩
  nm := r.nm
structure P3 where
  z : Addr
  a : Addr
  b : Addr
  za : z ≠ a
  zb : z ≠ b
  ab : a ≠ b
abbrev Two := List D × List D
def Two.push (S : Two) (n : Int) (d : D) : Two := if n = 0 then (S.1 ++ [d], S.2) else (S.1, S.2 ++ [d])
section
variable {K : PySem.W.Frag} {p : P3}
def m2 (i : Nat) (z : Addr) : Two → En → En → Prop := fun S env env' => env[i]? = some (some (.d (.obj (AtN z)))) ∧ env' = env.set i (some (.d (.lst [.lst S.1, .lst S.2])))
theorem set_same {σ : St} {i : Nat} {v : V} (h : σ[i]? = some (some v)) : σ.set i (some v) = σ := by
  obtain ⟨hl, e⟩ := List.getElem?_eq_some_iff.mp h
  rw [← e]; exact List.set_getElem_self hl
end
end L2.L3
set_option Elab.async false
set_option linter.all false
set_option maxRecDepth 100000
set_option maxHeartbeats 4000000
set_option Elab.async false
set_option linter.all false
set_option maxRecDepth 100000
set_option maxHeartbeats 4000000
set_option Elab.async false
set_option linter.all false
set_option maxRecDepth 100000
set_option maxHeartbeats 4000000
set_option Elab.async false
set_option linter.all false
set_option maxRecDepth 100000
set_option maxHeartbeats 4000000
set_option Elab.async false
set_option linter.all false
set_option maxRecDepth 100000
set_option maxHeartbeats 4000000
set_option Elab.async false
set_option linter.all false
set_option maxRecDepth 100000
set_option maxHeartbeats 4000000
namespace L2.L3
open PySem PySem.Spec PyProof.Rows
structure RoomH (k : Nat) (A : Around) : Prop where
  dp : A.depth + 3 * k + 5 < recursionLimit
  un : A.units + 16 * k + 200 < cLine
theorem RoomH.mono {j k : Nat} {A : Around} (r : RoomH k A) (h : j ≤ k) : RoomH j A := ⟨by have := r.dp; omega, by have := r.un; omega⟩
theorem RoomH.deeper {k : Nat} {A : Around} (r : RoomH (k + 1) A) (env : Env) : RoomH k (A.deeper env) :=
  ⟨by have := r.dp; show A.depth + 1 + 3 * k + 5 < _; omega, by have := r.un; show A.units + 3 + 16 * k + 200 < _; omega⟩
theorem RoomH.depth {k : Nat} {A : Around} (r : RoomH k A) : A.depth < recursionLimit := by have := r.dp; omega
theorem RoomH.units {k : Nat} {A : Around} (r : RoomH k A) : A.units + 64 < cLine := by have := r.un; omega
theorem _root_.L2.Room.hand {k : Nat} {A : Around} (r : Room k A) (v : Option Value) : RoomH k (A.mark v) := ⟨r.dp, r.un⟩
end L2.L3
set_option Elab.async false
set_option linter.all false
set_option maxRecDepth 100000
set_option maxHeartbeats 4000000
namespace L2.L3
open PySem PySem.Spec PyProof.Rows
theorem fnS {N P : List Str} {sc : Scope} (a : sc.kind = .function := by rfl) (b : sc.isCoroutine = false := by rfl) (c : sc.isGenerator = false := by rfl) (d : N.Nodup := by decide +kernel) (e : N.take P.length = P := by rfl) (f : ∀ x ∈ P, sc.names.lookup x = some .local ∨ sc.names.lookup x = some .cell := by decide +kernel) (g : ∀ y ∈ sc.names, y.2 ≠ .free := by decide +kernel) : FnScope N P sc := ⟨a, b, c, d, e, f, g⟩
theorem _root_.L2.Room.md {j k : Nat} {A : Around} (r : Room k A) (h : j ≤ k := by decide) : Room j A := r.mono h
structure DefIn (K : PySem.W.Frag) (x : Str) (st : Stmt) : Prop where
  ex : ∃ (f : Addr) (oc : Value) (od an : Option Addr) (sl : Array (Option Value)) (kV dc pm cd ct : Value), PySem.W.nsIn K mainGlobals x = some (some (.ref f)) ∧
    K.lookup f = some ⟨oc, od, .func (PySem.W.fnOf x x (defArgs st) (defBody st) (defScope st) .none kV dc pm an cd ct), sl⟩ ∧ PySem.W.codeIn K cd x = true ∧ PySem.W.keepIn K (.ref f) = true
structure DefInD (K : PySem.W.Frag) (x : Str) (st : Stmt) (i : Int) : Prop where
  ex : ∃ (f : Addr) (oc : Value) (od an : Option Addr) (sl : Array (Option Value)) (ta : Addr) (kV dc pm cd ct : Value) (tn : Nat) (ts : Array (Option Value)) (tt : Tok), PySem.W.nsIn K mainGlobals x = some (some (.ref f)) ∧
    K.lookup f = some ⟨oc, od, .func (PySem.W.fnOf x x (defArgs st) (defBody st) (defScope st) (.ref ta) kV dc pm an cd ct), sl⟩ ∧ PySem.W.codeIn K cd x = true ∧ PySem.W.keepIn K (.ref f) = true ∧
    K.lookup ta = some ⟨.type "tuple", none, .seq #[.int i tt] tn, ts⟩
section
variable {K : PySem.W.Frag} {h : Heap} {mg : Str → Option Value} {x : Str} {st : Stmt} {i : Int}
theorem DefIn.get {ps : List Str} (D : DefIn K x st) (X : K.In h) (G : h.Ns mainGlobals mg)
    (hb : ∀ (kV doc pm : Value) (an : Option Addr) (cdv ct : Value) (us : List Value), us.length = ps.length → bindArgs (PySem.W.fnOf x x (defArgs st) (defBody st) (defScope st) .none kV doc pm an cdv ct) ⟨us, []⟩ = pure (ps.zip us)) :
    ∃ fa fd, Fun K x x st fa fd ∧ mg x = some (.ref fa) ∧ Binds K fd ps [] := by
  obtain ⟨f, oc, od, an, sl, kV, dc, pm, cd, ct, a, l, c, k⟩ := D.ex
  have F := fun_mk l c k
  exact ⟨f, _, F, PySem.W.mg_of X G a, F.binds hb⟩
theorem DefInD.get {ps : List Str} (D : DefInD K x st i) (X : K.In h) (G : h.Ns mainGlobals mg)
    (hb : ∀ (ta : Addr) (tn : Nat) (ts : Array (Option Value)) (tt : Tok) (kV doc pm : Value) (an : Option Addr) (cdv ct : Value), K.lookup ta = some ⟨.type "tuple", none, .seq #[.int i tt] tn, ts⟩ → Binds K (PySem.W.fnOf x x (defArgs st) (defBody st) (defScope st) (.ref ta) kV doc pm an cdv ct) ps [.int i tt]) :
    ∃ fa fd tt, FunD K x x st fa fd ∧ mg x = some (.ref fa) ∧ Binds K fd ps [.int i tt] := by
  obtain ⟨f, oc, od, an, sl, ta, kV, dc, pm, cd, ct, tn, ts, tt, a, l, c, k, dl⟩ := D.ex
  exact ⟨f, _, tt, funD_mk l c k, PySem.W.mg_of X G a, hb ta tn ts tt _ _ _ _ _ _ dl⟩
theorem DefIn.law {fa : Addr} {p : Str} (D : DefIn K x st) (X : K.In h) (G : h.Ns mainGlobals mg) (hfa : mg x = some (.ref fa))
    (hb : ∀ (kV doc pm : Value) (an : Option Addr) (cdv ct : Value) (v : Value), bindArgs (PySem.W.fnOf x x (defArgs st) (defBody st) (defScope st) .none kV doc pm an cdv ct) ⟨[v], []⟩ = pure [(p, v)]) :
    ∃ fd, Fun K x x st fa fd ∧ ∀ (s : Shared) (v : Value), BindsTo s fd ⟨[v], []⟩ [(p, v)] := by
  obtain ⟨f, oc, od, an, sl, kV, dc, pm, cd, ct, a, l, c, k⟩ := D.ex
  have e := hfa.symm.trans (PySem.W.mg_of X G a)
  cases e
  exact ⟨_, fun_mk l c k, fun s v => .of_eq (hb kV dc pm an cd ct v)⟩
end
theorem bn0 {P : List Value → Prop} (h : P []) (us : List Value) (hu : us.length = 0) : P us := by
  cases us with
  | nil => exact h
  | cons a l => simp at hu
theorem bn1 {P : List Value → Prop} (h : ∀ a, P [a]) (us : List Value) (hu : us.length = 1) : P us := by
  cases us with
  | nil => simp at hu
  | cons a l => exact bn0 (P := fun l => P (a :: l)) (h a) l (by simpa using hu)
theorem bn2 {P : List Value → Prop} (h : ∀ a b, P [a, b]) (us : List Value) (hu : us.length = 2) : P us := by
  cases us with
  | nil => simp at hu
  | cons a l => exact bn1 (P := fun l => P (a :: l)) (h a) l (by simpa using hu)
theorem bn3 {P : List Value → Prop} (h : ∀ a b c, P [a, b, c]) (us : List Value) (hu : us.length = 3) : P us := by
  cases us with
  | nil => simp at hu
  | cons a l => exact bn2 (P := fun l => P (a :: l)) (h a) l (by simpa using hu)
structure Df (K : PySem.W.Frag) (mg : Str → Option Value) (x : Str) (st : Stmt) (ps : List Str) : Prop where
  ex : ∃ fa fd, Fun K x x st fa fd ∧ mg x = some (.ref fa) ∧ Binds K fd ps []
structure DfD (K : PySem.W.Frag) (mg : Str → Option Value) (x : Str) (st : Stmt) (ps : List Str) (i : Int) : Prop where
  ex : ∃ fa fd tt, FunD K x x st fa fd ∧ mg x = some (.ref fa) ∧ Binds K fd ps [.int i tt]
section
variable {P : Program} {w : World} {K : PySem.W.Frag} {mg : Str → Option Value} {base : Heap} {x : Str} {st : Stmt} {N ps : List Str} {k : Nat} {f : Fw} {fx : FwX} {i : Int}
theorem Df.known (F : Df K mg x st ps) (S : FnScope N ps (defScope st)) (hl : ∀ ds Q, f ds Q → ds.length = ps.length)
    (hbody : ∀ (fa : Addr) (cdv : Value) (A : Around) (outer : List Env) (s : Shared) (H : Hp) (E : XK), Room k (A.deeper (envOfC x (defScope st) s.heap.objs.size fa cdv)) →
      ∃ t, QSs (cxOf CX0 P w K mg base N x (defScope st) fa cdv A outer s H E).nox (defBody st) t ∧ ∀ ds (Q : D → Prop), f ds Q → t { nx := fun _ => Q .non, rt := Q } (start3 N ds)) : Known P w K mg base (k + 1) x f :=
  let ⟨fa, _, F, m, b⟩ := F.ex; Fun.known F S m b hl (hbody fa)
theorem DfD.known (F : DfD K mg x st ps i) (S : FnScope N ps (defScope st)) (hl : ∀ ds Q, f ds Q → ds.length = ps.length)
    (hbody : ∀ (fa : Addr) (cdv : Value) (A : Around) (outer : List Env) (s : Shared) (H : Hp) (E : XK), Room k (A.deeper (envOfC x (defScope st) s.heap.objs.size fa cdv)) →
      ∃ t, QSs (cxOf CX0 P w K mg base N x (defScope st) fa cdv A outer s H E).nox (defBody st) t ∧ ∀ ds (Q : D → Prop), f ds Q → t { nx := fun _ => Q .non, rt := Q } (start3 N ds)) : KnownD P w K mg base (k + 1) x f i :=
  let ⟨fa, _, _, F, m, b⟩ := F.ex; FunD.known F S m b hl (hbody fa)
theorem Df.knownR (F : Df K mg x st ps) (S : FnScope N ps (defScope st)) (hl : ∀ ds Q, f ds Q → ds.length = ps.length)
    (hbody : ∀ (fa : Addr) (cdv : Value) (A : Around) (outer : List Env) (s : Shared) (H : Hp) (E : XK), Room k (A.deeper (envOfC x (defScope st) s.heap.objs.size fa cdv)) →
      ∃ t : TS3, QNs (cxOf CX0 P w K mg base N x (defScope st) fa cdv A outer s H E).nox (defBody st) t ∧ ∀ ds (Q : D → Prop), f ds Q → t { nx := fun _ => False, rt := Q } (start3 N ds)) : KnownN P w K mg base (k + 1) x f :=
  let ⟨fa, _, F, m, b⟩ := F.ex; Fun.knownR F S m b hl (hbody fa)
end
end L2.L3
set_option Elab.async false
set_option linter.all false
set_option maxRecDepth 100000
set_option maxHeartbeats 4000000
set_option Elab.async false
set_option linter.all false
set_option maxRecDepth 100000
set_option maxHeartbeats 4000000
set_option Elab.async false
set_option linter.all false
set_option maxRecDepth 100000
set_option maxHeartbeats 4000000
namespace L2.L3
open PySem PySem.Spec PyProof.Rows
section
variable {X : Cx} {a b e o : Expr} {ta tb to : TD} {pos : Pos}
theorem qe_mod {ta tb : TDe} (ha : QEe X a ta) (hb : QEe X b tb) : QEe X (.BinOp a .Mod b pos) (eOp modD ta tb) := ⟨fun B σ F H env Q rp h => wE_of (pe_op (r := rI ModOk fun i j => .int (i.fmod j)) op_modN pe_w pe_w) (twoE o3_ii ha hb rp h)⟩
end
end L2.L3
set_option Elab.async false
set_option linter.all false
set_option maxRecDepth 100000
set_option maxHeartbeats 4000000
set_option Elab.async false
set_option linter.all false
set_option maxRecDepth 100000
set_option maxHeartbeats 4000000
set_option Elab.async false
set_option linter.all false
set_option maxRecDepth 100000
set_option maxHeartbeats 4000000
namespace L2.L3
open PySem PySem.Spec PyProof.Rows
section
variable {K : PySem.W.Frag} {B : Base} {F H F' H' : Hp} {σ : St} {env : En} {cs cs' : Cells}
theorem gs_F : ∀ cs : Cells, (B.gs cs).F = B.F
  | [] => rfl
  | _ :: r => gs_F r
theorem gs_N : ∀ (cs : Cells) (z : Addr), (B.gs cs).N z ↔ z ∈ cs.map (·.1) ∨ B.N z
  | [], z => by simp [Base.gs]
  | c :: r, z => by
    show (z = c.1 ∨ (B.gs r).N z) ↔ _
    rw [gs_N r z, List.map_cons, List.mem_cons, or_assoc]
theorem gs_off : ∀ (cs : Cells) (z : Addr), z ∉ cs.map (·.1) → (B.gs cs).H z = B.H z
  | [], _, _ => rfl
  | c :: r, z, h => by
    rw [List.map_cons, List.mem_cons, not_or] at h
    show upd (B.gs r).H c.1 c.2 z = _
    rw [upd_ne h.1]; exact gs_off r z h.2
theorem gs_some {z : Addr} (h : z ∈ cs.map (·.1)) : ∃ o, (z, o) ∈ cs := by
  obtain ⟨c, hc, e⟩ := List.mem_map.mp h
  exact ⟨c.2, by rw [← e]; exact hc⟩
def putC (a : Addr) (o : HO) (cs : Cells) : Cells := cs.map fun c => if c.1 = a then (a, o) else c
theorem putC_ad {a : Addr} {o : HO} (cs : Cells) : (putC a o cs).map (·.1) = cs.map (·.1) := by
  unfold putC
  rw [List.map_map]
  refine List.map_congr_left fun c _ => ?_
  show (if c.1 = a then (a, o) else c).1 = c.1
  split
  · rename_i e; exact e.symm
  · rfl
theorem putC_off {a : Addr} {o : HO} : ∀ cs : Cells, a ∉ cs.map (·.1) → putC a o cs = cs
  | [], _ => rfl
  | c :: r, h => by
    rw [List.map_cons, List.mem_cons, not_or] at h
    show (if c.1 = a then (a, o) else c) :: putC a o r = _
    rw [if_neg (fun e => h.1 e.symm), putC_off r h.2]
theorem gs_putH {a : Addr} {o : HO} : ∀ (cs : Cells), (cs.map (·.1)).Nodup → a ∈ cs.map (·.1) → ∀ z, (B.gs (putC a o cs)).H z = upd (B.gs cs).H a o z
  | c :: r, nd, h, z => by
    obtain ⟨n1, n2⟩ := List.nodup_cons.mp nd
    show (B.gs ((if c.1 = a then (a, o) else c) :: putC a o r)).H z = upd (upd (B.gs r).H c.1 c.2) a o z
    by_cases e : c.1 = a
    · subst e
      rw [if_pos rfl, putC_off r n1]
      show upd (B.gs r).H c.1 o z = _
      by_cases w : z = c.1
      · subst w; rw [upd_same, upd_same]
      · rw [upd_ne w, upd_ne w, upd_ne w]
    · rw [if_neg e]
      have hr : a ∈ r.map (·.1) := by
        rcases List.mem_cons.mp h with w | w
        · exact absurd w.symm e
        · exact w
      show upd (B.gs (putC a o r)).H c.1 c.2 z = _
      by_cases w : z = c.1
      · subst w; rw [upd_same, upd_ne e, upd_same]
      · rw [upd_ne w, gs_putH r n2 hr z]
        by_cases v : z = a
        · subst v; rw [upd_same, upd_same]
        · rw [upd_ne v, upd_ne v, upd_ne w]
theorem Rep.putC (r : Rep K (B.gs cs) F H σ env) (nd : (cs.map (·.1)).Nodup) {a : Addr} (o : HO) (ha : a ∈ cs.map (·.1)) : Rep K (B.gs (putC a o cs)) F (upd H a o) σ env := by
  obtain ⟨o', hm⟩ := gs_some ha
  refine r.regd (gs_at nd hm) ((gs_N cs a).mpr (.inl ha)) ?_ (gs_putH cs nd ha) fun z h => ?_
  · rw [gs_F]; have := r.f0; rw [gs_F] at this; exact this
  · rw [gs_N, putC_ad] at h; rw [gs_N]; exact h
end
structure P4 where
  x : Addr
  dx : Addr
  a : Addr
  b : Addr
  nd : [x, dx, a, b].Nodup
structure S2 where
  st : List (D × D)
  cr : List (D × D)
def S2.get (S : S2) : Bool → List (D × D)
  | false => S.st
  | true => S.cr
def P4.at (p : P4) : Bool → Addr
  | false => p.a
  | true => p.b
end L2.L3
set_option Elab.async false
set_option linter.all false
set_option maxRecDepth 100000
set_option maxHeartbeats 4000000
namespace L2.L3
open PySem PySem.Spec PyProof.Rows
section
variable {X : Cx} {C : Addr} {f g x : Str} {p : P4} {a b e : Expr} {es : List Expr} {ta tb te : TD} {ts : TDs} {pos px pa p2 pl : Pos} {xs ys : List Stmt} {q q' : TSG S2}
theorem nowG {K : PySem.W.Frag} {B : Base} {F F1 H1 : Hp} {σ1 : St} {env1 : En} {cs : Cells} (f0 : Same (B.gs cs).F F)
    (r : Rep K ⟨F, (B.gs cs).H, (B.gs cs).N, (B.gs cs).nb⟩ F1 H1 σ1 env1) : Rep K (B.gs cs) F1 H1 σ1 env1 := Rep.back (B := B.gs cs) (G := F) f0 r
end
abbrev FwW := List D → S2 → (S2 → D → Prop) → Prop
end L2.L3
set_option Elab.async false
set_option linter.all false
set_option maxRecDepth 100000
set_option maxHeartbeats 4000000
set_option Elab.async false
set_option linter.all false
set_option maxRecDepth 100000
set_option maxHeartbeats 4000000
namespace L2.L3
open PySem PySem.Spec PyProof.Rows
section
variable {K : PySem.W.Frag} {B B2 : Base} {F H : Hp} {σ : St} {env : En} {cs cs' : Cells}
def addC (H : Hp) : Cells → Hp
  | [] => H
  | c :: r => upd (addC H r) c.1 c.2
theorem addC_off : ∀ (cs : Cells) (z : Addr), z ∉ cs.map (·.1) → addC H cs z = H z
  | [], _, _ => rfl
  | c :: r, z, h => by
    rw [List.map_cons, List.mem_cons, not_or] at h
    show upd (addC H r) c.1 c.2 z = _
    rw [upd_ne h.1]; exact addC_off r z h.2
theorem Rep.guards (r : Rep K B F H σ env) : ∀ cs : Cells, (cs.map (·.1)).Nodup → (∀ c ∈ cs, H c.1 = none) → Rep K (B.gs cs) F (addC H cs) σ env
  | [], _, _ => r
  | c :: t, nd, h => by
    obtain ⟨n1, n2⟩ := List.nodup_cons.mp nd
    have := Rep.guards r t n2 fun d hd => h d (List.mem_cons_of_mem _ hd)
    exact this.guarded (p := c.1) (o := c.2) (by rw [addC_off t c.1 n1]; exact h c List.mem_cons_self)
end
abbrev FwI := List D → (S2 → Prop) → Prop
end L2.L3
set_option Elab.async false
set_option linter.all false
set_option maxRecDepth 100000
set_option maxHeartbeats 4000000
namespace L2.L3
open PySem PySem.Spec PyProof.Rows
section
variable {X : Cx} {c a b : Expr} {tA : TB} {ta tb : TDs} {pos : Pos}
theorem RF.weaken {B : Base} {σ : St} {env : En} {F F1 : Hp} {Q : List D → Prop} {v : V} {H : Hp} (s : Same F F1) (h : RF X B σ env F1 Q v H) : RF X B σ env F Q v H := by
  obtain ⟨F', H1, p, vs, ds, e, hp, e2, r, s', hd, q⟩ := h
  exact ⟨F', H1, p, vs, ds, e, hp, e2, r, s.trans s', hd, q⟩
end
end L2.L3
set_option Elab.async false
set_option linter.all false
set_option maxRecDepth 100000
set_option maxHeartbeats 4000000
namespace L2.L3
open PySem PySem.Spec PyProof.Rows
structure MethIn (K : PySem.W.Frag) (C : Addr) (m q : Str) (st : Stmt) : Prop where
  ex : ∃ (f : Addr) (oc : Value) (od an : Option Addr) (sl : Array (Option Value)) (kV dc pm cd ct : Value), PySem.W.findIn K (.ref C) m = some (some (.ref f)) ∧
    K.lookup f = some ⟨oc, od, .func (PySem.W.fnOf m q (defArgs st) (defBody st) (defScope st) .none kV dc pm an cd ct), sl⟩ ∧ PySem.W.codeIn K cd q = true ∧ PySem.W.keepIn K (.ref f) = true ∧ PySem.W.isFn K (.ref f) = true
theorem MethIn.get {K : PySem.W.Frag} {C : Addr} {m q : Str} {st : Stmt} {ps : List Str} (D : MethIn K C m q st)
    (hb : ∀ (kV doc pm : Value) (an : Option Addr) (cdv ct : Value) (us : List Value), us.length = ps.length → bindArgs (PySem.W.fnOf m q (defArgs st) (defBody st) (defScope st) .none kV doc pm an cdv ct) ⟨us, []⟩ = pure (ps.zip us)) :
    ∃ fa fd, Fun K m q st fa fd ∧ Meth K C m fa ∧ Binds K fd ps [] := by
  obtain ⟨f, oc, od, an, sl, kV, dc, pm, cd, ct, a, l, c, k, i⟩ := D.ex
  have F := fun_mk l c k
  exact ⟨f, _, F, ⟨a, i, k⟩, F.binds hb⟩
end L2.L3
set_option Elab.async false
set_option linter.all false
set_option maxRecDepth 100000
set_option maxHeartbeats 4000000
namespace L2.L3
open PySem PySem.Spec PyProof.Rows
abbrev TDG (T : Type) := T → En → (T → D → Prop) → Prop
abbrev TDsG (T : Type) := T → En → (T → List D → Prop) → Prop
abbrev TBG (T : Type) := T → En → (T → Bool → Prop) → Prop
variable {T : Type}
inductive RVG (K : PySem.W.Frag) (B : Base) (h : Shp T) (σ : St) (env : En) (F : Hp) (Q : T → D → Prop) (v : V) (H' : Hp) : Prop
  | mk (S' : T) (F' : Hp) (d : D) (r : RepG K B h S' F' H' σ env) (z : Same F F') (e : Den K F' d v) (q : Q S' d)
inductive RAG (K : PySem.W.Frag) (B : Base) (h : Shp T) (σ : St) (env : En) (F : Hp) (Q : T → List D → Prop) (vs : List V) (H' : Hp) : Prop
  | mk (S' : T) (F' : Hp) (ds : List D) (r : RepG K B h S' F' H' σ env) (z : Same F F') (e : DenL K F' ds vs) (q : Q S' ds)
structure QEG (X : Cx) (h : Shp T) (e : Expr) (t : TDG T) : Prop where
  of ::
  run : ∀ (B : Base) (σ : St) (F H : Hp) (env : En) (Q : T → D → Prop) (S : T), FitG B h → RepG X.K B h S F H σ env → t S env Q → wE X e σ H (RVG X.K B h σ env F Q)
structure QAG (X : Cx) (h : Shp T) (es : List Expr) (t : TDsG T) : Prop where
  of ::
  run : ∀ (B : Base) (σ : St) (F H : Hp) (env : En) (Q : T → List D → Prop) (S : T), FitG B h → RepG X.K B h S F H σ env → t S env Q → wA X es σ H (RAG X.K B h σ env F Q)
section
variable {X : Cx} {h : Shp T} {a b c e : Expr} {es : List Expr} {ta tb : TDG T} {ts : TDsG T} {tc : TBG T} {td : TD} {tB : TB} {pos : Pos} {xs ys body sts : List Stmt} {q q' : TSG T}
def eUp (t : TD) : TDG T := fun S env Q => t env (Q S)
theorem eg_up (hq : QE X e td) : QEG X h e (eUp td) := by
  refine ⟨fun B σ F H env Q S fit ⟨cs, l, r⟩ q => ?_⟩
  refine wE_mono (hq _ σ F H env _ r.now q) fun v H' ⟨F', d, r', s', dd, q'⟩ => ⟨S, F', d, RepG.lift l r.f0 r', s', dd, q'⟩
def aNilG : TDsG T := fun S env Q => Q S []
def aConsG (ta : TDG T) (ts : TDsG T) : TDsG T := fun S env Q => ta S env fun S1 d => ts S1 env fun S2 ds => Q S2 (d :: ds)
theorem ag_nil : QAG X h [] aNilG := ⟨fun B σ F H env Q S fit r q => wA_of pa_nil ⟨S, F, [], r, Same.refl _, denL_nil, q⟩⟩
theorem ag_cons (ha : QEG X h a ta) (hs : QAG X h es ts) (he : starEach (a :: es) X.env = (false, eval a X.env) :: starEach es X.env := by exact star_of rfl) : QAG X h (a :: es) (aConsG ta ts) := by
  refine ⟨fun B σ F H env Q S fit r q => wA_of (pa_cons pe_w pa_w he) ?_⟩
  refine wE_mono (ha.run B σ F H env _ S fit r q) fun v H1 ⟨S1, F1, d, r1, s1, d1, q1⟩ => ?_
  exact wA_mono (hs.run B σ F1 H1 env _ S1 fit r1 q1) fun vs H2 ⟨S2, F2, ds, r2, s2, d2, q2⟩ => ⟨S2, F2, d :: ds, r2, s1.trans s2, denL_cons (Den.mono s2 _ _ d1) d2, q2⟩
def eOpG (f : D → D → (D → Prop) → Prop) (ta tb : TDG T) : TDG T := fun S env Q => ta S env fun S1 x => tb S1 env fun S2 y => f x y (Q S2)
theorem twoG {r : R2} {f : D → D → (D → Prop) → Prop} (hf : Op3 X r f) (ha : QEG X h a ta) (hb : QEG X h b tb) {B : Base} {σ : St} {F H : Hp} {env : En} {S : T} {Q : T → D → Prop} {Z : VK} (fit : FitG B h) (rp : RepG X.K B h S F H σ env)
    (hz : ∀ (S' : T) (v : V) (H' F' : Hp) (d : D), RepG X.K B h S' F' H' σ env → Same F F' → Den X.K F' d v → Q S' d → Z v H') (hq : eOpG f ta tb S env Q) : tOp r (wE X a) (wE X b) σ H Z := by
  refine wE_mono (ha.run B σ F H env _ S fit rp hq) fun x H1 ⟨S1, F1, d, r1, s1, d1, q1⟩ => ?_
  refine wE_mono (hb.run B σ F1 H1 env _ S1 fit r1 q1) fun y H2 ⟨S2, F2, d', ⟨cs, l, r2⟩, s2, d2, q2⟩ => ?_
  exact hf _ σ F2 H2 env (Q S2) d d' x y Z r2.now (Den.mono s2 _ _ d1) d2 (fun v H' F' d' r' s' dd qq => hz S2 v H' F' d' (RepG.lift l r2.f0 r') ((s1.trans s2).trans s') dd qq) q2
theorem eg_sub (ha : QEG X h a ta) (hb : QEG X h b tb) : QEG X h (.BinOp a .Sub b pos) (eOpG subD ta tb) :=
  ⟨fun B σ F H env Q S fit r q => wE_of (pe_op op_sub pe_w pe_w) (twoG o3_ii0 ha hb fit r (fun S' v H' F' d r' s' dd q => ⟨S', F', d, r', s', dd, q⟩) q)⟩
def tTest (t : TDG T) : TBG T := fun S env Q => t S env fun S' x => ∃ k, x = .bl k ∧ Q S' k
def gSetE (i : Nat) (t : TDG T) : TSG T := fun D S env => t S env fun S' d => D.nx S' (env.set i (some (.d d)))
theorem RepG.set {K : PySem.W.Frag} {B : Base} {S : T} {F H : Hp} {σ : St} {env : En} {i : Nat} {d : D} {v : V} (r : RepG K B h S F H σ env) (dd : Den K F d v) (hl : i < σ.length) : RepG K B h S F H (σ.set i (some v)) (env.set i (some (.d d))) := by
  obtain ⟨cs, l, r⟩ := r
  exact ⟨cs, l, r.set dd hl⟩
theorem g_setE {y : Str} {py : Pos} (i : Nat) (hN : X.N.Nodup) (he : QEG X h e ta) (hi : X.N[i]? = some y := by rfl) (hy : Loc X.env.scope y := by first | exact Or.inl rfl | exact Or.inr rfl) (hs : swapsWith e (some (.Name y py)) pos.line X.env = pure false := by rfl)
    (hf : X.fn y = true ∨ X.env.scope.names.lookup y = some .local := by first | exact .inl rfl | exact .inr rfl) : QG1 X h (.Assign [.Name y py] e pos) (gSetE i ta) := by
  refine ⟨fun B σ F H env D S fit r hq pins s I => ?_⟩
  have hl : i < σ.length := by rw [I.len]; exact (List.getElem?_eq_some_iff.mp hi).1
  refine ps_set (i := i) hN hi hy pe_w hs hf pins s σ H _ I ?_
  exact wE_mono (he.run B σ F H env _ S fit r hq) fun v H1 ⟨S1, F1, d, r1, s1, d1, q1⟩ => ⟨S1, F1, _, r1.set d1 hl, q1⟩
def gRetE (t : TDG T) : TSG T := fun D S env => t S env D.rt
theorem g_retE (he : QEG X h e ta) : QG1 X h (.Return (some e) pos) (gRetE ta) := by
  refine ⟨fun B σ F H env D S fit r hq => wS_of (ps_ret pe_w) ?_⟩
  exact wE_mono (he.run B σ F H env _ S fit r hq) fun v H1 ⟨S1, F1, d, ⟨cs, l, r1⟩, s1, d1, q1⟩ => ⟨S1, F1, d, ⟨cs, l, r1.bare⟩, d1, q1⟩
end
end L2.L3
set_option Elab.async false
set_option linter.all false
set_option maxRecDepth 100000
set_option maxHeartbeats 4000000
set_option Elab.async false
set_option linter.all false
set_option maxRecDepth 100000
set_option maxHeartbeats 4000000
namespace L2.L3
open PySem PySem.Spec PyProof.Rows
structure P5 where
  x : Addr
  dx : Addr
  a : Addr
  b : Addr
  c : Addr
  nd : [x, dx, a, b, c].Nodup
structure S3 where
  h : List D
  t : List D
  o : List D
def S3.get (S : S3) : Nat → List D
  | 0 => S.h
  | 1 => S.t
  | _ => S.o
def P5.at (p : P5) : Nat → Addr
  | 0 => p.a
  | 1 => p.b
  | _ => p.c
structure N3 where
  f : Str
  g : Str
  h : Str
  fg : f ≠ g
  fh : f ≠ h
  gh : g ≠ h
def N3.nm (n : N3) : Nat → Str
  | 0 => n.f
  | 1 => n.g
  | _ => n.h
def fk (K : PySem.W.Frag) (C : Addr) (n : N3) (p : P5) : Shp S3 where
  lay := fun S F cs => ∃ us vs ws, cs = [(p.x, .ins C p.dx [(n.f, .ref p.a), (n.g, .ref p.b), (n.h, .ref p.c)]), (p.dx, .own p.x), (p.a, .lst us), (p.b, .lst vs), (p.c, .lst ws)] ∧ DenL K F S.h us ∧ DenL K F S.t vs ∧ DenL K F S.o ws
  ad := [p.x, p.dx, p.a, p.b, p.c]
  nd := p.nd
  at_ := fun S F cs ⟨_, _, _, e, _⟩ => by subst e; rfl
  mono := fun S F F' cs s ⟨us, vs, ws, e, h1, h2, h3⟩ => ⟨us, vs, ws, e, DenL.mono s _ _ h1, DenL.mono s _ _ h2, DenL.mono s _ _ h3⟩
end L2.L3
set_option Elab.async false
set_option linter.all false
set_option maxRecDepth 100000
set_option maxHeartbeats 4000000
namespace L2.L3
open PySem PySem.Spec PyProof.Rows
theorem Rep.strip1 {K : PySem.W.Frag} {B : Base} {F H : Hp} {σ : St} {env : En} {p : Addr} {o : HO} (r : Rep K (B.guard p o) F H σ env) (hb : B.H p = none) : Rep K B F (fun q => if q = p then none else H q) σ env ∧ H = upd (fun q => if q = p then none else H q) p o := by
  obtain ⟨r', hp, hf⟩ := r.unguard hb
  have far : ∀ q, (B.guard p o).H q = none → q ≠ p := fun q h e => by
    have h' : upd B.H p o q = none := h
    subst e; rw [upd_same] at h'; cases h'
  refine ⟨⟨r'.f0, fun b u z => ?_, fun b u z => ?_, r'.nf, r'.dv, fun i xs h => ?_, r'.ne, fun i xs h => ?_, r'.nm⟩, ?_⟩
  · have : b ≠ p := fun e => by subst e; rw [hf] at z; cases z
    show (if b = p then none else H b) = _
    rw [if_neg this]; exact r'.fh _ _ z
  · have : b ≠ p := fun e => by subst e; rw [hb] at z; cases z
    show (if b = p then none else H b) = _
    rw [if_neg this]; exact r'.h0 _ _ z
  · obtain ⟨q, vs, h1, h2, h3, h4, h5⟩ := r.ov i xs h
    obtain ⟨q', vs', g1, g2, g3, g4, g5⟩ := r'.ov i xs h
    rw [h1] at g1; cases g1
    exact ⟨q, vs, h1, by show (if q = p then none else H q) = _; rw [if_neg (far q h4)]; exact h2, h3, g4, h5⟩
  · obtain ⟨q, ep, us, vs, h1, h2, h3, h4, h5, h6⟩ := r.mv i xs h
    obtain ⟨q', _, _, _, g1, g2, g3, g4, _⟩ := r'.mv i xs h
    rw [h1] at g1; cases g1
    exact ⟨q, ep, us, vs, h1, by show (if q = p then none else H q) = _; rw [if_neg (far q h4)]; exact h2, h3, g4, h5, h6⟩
  · funext b
    unfold upd
    by_cases z : b = p
    · rw [if_pos z, z]; exact hp
    · rw [if_neg z]
      show H b = if b = p then none else H b
      rw [if_neg z]
abbrev FwT := List D → (Two → Prop) → Prop
abbrev FwM := Two → List D → (D → Prop) → Prop
abbrev TT2 := (Two → Prop) → En → Prop
abbrev TR2 := (Two → Prop) → Two → En → Prop
end L2.L3
set_option Elab.async false
set_option linter.all false
set_option maxRecDepth 100000
set_option maxHeartbeats 4000000
namespace L2.L3
open PySem PySem.Spec PyProof.Rows
section
variable {K : PySem.W.Frag} {B : Base} {F H : Hp} {σ : St} {env : En}
inductive Strs (K : PySem.W.Frag) (B : Base) (F H : Hp) (σ : St) (env : En) (cs : Cells) : Prop
  | mk (G : Hp) (e : H = addC G cs) (f : ∀ c ∈ cs, G c.1 = none) (r : Rep K B F G σ env)
theorem Rep.strips : ∀ (cs : Cells) {H : Hp}, (cs.map (·.1)).Nodup → (∀ c ∈ cs, B.H c.1 = none) → Rep K (B.gs cs) F H σ env → Strs K B F H σ env cs
  | [], H, _, _, r => ⟨H, rfl, fun c h => (nomatch h), r⟩
  | c :: t, H, nd, h, r => by
    obtain ⟨n1, n2⟩ := List.nodup_cons.mp nd
    have hb : (B.gs t).H c.1 = none := by rw [gs_off t c.1 n1]; exact h c List.mem_cons_self
    obtain ⟨r1, e1⟩ := Rep.strip1 (B := B.gs t) (p := c.1) (o := c.2) r hb
    obtain ⟨G, e2, f2, r2⟩ := Rep.strips t n2 (fun d hd => h d (List.mem_cons_of_mem _ hd)) r1
    have z : (addC G t) c.1 = none := by rw [← e2]; exact if_pos rfl
    rw [addC_off t c.1 n1] at z
    refine ⟨G, ?_, fun d hd => ?_, r2⟩
    · rw [e1, e2]; rfl
    · rcases List.mem_cons.mp hd with e | e
      · rw [e]; exact z
      · exact f2 d e
variable {T : Type} {h : Shp T} {S : T} {cs : Cells}
theorem Shp.nod (l : h.lay S F cs) : (cs.map (·.1)).Nodup := by rw [h.at_ S F cs l]; exact h.nd
theorem FitG.off (fit : FitG B h) (l : h.lay S F cs) : ∀ c ∈ cs, B.H c.1 = none := fun c hc => fit c.1 (by rw [← h.at_ S F cs l]; exact List.mem_map.mpr ⟨c, hc, rfl⟩)
theorem RepG.laid {G : Hp} (r : Rep K B F G σ env) (l : h.lay S F cs) (f : ∀ c ∈ cs, G c.1 = none) : FitG B h ∧ RepG K B h S F (addC G cs) σ env := by
  refine ⟨fun p hp => ?_, cs, l, r.guards cs (Shp.nod l) f⟩
  rw [← h.at_ S F cs l] at hp
  obtain ⟨c, hc, rfl⟩ := List.mem_map.mp hp
  exact r.h0.free (f c hc)
end
abbrev FwG := List D → S3 → (S3 → D → Prop) → Prop
abbrev FwJ := List D → (S3 → Prop) → Prop
end L2.L3
set_option Elab.async false
set_option linter.all false
set_option maxRecDepth 100000
set_option maxHeartbeats 4000000
namespace L2.L3
open PySem PySem.Spec PyProof.Rows
def cOr2 (t u : TD) : TD := fun env Q => t env Q ∨ u env Q
theorem q_or {X : Cx} {e : Expr} {t u : TD} (h1 : QE X e t) (h2 : QE X e u) : QE X e (cOr2 t u) := ⟨fun B σ F H env Q r h => h.elim (h1 B σ F H env Q r) (h2 B σ F H env Q r)⟩
def lk (K : PySem.W.Frag) (a : Addr) : Shp (List D) where
  lay := fun l F cs => ∃ us, cs = [(a, .lst us)] ∧ DenL K F l us
  ad := [a]
  nd := by simp
  at_ := fun S F cs ⟨_, e, _⟩ => by subst e; rfl
  mono := fun S F F' cs s ⟨us, e, h⟩ => ⟨us, e, DenL.mono s _ _ h⟩
abbrev FwL := List D → List D → (List D → D → Prop) → Prop
def spL (K : PySem.W.Frag) (fl : FwL) : Sp := fun vs H Q _ => ∃ (a : Addr) (F G : Hp) (l : List D) (us vr : List V) (ds : List D) (R : List D → D → Prop), vs = .ref a :: vr ∧ H = upd G a (.lst us) ∧ G a = none ∧ Same F G ∧ DenL K F l us ∧ DenL K F ds vr ∧ fl ds l R ∧
  ∀ (l' : List D) (us' : List V) (d : D) (v : V) (F' G' : Hp), Same F F' → Same G G' → Same F' G' → (∀ q, G q ≠ none → F q = none → F' q = none) → G' a = none → DenL K F' l' us' → Den K F' d v → R l' d → Q v (upd G' a (.lst us'))
structure KnownL (P : Program) (w : World) (K : PySem.W.Frag) (mg : Str → Option Value) (base : Heap) (k : Nat) (x : Str) (fl : FwL) : Prop where
  ex : ∃ (fa : Addr) (fd : FuncData) (ps : List Str), FnOk P w K mg base CX0 k fa fd ps (spL K fl) ∧ mg x = some (.ref fa) ∧ PySem.W.keepIn K (.ref fa) = true ∧ Binds K fd ps []
section
variable {P : Program} {w : World} {K : PySem.W.Frag} {mg : Str → Option Value} {base : Heap} {x : Str} {st : Stmt} {N ps : List Str} {k : Nat} {fl : FwL}
theorem Df.knownL (F : Df K mg x st ps) (S : FnScope N ps (defScope st)) (hl : ∀ ds l R, fl ds l R → ds.length + 1 = ps.length)
    (hbody : ∀ (fa : Addr) (cdv : Value) (A : Around) (outer : List Env) (s : Shared) (H : Hp) (E : XK), Room k (A.deeper (envOfC x (defScope st) s.heap.objs.size fa cdv)) →
      ∀ a : Addr, ∃ t, QGs1 (cxOf CX0 P w K mg base N x (defScope st) fa cdv A outer s H E).nox (lk K a) (defBody st) t ∧ ∀ ds l (R : List D → D → Prop), fl ds l R → t { nx := fun l' _ => R l' .non, rt := R } l (start3 N (.obj (AtN a) :: ds))) : KnownL P w K mg base (k + 1) x fl := by
  obtain ⟨fa, fd, F, hmg, hb⟩ := F.ex
  refine ⟨fa, fd, ps, F.ok S (fun vs H Q E h => ?_) (fun cdv A outer s H vs Q E hr h => ?_), hmg, F.kp, hb⟩
  · obtain ⟨a, F0, G, l, us, vr, ds, R, rfl, _, _, _, _, hd, hf, _⟩ := h
    rw [List.length_cons, ← hd.length]; exact hl ds _ _ hf
  · obtain ⟨a, F0, G, l, us, vr, ds, R, rfl, rfl, ga, fh, dl, hd, hf, kk⟩ := h
    obtain ⟨t, ht, hq⟩ := hbody fa cdv A outer s _ E hr a
    refine ⟨_, pss_w, ?_⟩
    have self : Den K F0 (.obj (AtN a)) (.ref a) := by simp only [Den]; exact ⟨a, rfl, fun _ _ => rfl⟩
    obtain ⟨fit, r0⟩ := RepG.laid (h := lk K a) (S := l) (cs := [(a, .lst us)]) (start3_rep (N := N) fh (denL_cons self hd)) ⟨us, rfl, dl⟩ (fun c hc => by rw [List.mem_singleton.mp hc]; exact ga)
    have fin : ∀ (l' : List D) (F' : Hp) (σ' : St) (env' : En) (H' : Hp) (d : D) (v : V), RepG K ⟨F0, G, fun p => G p ≠ none ∧ F0 p = none, fun _ h => h.1⟩ (lk K a) l' F' H' σ' env' → Den K F' d v → R l' d → Q v H' := fun l' F' σ' env' H' d v ⟨cs', ly, r'⟩ dd q => by
      obtain ⟨G', e, off', rG⟩ := r'.strips cs' (Shp.nod ly) (fit.off ly)
      obtain ⟨us', ec, dl'⟩ := ly
      subst ec
      rw [e]
      exact kk l' us' d v F' G' rG.f0 rG.h0 rG.fh (fun p h1 h2 => rG.nf p ⟨h1, h2⟩) (off' (a, .lst us') (by simp)) dl' dd q
    have core := ht.run _ (start N (.ref a :: vr)) F0 _ (start3 N (.obj (AtN a) :: ds)) _ l fit r0 (hq ds l R hf)
    refine wSs_mono core (fun σ' H' ⟨S', F', env', r, q⟩ => ?_) (fun v H' ⟨S', F', d', r, dd, q⟩ => ?_) (fun _ _ ⟨_, _, _, _, q⟩ => q) (fun _ _ ⟨_, _, _, _, q⟩ => q)
    · exact fin S' F' σ' env' H' .non .non r den_non q
    · exact fin S' F' [] [] H' d' v r dd q
end
section
variable {T : Type} {X : Cx} {h : Shp T} {A : Addr} {a b c e : Expr} {es : List Expr} {ta tb : TDG T} {te : TD} {ts : TDs} {pos px : Pos} {x : Str} {body : List Stmt} {q : TSG T} {g : TG3}
theorem eg_mod (ha : QEG X h a ta) (hb : QEG X h b tb) : QEG X h (.BinOp a .Mod b pos) (eOpG modD ta tb) :=
  ⟨fun B σ F H env Q S fit r q => wE_of (pe_op (r := rI ModOk fun i j => .int (i.fmod j)) op_modN pe_w pe_w) (twoG o3_ii ha hb fit r (fun S' v H' F' d r' s' dd q => ⟨S', F', d, r', s', dd, q⟩) q)⟩
theorem eg_ix (ha : QEG X h a ta) (hb : QEG X h b tb) (hs : PlainIx b) : QEG X h (.Subscript a b pos) (eOpG ixD ta tb) :=
  ⟨fun B σ F H env Q S fit r q => wE_of (pe_ix ix_seq pe_w pe_w hs) (twoG o3_ix ha hb fit r (fun S' v H' F' d r' s' dd q => ⟨S', F', d, r', s', dd, q⟩) q)⟩
def gForRE (ta : TDG T) (g : TG3) (tb : TSG T) : TSG T := fun D S env => ta S env fun S' d => rng1 [d] fun lo n => gturns g tb D (intsD lo n) S' env
theorem g_forRE {tg : Expr} {p1 pos2 : Pos} (hp : PassesOwn (model X.prog X.w) X.A X.env X.xe) (hc : X.calm = true) (hgl : Gl X "range") (hm : X.mg "range" = none) (ha : QEG X h a ta) (hg : QG X tg g) (hb : QGs1 X h body q)
    (hst : starEach [a] X.env = [(false, eval a X.env)] := by rfl) (hs : ∀ x, foldedSetIterable (.Call (.Name "range" p1) [a] [] pos2) X.env x = pure x := by intro _; rfl) : QG1 X h (.For tg (.Call (.Name "range" p1) [a] [] pos2) body [] pos) (gForRE ta g q) := by
  refine ⟨fun B σ F H env D S fit r hq => ?_⟩
  refine wS_of (ps_for hp hc (pi_range1 hgl hm pa_w hst) pg_w pss_w hs) ?_
  refine wA_mono ((ag_cons ha ag_nil (by rw [hst]; rfl)).run B σ F H env (fun S' ds => match ds with | [d] => rng1 [d] fun lo n => gturns g q D (intsD lo n) S' env | _ => False) S fit r hq) fun vs' H1 ⟨S1, F1, ds, r1, s1, dd, q1⟩ => ?_
  match ds, dd, q1 with
  | [d], dd, q1 =>
    simp only at q1
    unfold rng1 at q1
    split at q1
    · rename_i i heq
      cases heq
      simp only [DenL, Den] at dd
      obtain ⟨v, r', rfl, rfl, rfl⟩ := dd
      exact ⟨_, rfl, q1.1.1, q1.1.2, for_intsG hg hb fit r1 q1.2⟩
    · exact q1.elim
  | [], _, q1 => exact q1.elim
  | _ :: _ :: _, _, q1 => exact q1.elim
def gAppE (i : Nat) (ta : TDG T) : TSG T := fun D S env => ∃ xs, env[i]? = some (some (.own xs)) ∧ ta S env fun S' d => xs.length < sizeLine ∧ D.nx S' (env.set i (some (.own (xs ++ [d]))))
theorem g_appE {apos cpos : Pos} (i : Nat) (he : QEG X h e ta) (hN : X.N[i]? = some x := by rfl) (hv : Vis X.env.scope x := by first | exact Or.inl rfl | exact Or.inr (Or.inl rfl) | exact Or.inr (Or.inr rfl)) (hd : (x == ("__debug__" : Str)) = false := by decide) (hcd : (x == ("__classdict__" : Str)) = false := by decide)
    (hbase : attributeBase (.Name x px) "append" X.env (eval (.Name x px) X.env) = eval (.Name x px) X.env := by rfl)
    (hfew : ((backTo cpos (starEach [e] X.env)).all (fun x => !x.1) && (backToKw cpos (keywordEach [] X.env)).all (fun x => x.1.isSome)
      && decide (([e] : List Expr).length + ([] : List Keyword).length + (if ([] : List Keyword).isEmpty then 0 else 1) < 30)) = true := by rfl)
    (hline : (apos.endLine == cpos.line) = true := by rfl) (hst : starEach [e] X.env = (false, eval e X.env) :: starEach [] X.env := by exact star_of rfl) (hplain : (backTo cpos (starEach ([] : List Expr) X.env)).any (·.1) = false := by rfl)
    (hs : swapsWith (.Call (.Attribute (.Name x px) "append" apos) [e] [] cpos) none pos.line X.env = pure false := by rfl) :
    QG1 X h (.Expr (.Call (.Attribute (.Name x px) "append" apos) [e] [] cpos) pos) (gAppE i ta) := by
  refine ⟨fun B σ F H env D S fit r ⟨xs, hx, hq⟩ => wS_of (ps_expr (pe_bm PySem.F.plainAttrs_list PySem.F.slot_list_append PySem.F.type_list_append mt_append (pe_var hN hv hd hcd) (pa_cons pe_w pa_nil hst) hbase hfew hline hst hplain) hs) ?_⟩
  have r0 := r
  obtain ⟨cs, l, r⟩ := r
  obtain ⟨p, vs, h1, h2, h3, h4, h5⟩ := r.ov i xs hx
  refine ⟨.ref p, h1, .inl ⟨rfl, vs, SqL.of h2⟩, ?_⟩
  refine wE_mono (he.run B σ F H env _ S fit r0 hq) fun y H1 ⟨S1, F1, d, ⟨cs1, l1, r1⟩, s1, d1, hl, q1⟩ => ?_
  obtain ⟨p', vs', g1, g2, g3, g4, g5⟩ := r1.ov i xs hx
  rw [h1] at g1; cases g1
  exact ⟨p, vs', y, rfl, rfl, g2, by rw [← g5.length]; exact hl, S1, F1, _, ⟨cs1, l1, r1.change hx h1 (g5.append (denL_cons d1 denL_nil))⟩, q1⟩
def ePopL (i : Nat) (A : Addr) : TDG (List D) := fun l env Q => env[i]? = some (some (.d (.obj (AtN A)))) ∧ ∃ xs d, l = xs ++ [d] ∧ Q xs d
theorem eg_popL {apos cpos : Pos} (i : Nat) (hN : X.N[i]? = some x := by rfl) (hv : Vis X.env.scope x := by first | exact Or.inl rfl | exact Or.inr (Or.inl rfl) | exact Or.inr (Or.inr rfl)) (hd : (x == ("__debug__" : Str)) = false := by decide)
    (hcd : (x == ("__classdict__" : Str)) = false := by decide) (hbase : attributeBase (.Name x px) "pop" X.env (eval (.Name x px) X.env) = eval (.Name x px) X.env := by rfl) (hline : (apos.endLine == cpos.line) = true := by rfl) :
    QEG X (lk X.K A) (.Call (.Attribute (.Name x px) "pop" apos) [] [] cpos) (ePopL i A) := by
  refine ⟨fun B σ F H env Q S fit ⟨cs, l, r⟩ ⟨hi, xs, d, e1, hq⟩ => wE_of (pe_bm0 PySem.F.plainAttrs_list PySem.F.slot_list_pop PySem.F.type_list_pop mt_pop (pe_var hN hv hd hcd) hbase hline) ?_⟩
  have nd := Shp.nod l
  obtain ⟨us, ec, du⟩ := l
  subst ec e1
  have hc := r.cell nd (p := A) (o := .lst us) (by simp)
  have hl := du.length
  have hget : (xs ++ [d])[xs.length]? = some d := by simp
  obtain ⟨v, hv', dv⟩ := du.get hget
  have hlen : us.length - 1 = xs.length := by rw [← hl]; simp
  refine ⟨.ref A, at_selfN r hi, .inl ⟨rfl, us, SqL.of hc⟩, A, us, v, rfl, rfl, hc, by rw [hlen]; exact hv', xs, F, d, ⟨_, ⟨us.dropLast, rfl, ?_⟩, ?_⟩, Same.refl _, dv, hq⟩
  · have := du.take xs.length
    rw [List.dropLast_eq_take, hlen]
    simpa using this
  · have := r.putC nd (.lst us.dropLast) (a := A) (by simp)
    simpa [putC] using this
def eCallL (i : Nat) (A : Addr) (fl : FwL) (ts : TDs) : TDG (List D) := fun l env Q => env[i]? = some (some (.d (.obj (AtN A)))) ∧ ts env fun ds => fl ds l Q
theorem call_core {B : Base} {σ : St} {F F1 G : Hp} {env : En} {Q : List D → D → Prop} {l : List D} {us vr : List V} {ds : List D} {fl : FwL} (r : Rep X.K B F1 G σ env) (ga : G A = none) (s1 : Same F F1) (dl : DenL X.K F1 l us) (dd : DenL X.K F1 ds vr) (q : fl ds l Q) :
    spL X.K fl (.ref A :: vr) (upd G A (.lst us)) (RVG X.K B (lk X.K A) σ env F Q) fun _ _ _ => False := by
  refine ⟨A, F1, G, l, us, vr, ds, Q, rfl, rfl, ga, r.fh, dl, dd, q, fun l' us' d v F' G' a1 a2 a3 a4 a5 a6 a7 a8 => ?_⟩
  exact ⟨l', F', d, (RepG.laid (h := lk X.K A) (S := l') (cs := [(A, .lst us')]) (r.ext a1 a3 a2 a4) ⟨us', rfl, a6⟩ (fun c hc => by rw [List.mem_singleton.mp hc]; exact a5)).2, s1.trans a1, a7, a8⟩
theorem eg_callL {p : Pos} {f : Str} {k : Nat} {fl : FwL} (i : Nat) (hk : KnownL X.prog X.w X.K X.mg X.base k f fl) (hr : Room k X.A) (ha : QA X es ts) (hN : X.N[i]? = some x := by rfl) (hv : Vis X.env.scope x := by first | exact Or.inl rfl | exact Or.inr (Or.inl rfl) | exact Or.inr (Or.inr rfl)) (hd : (x == ("__debug__" : Str)) = false := by decide) (hcd : (x == ("__classdict__" : Str)) = false := by decide)
    (hg : Gl X f := by rfl) (hdb : (f == ("__debug__" : Str)) = false := by decide) (he : starEach (.Name x px :: es) X.env = (false, eval (.Name x px) X.env) :: starEach es X.env := by exact star_of rfl) (hpl : (backTo pos (starEach es X.env)).any (·.1) = false := by rfl) :
    QEG X (lk X.K A) (.Call (.Name f p) (.Name x px :: es) [] pos) (eCallL i A fl ts) := by
  refine ⟨fun B σ F H env Q S fit ⟨cs, l, r⟩ ⟨hi, hq⟩ => ?_⟩
  obtain ⟨fa, fd, ps, G, hm, hkp, hb⟩ := hk.ex
  refine wE_of (pe_call G hr hg hm hkp hb .nil pass0 (pa_cons (pe_var hN hv hd hcd) pa_w he) hdb he hpl) ?_
  refine ⟨.ref A, at_selfN r hi, ?_⟩
  refine wA_mono (ha _ σ F H env _ r.now hq) fun vr H1 ⟨F1, ds, r1, s1, d1, q1⟩ => ?_
  have l1 := (lk X.K A).mono _ _ _ _ s1 l
  obtain ⟨G1, e, off, rG⟩ := (nowG r.f0 r1).strips cs (Shp.nod l1) (fit.off l1)
  obtain ⟨us, ec, du⟩ := l1
  subst ec
  rw [e]
  show spL X.K fl ((.ref A :: vr) ++ []) _ _ _
  rw [List.append_nil]
  exact call_core (vr := vr) rG (off (A, .lst us) (by simp)) s1 du d1 q1
end
section
variable {K : PySem.W.Frag} {B : Base} {F H : Hp} {σ : St} {env : En}
inductive Lent (K : PySem.W.Frag) (B : Base) (F H : Hp) (σ : St) (env : En) (i : Nat) (xs : List D) : Prop
  | mk (p : Addr) (G : Hp) (vs : List V) (hs : σ[i]? = some (some (.ref p))) (e : H = upd G p (.lst vs)) (g : G p = none) (d : DenL K F xs vs) (r : Rep K B F G σ (env.set i none))
theorem Rep.lend (r : Rep K B F H σ env) {i : Nat} {xs : List D} (hx : env[i]? = some (some (.own xs))) : Lent K B F H σ env i xs := by
  obtain ⟨p, vs, h1, h2, h3, h4, h5⟩ := r.ov i xs hx
  have far : ∀ {j : Nat} {l : Lo}, (env.set i none)[j]? = some (some l) → j ≠ i ∧ env[j]? = some (some l) := fun {j l} h => by
    have hj : i ≠ j := fun z => by subst z; rw [List.getElem?_set] at h; simp at h
    rw [List.getElem?_set_ne hj] at h
    exact ⟨Ne.symm hj, h⟩
  refine ⟨p, fun q => if q = p then none else H q, vs, h1, ?_, if_pos rfl, h5, ⟨r.f0, fun b u z => ?_, fun b u z => ?_, r.nf, fun j y h => r.dv j y (far h).2, fun j y h => ?_, fun j k as bs q n e1 e2 => r.ne j k as bs q n (far e1).2 (far e2).2, fun j y h => ?_, fun j k as bs q n e1 e2 => r.nm j k as bs q n (far e1).2 (far e2).2⟩⟩
  · funext b
    unfold upd
    by_cases z : b = p
    · rw [if_pos z, z]; exact h2
    · rw [if_neg z]
      show H b = if b = p then none else H b
      rw [if_neg z]
  · have : b ≠ p := fun e => by subst e; rw [h3] at z; cases z
    show (if b = p then none else H b) = _
    rw [if_neg this]; exact r.fh _ _ z
  · have : b ≠ p := fun e => by subst e; rw [h4] at z; cases z
    show (if b = p then none else H b) = _
    rw [if_neg this]; exact r.h0 _ _ z
  · obtain ⟨nj, hj⟩ := far h
    obtain ⟨q, us, g1, g2, g3, g4, g5⟩ := r.ov j y hj
    have : q ≠ p := fun e => by subst e; exact r.ne i j xs y q (Ne.symm nj) hx hj h1 g1
    exact ⟨q, us, g1, by show (if q = p then none else H q) = _; rw [if_neg this]; exact g2, g3, g4, g5⟩
  · obtain ⟨q, ep, us, ws, g1, g2, g3, g4, g5⟩ := r.mv j y (far h).2
    have : q ≠ p := fun e => by subst e; rw [h2] at g2; cases g2
    exact ⟨q, ep, us, ws, g1, by show (if q = p then none else H q) = _; rw [if_neg this]; exact g2, g3, g4, g5⟩
end
section
variable {X : Cx} {es : List Expr} {ts : TDs} {px p pos : Pos} {x f : Str} {k : Nat} {fl : FwL}
def eCallOwn (i : Nat) (fl : FwL) (ts : TDs) : TDe := fun env Q => (∃ xs, env[i]? = some (some (.own xs))) ∧ ts env fun ds => ∃ xs, env[i]? = some (some (.own xs)) ∧ fl ds xs fun xs' d => Q d (env.set i (some (.own xs')))
theorem qe_callL (i : Nat) (hk : KnownL X.prog X.w X.K X.mg X.base k f fl) (hr : Room k X.A) (ha : QA X es ts) (hN : X.N[i]? = some x := by rfl) (hv : Vis X.env.scope x := by first | exact Or.inl rfl | exact Or.inr (Or.inl rfl) | exact Or.inr (Or.inr rfl)) (hd : (x == ("__debug__" : Str)) = false := by decide) (hcd : (x == ("__classdict__" : Str)) = false := by decide)
    (hg : Gl X f := by rfl) (hdb : (f == ("__debug__" : Str)) = false := by decide) (he : starEach (.Name x px :: es) X.env = (false, eval (.Name x px) X.env) :: starEach es X.env := by exact star_of rfl) (hpl : (backTo pos (starEach es X.env)).any (·.1) = false := by rfl) :
    QEe X (.Call (.Name f p) (.Name x px :: es) [] pos) (eCallOwn i fl ts) := by
  refine ⟨fun B σ F H env Q rp ⟨⟨ys, hy⟩, hq⟩ => ?_⟩
  obtain ⟨fa, fd, ps, G, hm, hkp, hb⟩ := hk.ex
  refine wE_of (pe_call G hr hg hm hkp hb .nil pass0 (pa_cons (pe_var hN hv hd hcd) pa_w he) hdb he hpl) ?_
  obtain ⟨p0, vs0, h1, _⟩ := rp.ov i ys hy
  refine ⟨.ref p0, h1, ?_⟩
  refine wA_mono (ha B σ F H env _ rp hq) fun vr H1 ⟨F1, ds, r1, s1, d1, xs, hx, q1⟩ => ?_
  obtain ⟨q, G1, vs, hs, e, g, dl, r2⟩ := r1.lend hx
  rw [h1] at hs; cases hs
  have hl : i < σ.length := (List.getElem?_eq_some_iff.mp h1).1
  rw [e]
  show spL X.K fl ((.ref p0 :: vr) ++ []) _ _ _
  rw [List.append_nil]
  refine ⟨p0, F1, G1, xs, vs, vr, ds, _, rfl, rfl, g, r2.fh, dl, d1, q1, fun l' us' d v F' G' a1 a2 a3 a4 a5 a6 a7 a8 => ?_⟩
  have r3 := (r2.ext a1 a3 a2 a4).setOwn (i := i) (p := p0) (vs := us') (xs := l') a5 a6 hl
  rw [set_same h1, List.set_set] at r3
  exact ⟨F', d, _, r3, s1.trans a1, a7, a8⟩
end
section
variable {X : Cx} {c e : Expr} {sts : List Stmt} {tc : TB} {ts : TDs} {u : TS3} {pos p1 p2 : Pos}
def dRetF (ts : TDs) : TS3 := fun Z env => ts env fun xs => Z.rt (.lst xs)
theorem ret_new (he : QF X e ts) {B : Base} {σ : St} {F H : Hp} {env : En} {D : Ends3} (r : Rep X.K B F H σ env) (hq : dRetF ts D env) {N : St → Hp → Prop} : wSs X [.Return (some e) pos] { RSn X B D with nx := N } σ H :=
  wSs_of (pss_one (ps_ret pe_w)) (wE_mono (he B σ F H env _ r hq) fun v H' ⟨F', H1, p, us, xs, e1, hp, e2, r', s, dd, q⟩ => ⟨F', H1, p, us, xs, e1, hp, e2, r'.bare, dd, q⟩)
theorem qns_retF (he : QF X e ts) : QNs X [.Return (some e) pos] (dRetF ts) := ⟨fun B σ F H env D r hq => ret_new he r hq (N := RN X B D.nx)⟩
def dIfRetF (tc : TB) (ts : TDs) (u : TS3) : TS3 := fun Z env => tc env fun k => if k = true then dRetF ts Z env else u Z env
theorem qns_ifF (hc : QT X c tc) (he : QF X e ts) (h2 : QNs X sts u) : QNs X (.If c [.Return (some e) p1] [] p2 :: sts) (dIfRetF tc ts u) := by
  refine ⟨fun B σ F H env D r hq => wSs_of (pss_cons (ps_if pt_w pss_w pss_nil) pss_w) ?_⟩
  refine wT_mono (hc B σ F H env _ r hq) fun k H1 ⟨F1, r1, s1, q1⟩ => ?_
  cases k with
  | true => exact ret_new he r1 q1
  | false => exact h2.run B σ F1 H1 env D r1 q1
end
end L2.L3
set_option Elab.async false
set_option linter.all false
set_option maxRecDepth 100000
set_option maxHeartbeats 4000000
namespace L2.L3
open PySem PySem.Spec PyProof.Rows PySem.W
def IsCodeO (oc : Obj) (q : Str) : Prop := ∃ vs t, oc.data = .fields vs ∧ vs[1]? = some (.str q t)
theorem IsCodeO.rec {h : Heap} {c : Addr} {oc : Obj} {q : Str} (x : IsCodeO oc q) (e : h.get? c = some oc) : h.CodeRec (.ref c) q := let ⟨vs, t, d, v⟩ := x; ⟨c, oc, vs, t, rfl, e, d, v⟩
end L2.L3
set_option Elab.async false
set_option linter.all false
set_option maxRecDepth 100000
set_option maxHeartbeats 4000000
set_option Elab.async false
set_option linter.all false
set_option maxRecDepth 100000
set_option maxHeartbeats 4000000
namespace L2.L3
open PySem PySem.Spec PyProof.Rows
def dNo : TS3 := fun _ _ => False
theorem qss_no {X : Cx} {sts : List Stmt} : QSs X sts dNo := ⟨fun _ _ _ _ _ _ _ h => h.elim⟩
def TabF : List DictEntry → List (Str × Addr) → Prop
  | [], [] => True
  | e :: r, kv :: t => (∃ t1, e.key = .str kv.1 t1 ∧ e.val = .ref kv.2) ∧ TabF r t
  | _, _ => False
structure GDicF (K : PySem.W.Frag) (w : World) (x : Str) (tab : List (Str × Addr)) (a : Addr) (es : Array DictEntry) (n : Nat) : Prop where
  ns : PySem.W.nsIn K mainGlobals x = some (some (.ref a))
  at_ : K.lookup a = some ⟨.type "dict", none, .dict es n, #[]⟩
  keys : PySem.W.KeysLit w.params es.toList
  sys : (a == sysModules) = false
  tab : TabF es.toList tab
theorem tabF_find : ∀ {l : List DictEntry} {tab : List (Str × Addr)} (z : Str), TabF l tab →
    match (l.find? fun d => Value.isStrOf z d.key), tab.lookup z with
    | none, none => True
    | some e, some v => e.val = .ref v
    | _, _ => False
  | [], [], z, _ => trivial
  | [], _ :: _, z, h => h.elim
  | e :: r, [], z, h => h.elim
  | e :: r, (k, v) :: t, z, ⟨⟨t1, h1, h2⟩, h⟩ => by
    have ih := tabF_find z h
    rw [List.find?_cons, List.lookup_cons, h1]
    by_cases q : z = k
    · subst q
      have e1 : Value.isStrOf z (.str z t1) = true := by simp [Value.isStrOf]
      rw [e1, beq_self_eq_true]
      exact h2
    · have e1 : Value.isStrOf z (.str k t1) = false := by simp [Value.isStrOf]; first | exact q | exact fun w => q w.symm
      have e2 : (z == k) = false := by simpa using q
      rw [e1, e2]
      exact ih
theorem tabF_fd {es : Array DictEntry} {tab : List (Str × Addr)} (z : Str) (h : TabF es.toList tab) :
    match findBy Value.isStrOf es z, tab.lookup z with
    | none, none => True
    | some u, some v => u = .ref v
    | _, _ => False := by
  have := tabF_find z h
  unfold findBy
  rw [← Array.find?_toList]
  revert this
  cases (es.toList.find? fun d => Value.isStrOf z d.key) <;> cases tab.lookup z <;> simp
def FnIs (y : Str) : PySem.W.Frag → Hp → Addr → Prop := fun K _ a => PySem.W.nsIn K mainGlobals y = some (some (.ref a))
theorem look_keys {tab : List (Str × Addr)} {z : Str} : (tab.lookup z).isSome = decide (z ∈ tab.map (·.1)) := by
  induction tab with
  | nil => simp
  | cons kv r ih =>
    obtain ⟨k, v⟩ := kv
    rw [List.lookup_cons]
    by_cases q : z = k
    · subst q; simp
    · have e2 : (z == k) = false := by simpa using q
      rw [e2, ih]; simp [q]
section
variable {X : Cx} {b e : Expr} {es' : List Expr} {tb : TD} {ts : TDs} {x y : Str} {tab : List (Str × Addr)} {a : Addr} {es : Array DictEntry} {n : Nat} {p pos : Pos} {k : Nat} {f : Fw}
def rNinF (ks : List Str) (a : Addr) : R2 := fun y u H Q => ∃ z, y = .str z ∧ u = .ref a ∧ Q (.bl (!decide (z ∈ ks))) H
theorem op_ninF (G : GDicF X.K X.w x tab a es n) : OpR X (compareOp .NotIn) (rNinF (tab.map (·.1)) a) := by
  intro pins s σ H y u v v' Q I ry ru h
  obtain ⟨z, rfl, rfl, q⟩ := h
  obtain ⟨t, rfl⟩ := ry
  cases ru
  have hm := PySem.W.mapOf_K (prog := X.prog) (w := X.w) I.kIn G.at_ G.keys
  refine wpAny_notIn_of (strKind_is X.prog X.w z t) G.sys hm ?_
  have e : (findBy Value.isStrOf es z).isSome = (tab.lookup z).isSome := by
    have := tabF_fd z G.tab
    revert this
    cases findBy Value.isStrOf es z <;> cases tab.lookup z <;> simp
  rw [e, look_keys]
  exact ⟨.bl _, H, I.tok _, rfl, q⟩
def cNinF (ks : List Str) (tb : TD) : TD := fun env Q => tb env fun y => ∃ z, y = .str z ∧ Q (.bl (!decide (z ∈ ks)))
theorem t_ninF (ks : List Str) (G : GDicF X.K X.w x tab a es n) (hk : tab.map (·.1) = ks) (hb : QE X b tb) (hg : Gl X x := by rfl) (hdb : (x == ("__debug__" : Str)) = false := by decide) (hm : behindInMarks .NotIn (.Name x p) = false := by rfl) : QT X (.Compare b [.NotIn] [.Name x p] pos) (cTest (cNinF ks tb)) := by
  subst hk
  refine ⟨fun B σ F H env Q rp h pins s I => ?_⟩
  refine pt_cmpR (op_ninF G) pe_w (pe_glob (v := .ref a) hg (PySem.W.mg_of I.ok.mod.kin I.ok.mod.glob G.ns) rfl hdb) hm pins s σ H _ I ?_
  refine wE_mono (hb B σ F H env _ rp h) fun y H1 hq0 => ?_
  obtain ⟨F1, d, r1, s1, d1, z, e, k, ek, q⟩ := hq0
  subst e
  simp only [Den] at d1
  subst d1
  cases ek
  exact ⟨z, rfl, rfl, _, rfl, F1, r1, s1, q⟩
def cIxF (z y : Str) (tb : TD) : TD := fun env Q => tb env fun d => d = .str z ∧ Q (.obj (FnIs y))
theorem q_ixF (z y : Str) {c : Addr} (G : GDicF X.K X.w x tab a es n) (hl : tab.lookup z = some c) (hy : PySem.W.nsIn X.K mainGlobals y = some (some (.ref c))) (hb : QE X b tb) (hs : NoSl b) (hg : Gl X x := by rfl) (hdb : (x == ("__debug__" : Str)) = false := by decide) : QE X (.Subscript (.Name x p) b pos) (cIxF z y tb) := by
  refine ⟨fun B σ F H env Q rp h pins s I => ?_⟩
  refine subD_of PySem.F.slot_dict_getitem.lookup hs (ld_glob I hg (PySem.W.mg_of I.ok.mod.kin I.ok.mod.glob G.ns) ?_ hdb)
  refine wpAny_mono (hb B σ F H env _ rp h pins s I) (fun u s1 ⟨y', H1, I1, ry, F1, d, r1, s1', d1, e, q⟩ => ?_) fun _ _ z => z
  subst e
  simp only [Den] at d1
  subst d1
  obtain ⟨t, rfl⟩ := ry
  have hm := PySem.W.mapOf_K (prog := X.prog) (w := X.w) I1.kIn G.at_ G.keys
  have ht := tabF_fd z G.tab
  rw [hl] at ht
  cases hf : findBy Value.isStrOf es z with
  | none => rw [hf] at ht; exact ht.elim
  | some u =>
    rw [hf] at ht
    subst ht
    refine ⟨hm.typeIs, wpAny_getItem_of (strKind_is X.prog X.w z t) hm hf ⟨.ref c, H1, I1.tok _, rfl, F1, _, r1, s1', ?_, q⟩⟩
    simp only [Den]
    exact ⟨c, rfl, fun _ _ => hy⟩
def cCallNm (i : Nat) (y : Str) (f : Fw) (ts : TDs) : TD := fun env Q => env[i]? = some (some (.d (.obj (FnIs y)))) ∧ ts env fun ds => f ds Q
theorem q_callNm (i : Nat) (h : Known X.prog X.w X.K X.mg X.base k y f) (hr : Room k X.A) (ha : QA X (e :: es') ts) (hN : X.N[i]? = some x := by rfl) (hv : Vis X.env.scope x := by first | exact Or.inl rfl | exact Or.inr (Or.inl rfl) | exact Or.inr (Or.inr rfl)) (hd : (x == ("__debug__" : Str)) = false := by decide)
    (hcd : (x == ("__classdict__" : Str)) = false := by decide)
    (he : starEach (e :: es') X.env = (false, eval e X.env) :: starEach es' X.env := by exact star_of rfl) (hpl : (backTo pos (starEach es' X.env)).any (·.1) = false := by rfl) : QE X (.Call (.Name x p) (e :: es') [] pos) (cCallNm i y f ts) := by
  refine ⟨fun B σ F H env Q rp hq pins s I => ?_⟩
  obtain ⟨hi, hq⟩ := hq
  obtain ⟨fa, fd, ps, G, hm, hk, hb⟩ := h.ex
  obtain ⟨v, hv', hdn⟩ := rp.dv i _ hi
  simp only [Den] at hdn
  obtain ⟨a, rfl, hP⟩ := hdn
  have ea : a = fa := by
    have := PySem.W.mg_of I.ok.mod.kin I.ok.mod.glob (hP F (Same.refl _))
    rw [hm] at this
    cases this; rfl
  subst ea
  refine wpAny_Call_Name_kw (thn (pe_var (pos := p) hN hv hd hcd pins s σ H (fun v H' => v = .ref a ∧ H' = H) I ⟨.ref a, hv', rfl, rfl⟩) fun u s1 hq0 => ?_)
  obtain ⟨v, H1, I1, r, ev, eH⟩ := hq0
  subst ev
  subst eH
  obtain rfl : u = Value.ref a := r
  refine PySem.W.callWith_K (h₀ := X.base) I1.ok.mod.kin hk (thn (pa_w pos pins s1 σ H1 (fun vs H2 => ∃ F1 ds, Rep X.K B F1 H2 σ env ∧ Same F F1 ∧ DenL X.K F1 ds vs ∧ f ds Q) I1 (wA_mono (ha B σ F H1 env _ rp hq) fun vs H2 ⟨F1, ds, r1, s1, d1, hf⟩ => ⟨F1, ds, r1, s1, d1, hf⟩)) fun us s2 ⟨vs, H2, I2, rv, F1, ds, r1, sF, d1, hf⟩ => ⟨I2.kIn, ?_⟩) he hpl
  refine run_fn (dvs := []) (ds := []) G hr hb .nil pass0 I2 rv ?_
  rw [List.append_nil]
  exact ⟨F1, ds, Q, r1.fh, d1, hf, fun d v F' H' a b c n hd q => ⟨F', d, r1.ext a c b n, sF.trans a, hd, q⟩⟩
end
end L2.L3
set_option Elab.async false
set_option linter.all false
set_option maxRecDepth 100000
set_option maxHeartbeats 4000000
namespace L2.L3
open PySem PySem.Spec PyProof.Rows
def dTryIf (i : Nat) (cls : Str) (tx : TV) (tb : TS3) : TS3 := fun D env => tx env (fun d => d = .non ∧ D.nx env) fun x => (∃ ns ds, x = excD cls ns ds) ∧ tb { nx := fun _ => False, rt := D.rt } (env.set i (some (.d x)))
section
variable {X : Cx} {e c : Expr} {tx : TV} {cls n : Str} {C fI : Addr} {np epos hpos pos pif pcmp pn : Pos} {jn : _} {b0 : Stmt} {body : List Stmt} {tb : TS3}
theorem qs_tryIf (i : Nat) (hN : X.N.Nodup) (hst : X.stack = X.env :: X.outer) (hf : X.env.frame = some X.env.locals) (ac : PySem.W.nsIn X.K mainGlobals cls = some (some (.ref C))) (xi : excInI X.K C fI = true)
    (h : QXV X e tx) (hb : ∀ x, QSs (Cx.hand X x) (b0 :: body) tb) (hg : Gl X cls := by rfl) (hdb : (cls == ("__debug__" : Str)) = false := by decide) (hi : X.N[i]? = some n := by rfl)
    (hx : X.env.scope.names.lookup n = some .local := by rfl) :
    QS X (.Try [.If (.Compare e [.IsNot] [.Constant .none jn pn] pcmp) [.Return (some c) epos] [] pif] [.ExceptHandler (some (.Name cls np)) (some n) (b0 :: body) hpos] [] [] pos) (dTryIf i cls tx tb) := by
  refine ⟨fun B σ F H env D rp ht pins s I => ?_⟩
  have hcls : (X.env.scope.kind == .class || (X.env.scope.kind == .module && X.env.locals != X.env.globals)) = false := by rw [I.ok.kind]; rfl
  have hmg : X.mg cls = some (.ref C) := PySem.W.mg_of I.ok.mod.kin I.ok.mod.glob ac
  have core := h.run B σ F H env _ _ rp ht pins s I
  refine wpAny_Try_except (wpAny_execs_cons (wpAny_If (wpAny_isTrue_Compare1 (wpAny_mono core (fun v s1 ⟨x, H1, I1, r1, F1, d1, rp1, _, hd1, e1, q1⟩ => ?_) fun ex s1 z => ?_) (nomark _))))
  · subst e1
    simp only [Den] at hd1
    subst hd1
    cases r1
    refine Constant_none (isnot_none_gen (wpAny_truthy_bool ?_))
    show wpAny _ _ (execs [] X.env) _ _ s1
    refine wpAny_execs_nil (wpAny_execs_nil (wpAny_execs_nil ?_))
    exact ⟨σ, H1, I1, F1, env, rp1, q1⟩
  · obtain ⟨a, c', C', dx, H1, F1, ns, ds, vs, rfl, th, r1, hce, hdx, hdl, hlen, ⟨ns', ds', hxe⟩, hq1⟩ := z
    have fa : F1 a = none := r1.fnone th.caughtD.1
    have nda : dx ≠ a := fun z => by subst z; rw [fa] at hdx; cases hdx
    have hCC : C' = C := by
      obtain ⟨na, I0⟩ := th.caughtD
      obtain ⟨rp0, sm0⟩ := r1.laid (o := .ext (excAtD a C' dx)) na
      have hden : Den X.K (upd F1 a (.ext (excAtD a C' dx))) (excD c' ns ds) (.ref a) := den_excD hce upd_same (by rw [upd_ne nda]; exact hdx) (DenL.mono sm0 _ _ hdl) hlen
      rw [hxe] at hden
      obtain ⟨a', C2, dx2, us, ea, e2, e3, _⟩ := excD_den hden
      cases ea
      rw [ac] at e2
      cases e2
      rw [upd_same] at e3
      injection e3 with e3
      injection e3 with e3
      have hh : excAtD a C' dx s1.heap := by
        obtain ⟨_, _, _, _, _, _, _, _, _, oe, fs, h1, h2, h3, h4, _⟩ := th
        exact ⟨oe, fs, h1, h2, h3, h4⟩
      have hh2 : excAtD a C dx2 s1.heap := e3 ▸ hh
      obtain ⟨o1, _, g1, g2, _⟩ := hh
      obtain ⟨o2, _, g3, g4, _⟩ := hh2
      rw [g1] at g3
      cases g3
      rw [g2] at g4
      cases g4
      rfl
    subst hCC
    refine th.note hst hf fun s2 th2 => ?_
    have I2 := Inv.hand th2.inv a
    refine wpAny_handleBy_cons (codeAny_handlers_test (ld_glob (X := Cx.hand X a) I2 hg hmg ?_ hdb)) (by intro q; cases q)
    obtain ⟨bm, N, nm, qn, bs, hdct, sn, sub, ab, col, dd, k0, k1, k2, k3, k5, mN, cd, hC, hNs, hni, TL, _⟩ := xi_obj I.ok.mod.kin xi
    have flc : ∃ ob, s2.heap.get? a = some ob ∧ ob.cls = .ref C' := by
      obtain ⟨_, _, _, _, _, _, _, _, _, oe, vs, he, hc, _⟩ := th2
      exact ⟨oe, he, hc⟩
    obtain ⟨ob, hob, hobc⟩ := flc
    obtain ⟨h2, g2, d2, t2, o2⟩ := s2
    refine wpAny_excMatches_sub_self (I2.bk _ _ hC) hob hobc (TL.hasType (by decide +kernel)) (codeAny_handlers_suite_as ?_)
    refine ThrownD.land th2 fun s3 th3 => ?_
    obtain ⟨na, I3⟩ := th3.caughtD
    obtain ⟨rp3, sm⟩ := r1.laid (o := .ext (excAtD a C' dx)) na
    refine store_ok (X := Cx.hand X a) (i := i) (v := .ref a) (Inv.hand I3 a) hN hi (.inl hx) rfl (fun s4 I4 => ?_) (.inr hx)
    have hden : Den X.K (upd F1 a (.ext (excAtD a C' dx))) (excD c' ns ds) (.ref a) := den_excD hce upd_same (by rw [upd_ne nda]; exact hdx) (DenL.mono sm _ _ hdl) hlen
    have run := (hb a).run B _ _ _ _ { nx := fun _ => False, rt := D.rt } (rp3.set hden (by rw [I3.len]; exact (List.getElem?_eq_some_iff.mp hi).1)) hq1 pins s4 I4
    refine wpAny_mono run (fun f s5 z => ?_) fun _ _ z => False.elim z
    cases f with
    | next => obtain ⟨σ', H', _, F', env', _, q⟩ := z; exact q.elim
    | brk => obtain ⟨σ', H', _, F', env', _, q⟩ := z; exact q.elim
    | cont => obtain ⟨σ', H', _, F', env', _, q⟩ := z; exact q.elim
    | ret u =>
      obtain ⟨v, σ', H', I5, rv, q⟩ := z
      have I5' := Inv.unhand I.ok I5
      obtain ⟨m, hn, _⟩ := I5'.loc
      refine wpAny_nameGoes (show X.env.kindOf n = some .local from hx) hn hcls fun h' m' hn' hs' => ?_
      exact ⟨v, _, H', Inv.goes I5' hn' hs', rv, q⟩
end
section
variable {P : Program} {w : World} {K : PySem.W.Frag} {mg : Str → Option Value} {base : Heap} {x : Str} {st : Stmt} {N ps : List Str} {k : Nat} {fv : FwV}
theorem Df.knownV (F : Df K mg x st ps) (S : FnScope N ps (defScope st)) (hl : ∀ ds Q R, fv ds Q R → ds.length = ps.length)
    (hbody : ∀ (fa : Addr) (cdv : Value) (A : Around) (outer : List Env) (s : Shared) (H : Hp) (E : XK), Room k (A.deeper (envOfC x (defScope st) s.heap.objs.size fa cdv)) →
      ∃ t, QVs (cxOf (CXe P w) P w K mg base N x (defScope st) fa cdv A outer s H E) (defBody st) t ∧ ∀ ds (Q R : D → Prop), fv ds Q R → t { nx := fun _ => Q .non, rt := Q, xc := R } (start3 N ds)) : KnownV P w K mg base (k + 1) x fv :=
  let ⟨fa, _, F, m, b⟩ := F.ex; Fun.knownV F S m b hl (hbody fa)
end
end L2.L3
set_option Elab.async false
set_option linter.all false
set_option maxRecDepth 100000
set_option maxHeartbeats 4000000
namespace L2.L3
open PySem PySem.Spec PyProof.Rows
def dTryE (cls : Str) (tx : TV) (tb : TS3) : TS3 := fun D env => tx env (fun _ => D.nx env) fun x => (∃ ns ds, x = excD cls ns ds) ∧ tb { nx := fun _ => False, rt := D.rt } env
section
variable {X : Cx} {e : Expr} {tx : TV} {cls : Str} {C fI : Addr} {np epos hpos pos : Pos} {b0 : Stmt} {body : List Stmt} {tb : TS3}
theorem qs_tryE (hst : X.stack = X.env :: X.outer) (hf : X.env.frame = some X.env.locals) (ac : PySem.W.nsIn X.K mainGlobals cls = some (some (.ref C))) (xi : excInI X.K C fI = true)
    (h : QXV X e tx) (hb : ∀ x, QSs (Cx.hand X x) (b0 :: body) tb) (hg : Gl X cls := by rfl) (hdb : (cls == ("__debug__" : Str)) = false := by decide) (hs : swapsWith e none epos.line X.env = pure false := by rfl) :
    QS X (.Try [.Expr e epos] [.ExceptHandler (some (.Name cls np)) none (b0 :: body) hpos] [] [] pos) (dTryE cls tx tb) := by
  refine ⟨fun B σ F H env D rp ht pins s I => ?_⟩
  have hmg : X.mg cls = some (.ref C) := PySem.W.mg_of I.ok.mod.kin I.ok.mod.glob ac
  have core := h.run B σ F H env _ _ rp ht pins s I
  refine wpAny_Try_except (wpAny_execs_cons (wpAny_Expr_any (wpAny_mono core (fun v s1 ⟨x, H1, I1, r1, F1, d1, rp1, _, hd1, q1⟩ => ?_) fun ex s1 z => ?_) I.quiet hs))
  · refine wpAny_execs_nil (wpAny_execs_nil ?_)
    exact ⟨σ, H1, I1, F1, env, rp1, q1⟩
  · obtain ⟨a, c', C', dx, H1, F1, ns, ds, vs, rfl, th, r1, hce, hdx, hdl, hlen, ⟨ns', ds', hxe⟩, hq1⟩ := z
    have fa : F1 a = none := r1.fnone th.caughtD.1
    have nda : dx ≠ a := fun z => by subst z; rw [fa] at hdx; cases hdx
    have hCC : C' = C := by
      obtain ⟨na, I0⟩ := th.caughtD
      obtain ⟨rp0, sm0⟩ := r1.laid (o := .ext (excAtD a C' dx)) na
      have hden : Den X.K (upd F1 a (.ext (excAtD a C' dx))) (excD c' ns ds) (.ref a) := den_excD hce upd_same (by rw [upd_ne nda]; exact hdx) (DenL.mono sm0 _ _ hdl) hlen
      rw [hxe] at hden
      obtain ⟨a', C2, dx2, us, ea, e2, e3, _⟩ := excD_den hden
      cases ea
      rw [ac] at e2
      cases e2
      rw [upd_same] at e3
      injection e3 with e3
      injection e3 with e3
      have hh : excAtD a C' dx s1.heap := by
        obtain ⟨_, _, _, _, _, _, _, _, _, oe, fs, h1, h2, h3, h4, _⟩ := th
        exact ⟨oe, fs, h1, h2, h3, h4⟩
      have hh2 : excAtD a C dx2 s1.heap := e3 ▸ hh
      obtain ⟨o1, _, g1, g2, _⟩ := hh
      obtain ⟨o2, _, g3, g4, _⟩ := hh2
      rw [g1] at g3
      cases g3
      rw [g2] at g4
      cases g4
      rfl
    subst hCC
    refine th.note hst hf fun s2 th2 => ?_
    have I2 := Inv.hand th2.inv a
    refine wpAny_handleBy_cons (codeAny_handlers_test (ld_glob (X := Cx.hand X a) I2 hg hmg ?_ hdb)) (by intro q; cases q)
    obtain ⟨bm, N, nm, qn, bs, hdct, sn, sub, ab, col, dd, k0, k1, k2, k3, k5, mN, cd, hC, hNs, hni, TL, _⟩ := xi_obj I.ok.mod.kin xi
    have flc : ∃ ob, s2.heap.get? a = some ob ∧ ob.cls = .ref C' := by
      obtain ⟨_, _, _, _, _, _, _, _, _, oe, vs, he, hc, _⟩ := th2
      exact ⟨oe, he, hc⟩
    obtain ⟨ob, hob, hobc⟩ := flc
    obtain ⟨h2, g2, d2, t2, o2⟩ := s2
    refine wpAny_excMatches_sub_self (I2.bk _ _ hC) hob hobc (TL.hasType (by decide +kernel)) (codeAny_handlers_suite ?_)
    refine ThrownD.land th2 fun s3 th3 => ?_
    obtain ⟨na, I3⟩ := th3.caughtD
    obtain ⟨rp3, sm⟩ := r1.laid (o := .ext (excAtD a C' dx)) na
    have run := (hb a).run B _ _ _ _ { nx := fun _ => False, rt := D.rt } rp3 hq1 pins s3 (Inv.hand I3 a)
    refine wpAny_mono run (fun f s5 z => ?_) fun _ _ z => False.elim z
    cases f with
    | next => obtain ⟨σ', H', _, F', env', _, q⟩ := z; exact q.elim
    | brk => obtain ⟨σ', H', _, F', env', _, q⟩ := z; exact q.elim
    | cont => obtain ⟨σ', H', _, F', env', _, q⟩ := z; exact q.elim
    | ret u =>
      obtain ⟨v, σ', H', I5, rv, q⟩ := z
      exact ⟨v, _, H', Inv.unhand I.ok I5, rv, q⟩
end
end L2.L3
set_option Elab.async false
set_option linter.all false
set_option maxRecDepth 100000
set_option maxHeartbeats 8000000
namespace KR
open PySem L2 L2.L3
def Dg (l : List D) : Prop := ∃ ns : List Int, l = ns.map D.int ∧ ∀ n ∈ ns, 0 ≤ n ∧ n < 41
theorem snoc_of {α : Type} : ∀ (l : List α), l ≠ [] → ∃ a x, l = a ++ [x]
  | [x], _ => ⟨[], x, rfl⟩
  | x :: y :: r, _ => by
    obtain ⟨a, z, e⟩ := snoc_of (y :: r) (by simp)
    exact ⟨x :: a, z, by rw [e]; rfl⟩
theorem Dg.pop {l : List D} (h : Dg l) (hl : 0 < l.length) : ∃ (l1 : List D) (n : Int), l = l1 ++ [.int n] ∧ Dg l1 ∧ 0 ≤ n ∧ n < 41 ∧ l.length = l1.length + 1 := by
  obtain ⟨ns, rfl, hn⟩ := h
  obtain ⟨a, n, rfl⟩ := snoc_of ns (fun e => by rw [e] at hl; simp at hl)
  exact ⟨a.map D.int, n, by simp, ⟨a, rfl, fun m hm => hn m (by simp [hm])⟩, (hn n (by simp)).1, (hn n (by simp)).2, by simp⟩
structure TH (n : Nat) (x : D) : Prop where
  pl : Pl x
  dp : dep x ≤ n + 1
  el : ∀ xs, x = .tup xs ∨ x = .lst xs → xs.length ≤ 3 ∧ ∀ y ∈ xs, Pl y
def cst : Nat → Nat
  | 0 => 2
  | n + 1 => 2 + 3 * cst n
theorem cst2 (n : Nat) : 2 ≤ cst n := by cases n <;> simp [cst] <;> omega
def flT (d : Nat) : FwL := fun ds l R => ds = [.int (d : Int)] ∧ Dg l ∧ cst d ≤ l.length ∧ ∀ l' x, Dg l' → l.length ≤ l'.length + cst d → TH d x → R l' x
def fl_law_thing_no : FwL := fun _ _ _ => False
def fl_law_thing_0 : FwL := flT 0
def fl_law_thing_1 : FwL := flT 1
def fl_law_thing_2 : FwL := flT 2
def fl_law_thing_3 : FwL := flT 3
def fl_law_thing_4 : FwL := flT 4
theorem lenl_law_thing_no : ∀ ds l R, fl_law_thing_no ds l R → ds.length + 1 = 2 := fun _ _ _ h => h.elim
theorem lenl {d : Nat} : ∀ ds l R, flT d ds l R → ds.length + 1 = 2 := by rintro ds l R ⟨rfl, _⟩; rfl
theorem lenl_law_thing_0 : ∀ ds l R, fl_law_thing_0 ds l R → ds.length + 1 = 2 := lenl
theorem lenl_law_thing_1 : ∀ ds l R, fl_law_thing_1 ds l R → ds.length + 1 = 2 := lenl
theorem lenl_law_thing_2 : ∀ ds l R, fl_law_thing_2 ds l R → ds.length + 1 = 2 := lenl
theorem lenl_law_thing_3 : ∀ ds l R, fl_law_thing_3 ds l R → ds.length + 1 = 2 := lenl
theorem lenl_law_thing_4 : ∀ ds l R, fl_law_thing_4 ds l R → ds.length + 1 = 2 := lenl
theorem th_atom {n : Nat} {x : D} (h1 : Pl x) (h2 : dep x ≤ 1) (h3 : ∀ xs, x = .tup xs ∨ x = .lst xs → xs = []) : TH n x := ⟨h1, by omega, fun xs e => by rw [h3 xs e]; simp⟩
theorem th_ix {n : Nat} {xs : List D} {i : Int} {Q : D → Prop} (h0 : 0 ≤ i) (h1 : i < xs.length) (hx : ∀ x ∈ xs, TH n x) (hq : ∀ x, TH n x → Q x) : ixD (.lst xs) (.int i) Q := by
  have hl : i.toNat < xs.length := by omega
  refine ⟨xs[i.toNat], ?_, hq _ (hx _ (List.getElem_mem hl))⟩
  unfold atI ixN
  rw [if_pos h0, if_pos h1]
  simp [hl]
theorem depL_le {n : Nat} : ∀ ys : List D, (∀ y ∈ ys, dep y ≤ n) → depL ys ≤ n
  | [], _ => by simp [depL]
  | y :: r, h => by
    have h1 := h y (by simp)
    have h2 := depL_le r fun z hz => h z (by simp [hz])
    simp only [depL]; omega
def tl_law_thing (A : Addr) (fr : FwL) : TSG (List D) := (gSeq (gSetE 2 (eOpG modD (ePopL 0 A) (eUp (cC (.int 9))))) (gSeq (gIf (cOr (cTest (cOp eqF (cVar 2) (cC (.int 0)))) (cTest (cOp eqF (cVar 1) (cC (.int 0))))) (gRetE (eOpG ixD (eUp (cLst (cCons (cC .non) (cCons (cC (.bl true)) (cCons (cC (.bl false)) (cCons (cC (.int 0)) (cCons (cC (.int 1)) (cCons (cUn negD (cC (.int 5))) (cCons (cOp powD (cC (.int 10)) (cC (.int 11))) (cCons (cC (.str "")) (cCons (cC (.str "in")) (cCons (cC (.str "half")) (cCons (cC (.str "s")) (cCons (cTup cNil) (cCons (cLst cNil) cNil))))))))))))))) (eOpG modD (ePopL 0 A) (eUp (cC (.int 13)))))) (gUp dNext)) (gSeq (gIf (cTest (cOp ltD (cVar 2) (cC (.int 3)))) (gRetE (eOpG subD (ePopL 0 A) (eUp (cC (.int 20))))) (gUp dNext)) (gSeq (gIf (cTest (cOp ltD (cVar 2) (cC (.int 5)))) (gRetE (eOpG ixD (eUp (cLst (cCons (cC (.str "in")) (cCons (cC (.str "out")) (cCons (cC (.str "same")) (cCons (cC (.str "leaver")) (cCons (cC (.str "third")) (cCons (cC (.str "1/0")) cNil)))))))) (eOpG modD (ePopL 0 A) (eUp (cC (.int 6)))))) (gUp dNext)) (gSeq (gUp (dSetOwn 3 (cFew cNil))) (gSeq (gForRE (eOpG modD (ePopL 0 A) (eUp (cC (.int 4)))) (kName 4) (gAppE 3 (eCallL 0 A fr (cCons (cOp subD (cVar 1) (cC (.int 1))) cNil)))) (gUp (dFreeze 3 (dRet (cOp ixD (cLst (cCons (cVar 3) (cCons (cCall tupleF (cCons (cVar 3) cNil)) cNil))) (cOp modD (cVar 2) (cC (.int 2)))))))))))))
theorem thing_ob (d : Nat) (A : Addr) (fr : FwL) (hfr : d = 0 ∨ ∃ e, d = e + 1 ∧ fr = flT e) : ∀ ds l R, flT d ds l R → tl_law_thing A fr { nx := fun l' _ => R l' .non, rt := R } l (start3 ["_law_digits_here", "_law_deep", "_law_way", "_law_inner", "_law_k"] (.obj (AtN A) :: ds)) := by
  rintro ds l R ⟨rfl, hD, hl, h⟩
  have sz := PySem.sizeLine_eq
  have c2 := cst2 d
  obtain ⟨l1, n1, rfl, hD1, n10, n11, e1⟩ := hD.pop (by omega)
  simp_arith only [tl_law_thing, gSeq, gSetE, eOpG, ePopL, eUp]
  refine ⟨_, _, rfl, ?_⟩
  simp_arith only [and_true]
  refine ⟨by (first | exact divL _ (by decide) | exact powL _ _ (by decide) | exact modL _ (by first | decide | omega) | exact mul_ok_l (by decide) (by decide) | exact mul_ok_r (by decide) (by decide) | omega | decide), ?_⟩
  have w := fmod_range (a := n1) (b := 9) (by decide)
  generalize n1.fmod 9 = w1 at w ⊢
  obtain ⟨w0, w9⟩ := w
  have hl1 : cst d ≤ l1.length + 1 := by rw [← e1]; exact hl
  obtain ⟨l2, n2, rfl, hD2, n20, n21, e2⟩ := hD1.pop (by omega)
  have h2 : ∀ x, TH d x → R l2 x := fun x hx => h l2 x hD2 (by rw [e1, e2]; omega) hx
  simp_arith only [gIf, gRetE, eOpG, ePopL, eUp, gUp, EndsG.at]
  have f13 := fmod_range (a := n2) (b := 13) (by decide)
  have f6 := fmod_range (a := n2) (b := 6) (by decide)
  have f4 := fmod_range (a := n2) (b := 4) (by decide)
  have first : CPow 10 11 ∧ ∃ xs d_1, l2 ++ [D.int n2] = xs ++ [d_1] ∧ modD d_1 (D.int 13) fun y => ixD (D.lst [D.non, D.bl true, D.bl false, D.int 0, D.int 1, D.int (-5), D.int 100000000000, D.str (Str.ofString ""), D.str (Str.ofString "in"), D.str (Str.ofString "half"), D.str (Str.ofString "s"), D.tup [], D.lst []]) y (R xs) := by
    refine ⟨by (first | exact divL _ (by decide) | exact powL _ _ (by decide) | exact modL _ (by first | decide | omega) | exact mul_ok_l (by decide) (by decide) | exact mul_ok_r (by decide) (by decide) | omega | decide), l2, _, rfl, by (first | exact divL _ (by decide) | exact powL _ _ (by decide) | exact modL _ (by first | decide | omega) | exact mul_ok_l (by decide) (by decide) | exact mul_ok_r (by decide) (by decide) | omega | decide), ?_⟩
    refine th_ix (n := d) f13.1 (by simpa using f13.2) (fun x hx => ?_) h2
    simp only [List.mem_cons, List.not_mem_nil, or_false] at hx
    rcases hx with rfl | rfl | rfl | rfl | rfl | rfl | rfl | rfl | rfl | rfl | rfl | rfl | rfl <;> exact th_atom (by simp [Pl, kdD]) (by simp [dep, depL]) (by simp)
  by_cases c0 : w1 = 0
  · rw [if_pos c0]; exact first
  · rw [if_neg c0]
    by_cases cd : (d : Int) = 0
    · rw [if_pos cd]; exact first
    · rw [if_neg cd]
      by_cases c3 : w1 < 3
      · rw [if_pos c3]
        refine ⟨l2, _, rfl, ?_⟩
        simp_arith only [and_true]
        exact h2 (.int (n2 - 20)) (th_atom (by simp [Pl, kdD]) (by simp [dep]) (by simp))
      · rw [if_neg c3]
        by_cases c5 : w1 < 5
        · rw [if_pos c5]
          refine ⟨l2, _, rfl, by (first | exact divL _ (by decide) | exact powL _ _ (by decide) | exact modL _ (by first | decide | omega) | exact mul_ok_l (by decide) (by decide) | exact mul_ok_r (by decide) (by decide) | omega | decide), ?_⟩
          refine th_ix (n := d) f6.1 (by simpa using f6.2) (fun x hx => ?_) h2
          simp only [List.mem_cons, List.not_mem_nil, or_false] at hx
          rcases hx with rfl | rfl | rfl | rfl | rfl | rfl <;> exact th_atom (by simp [Pl, kdD]) (by simp [dep, depL]) (by simp)
        · rw [if_neg c5]
          obtain ⟨e, rfl, rfl⟩ : ∃ e, d = e + 1 ∧ fr = flT e := hfr.resolve_left (by omega)
          have hce : cst (e + 1) = 2 + 3 * cst e := rfl
          simp_arith only [gForRE, eOpG, ePopL, eUp]
          refine ⟨l2, _, rfl, by (first | exact divL _ (by decide) | exact powL _ _ (by decide) | exact modL _ (by first | decide | omega) | exact mul_ok_l (by decide) (by decide) | exact mul_ok_r (by decide) (by decide) | omega | decide), ?_⟩
          simp_arith only [and_true]
          refine ⟨by omega, by omega, ?_⟩
          have ln : (n2.fmod 4).toNat ≤ 3 := by omega
          refine gturns_of (fun i l env => i ≤ 3 ∧ ∃ (ys : List D) (k4 : Option Lo), env = [some (.d (.obj (AtN A))), some (.d (.int ((e + 1 : Nat) : Int))), some (.d (.int w1)), some (.own ys), k4] ∧ Dg l ∧ l2.length ≤ l.length + i * cst e ∧ ys.length = i ∧ ∀ y ∈ ys, TH e y) ?_ ?_ ⟨by omega, [], none, rfl, hD2, by simp, rfl, fun y hy => (nomatch hy)⟩
          · rintro i x l env N hx ⟨i3, ys, k4, rfl, hDl, hll, yl, hy⟩ hN
            have hi := (List.getElem?_eq_some_iff.mp hx).1
            simp [intsD] at hi
            have hi3 : i < 3 := by omega
            simp_arith only [gAppE, eCallL]
            have hm : i * cst e ≤ 2 * cst e := Nat.mul_le_mul_right _ (by omega)
            refine ⟨by simp, hDl, by rw [e1, e2] at hl; omega, fun l' x hD' hl' hx => ?_⟩
            refine ⟨by omega, hN _ _ ⟨by omega, ys ++ [x], _, rfl, hD', ?_, by simp [yl], fun y hy' => ?_⟩⟩
            · rw [Nat.add_mul]; omega
            · rcases List.mem_append.mp hy' with z | z
              · exact hy y z
              · rw [List.mem_singleton.mp z]; exact hx
          · rintro l env ⟨i3, ys, k4, rfl, hDl, hll, yl, hy⟩
            simp_arith only [gUp, EndsG.at]
            have f2 := fmod_range (a := w1) (b := 2) (by decide)
            refine ⟨by (first | exact divL _ (by decide) | exact powL _ _ (by decide) | exact modL _ (by first | decide | omega) | exact mul_ok_l (by decide) (by decide) | exact mul_ok_r (by decide) (by decide) | omega | decide), ?_⟩
            have yl3 : ys.length ≤ 3 := by omega
            have hm : (intsD 0 (n2.fmod 4).toNat).length * cst e ≤ 3 * cst e := Nat.mul_le_mul_right _ (by simp [intsD]; omega)
            have dl : depL ys ≤ e + 1 := depL_le ys fun y hy' => (hy y hy').dp
            refine th_ix (n := e + 1) f2.1 (by simpa using f2.2) (fun x hx => ?_) fun x hx => h l x hDl (by rw [e1, e2]; omega) hx
            simp only [List.mem_cons, List.not_mem_nil, or_false] at hx
            rcases hx with rfl | rfl
            · exact ⟨by simp [Pl, kdD], by simp only [dep]; omega, fun xs z => by rcases z with z | z <;> cases z; exact ⟨yl3, fun y hy' => (hy y hy').pl⟩⟩
            · exact ⟨by simp [Pl, kdD], by simp only [dep]; omega, fun xs z => by rcases z with z | z <;> cases z; exact ⟨yl3, fun y hy' => (hy y hy').pl⟩⟩
theorem obl_law_thing_0 : ∀ (A : Addr) ds l R, fl_law_thing_0 ds l R → tl_law_thing A fl_law_thing_no { nx := fun l' _ => R l' .non, rt := R } l (start3 ["_law_digits_here", "_law_deep", "_law_way", "_law_inner", "_law_k"] (.obj (AtN A) :: ds)) := fun A => thing_ob 0 A _ (.inl rfl)
theorem obl_law_thing_1 : ∀ (A : Addr) ds l R, fl_law_thing_1 ds l R → tl_law_thing A fl_law_thing_0 { nx := fun l' _ => R l' .non, rt := R } l (start3 ["_law_digits_here", "_law_deep", "_law_way", "_law_inner", "_law_k"] (.obj (AtN A) :: ds)) := fun A => thing_ob 1 A _ (.inr ⟨0, rfl, rfl⟩)
theorem obl_law_thing_2 : ∀ (A : Addr) ds l R, fl_law_thing_2 ds l R → tl_law_thing A fl_law_thing_1 { nx := fun l' _ => R l' .non, rt := R } l (start3 ["_law_digits_here", "_law_deep", "_law_way", "_law_inner", "_law_k"] (.obj (AtN A) :: ds)) := fun A => thing_ob 2 A _ (.inr ⟨1, rfl, rfl⟩)
theorem obl_law_thing_3 : ∀ (A : Addr) ds l R, fl_law_thing_3 ds l R → tl_law_thing A fl_law_thing_2 { nx := fun l' _ => R l' .non, rt := R } l (start3 ["_law_digits_here", "_law_deep", "_law_way", "_law_inner", "_law_k"] (.obj (AtN A) :: ds)) := fun A => thing_ob 3 A _ (.inr ⟨2, rfl, rfl⟩)
theorem obl_law_thing_4 : ∀ (A : Addr) ds l R, fl_law_thing_4 ds l R → tl_law_thing A fl_law_thing_3 { nx := fun l' _ => R l' .non, rt := R } l (start3 ["_law_digits_here", "_law_deep", "_law_way", "_law_inner", "_law_k"] (.obj (AtN A) :: ds)) := fun A => thing_ob 4 A _ (.inr ⟨3, rfl, rfl⟩)
end KR
set_option Elab.async false
set_option linter.all false
set_option maxRecDepth 100000
set_option maxHeartbeats 8000000
namespace KR
open PySem L2 L2.L3
def tn_law_digits : TS3 := (dSeqN (dSetOwn 3 (cFew cNil)) (dSeqN (dForR rng1 (cCons (cVar 2) cNil) (kName 4) (dSeq (dAppend 3 (cOp modD (cVar 0) (cVar 1))) (dSet 0 (cOp fdivD (cVar 0) (cVar 1))))) (dRetOwn 3)))
theorem len_law_digits : ∀ ds Q, f_law_digits ds Q → ds.length = 3 := lenF3
theorem obn_law_digits : ∀ ds (Q : D → Prop), f_law_digits ds Q → tn_law_digits { nx := fun _ => False, rt := Q } (start3 ["_law_cell_here", "_law_base", "_law_many", "_law_row_here", "_law_k"] ds) := by
  rintro ds Q ⟨x, y, z, rfl, c, b, m, rfl, rfl, rfl, hb, hbb, hm, h⟩
  simp_all_arith only [tn_law_digits, dSeqN, dRetOwn]
  refine ⟨by omega, by omega, ?_⟩
  refine turns_of (fun i e => ∃ (c' : Int) (xs : List Int) (k : Option Lo), e = [some (.d (.int c')), some (.d (.int b)), some (.d (.int m)), some (.own (xs.map D.int)), k] ∧ xs.length = i ∧ ∀ x ∈ xs, 0 ≤ x ∧ x < b) ?_ ?_ ⟨c, [], none, rfl, rfl, by simp⟩
  · rintro i x env N hx ⟨c', xs, k, rfl, hl, hxs⟩ hN
    have hi : i < m := by have := (List.getElem?_eq_some_iff.mp hx).1; simpa [intsD] using this
    simp_all_arith only [List.length_map]
    refine ⟨by omega, ?_, div_ok hbb (by omega) (by omega), ?_⟩
    · show b ≠ 0; omega
    · refine hN _ ⟨c'.fdiv b, xs ++ [c'.fmod b], some (.d x), by simp, by simp [hl], ?_⟩
      intro y hy
      rcases List.mem_append.mp hy with hy | hy
      · exact hxs y hy
      · rw [List.mem_singleton.mp hy]; exact fmod_range hb
  · rintro env ⟨c', xs, k, rfl, hl, hxs⟩
    exact ⟨_, rfl, h _ ⟨xs, rfl, by simpa [intsD] using hl, hxs⟩⟩
def tn_law_mixed : TS3 := (dSeqN (dSetOwn 3 (cFew cNil)) (dSeqN (dForR rng1 (cCons (cVar 2) cNil) (kName 4) (dSeq (dSet 5 (cOp modD (cOp mulD (cOp addD (cOp addD (cOp addD (cOp modD (cVar 0) (cC (.int 998244353))) (cOp mulD (cOp mulD (cC (.int 31)) (cVar 4)) (cVar 4))) (cOp mulD (cC (.int 1013)) (cVar 4))) (cC (.int 1))) (cC (.int 48271))) (cC (.int 2147483647)))) (dSeq (dSet 6 (cOp modD (cOp mulD (cOp addD (cOp addD (cOp fdivD (cVar 5) (cC (.int 7))) (cOp mulD (cOp modD (cOp fdivD (cVar 0) (cC (.int 1009))) (cC (.int 10007))) (cC (.int 17)))) (cVar 4)) (cC (.int 69621))) (cC (.int 2147483629)))) (dAppend 3 (cOp modD (cOp fdivD (cVar 6) (cC (.int 11))) (cVar 1)))))) (dRetOwn 3)))
theorem len_law_mixed : ∀ ds Q, f_law_mixed ds Q → ds.length = 3 := lenF3
theorem obn_law_mixed : ∀ ds (Q : D → Prop), f_law_mixed ds Q → tn_law_mixed { nx := fun _ => False, rt := Q } (start3 ["_law_cell_here", "_law_base", "_law_many", "_law_row_here", "_law_k", "_law_one", "_law_two"] ds) := by
  rintro ds Q ⟨x, y, z, rfl, c, b, m, rfl, rfl, rfl, hb, hbb, hm, h⟩
  simp_all_arith only [tn_law_mixed, dSeqN, dRetOwn]
  refine ⟨by omega, by omega, ?_⟩
  refine turns_of (fun i e => ∃ (xs : List Int) (k1 k2 k3 : Option Lo), e = [some (.d (.int c)), some (.d (.int b)), some (.d (.int m)), some (.own (xs.map D.int)), k1, k2, k3] ∧ xs.length = i ∧ ∀ x ∈ xs, 0 ≤ x ∧ x < b) ?_ ?_ ⟨[], none, none, none, rfl, rfl, by simp⟩
  · rintro i x env N hx ⟨xs, k1, k2, k3, rfl, hl, hxs⟩ hN
    have hi : i < m := by have := (List.getElem?_eq_some_iff.mp hx).1; simpa [intsD] using this
    have hxe : x = .int (i : Int) := by
      have : (intsD 0 m)[i]? = some (.int (0 + (i : Int))) := by simp [intsD, hi]
      rw [show ((m : Int).toNat) = m by omega] at hx
      rw [this] at hx; cases hx; simp
    subst hxe
    have r1 := fmod_range (a := c) (b := 998244353) (by decide)
    have r2 := fmod_range (a := c.fdiv 1009) (b := 10007) (by decide)
    simp_all_arith only [List.length_map, ModOk]
    and_intros
    all_goals first
      | decide
      | omega
      | exact mul_ok_l (by decide) (by decide)
      | exact mul_ok_r (by decide) (by decide)
      | exact mul_ok_r (by omega) (by omega)
      | skip
    refine hN _ ⟨xs ++ [_], _, _, _, by rw [List.map_append]; rfl, by simp [hl], ?_⟩
    intro y hy
    rcases List.mem_append.mp hy with hy | hy
    · exact hxs y hy
    · rw [List.mem_singleton.mp hy]; exact fmod_range hb
  · rintro env ⟨xs, k1, k2, k3, rfl, hl, hxs⟩
    exact ⟨_, rfl, h _ ⟨xs, rfl, by simpa [intsD] using hl, hxs⟩⟩
def tn_law_row : TS3 := (dIfRetF (cTest (cOp geD (cCall absF (cCons (cVar 0) cNil)) (cOp powD (cC (.int 10)) (cC (.int 18))))) (cCallN f_law_digits (cCons (cVar 0) (cCons (cVar 1) (cCons (cVar 2) cNil)))) (dRetF (cCallN f_law_mixed (cCons (cVar 0) (cCons (cVar 1) (cCons (cVar 2) cNil))))))
theorem len_law_row : ∀ ds Q, f_law_row ds Q → ds.length = 3 := lenF3
theorem obn_law_row : ∀ ds (Q : D → Prop), f_law_row ds Q → tn_law_row { nx := fun _ => False, rt := Q } (start3 ["_law_cell_here", "_law_base", "_law_many"] ds) := by
  rintro ds Q ⟨x, y, z, rfl, c, b, m, rfl, rfl, rfl, hb, hbb, hm, h⟩
  simp_all_arith only [tn_law_row, dIfRetF, dRetF, cCallN, f_law_digits, f_law_mixed, F3_eq]
  refine ⟨by (first | exact divL _ (by decide) | exact powL _ _ (by decide) | exact modL _ (by first | decide | omega) | exact mul_ok_l (by decide) (by decide) | exact mul_ok_r (by decide) (by decide) | omega | decide), ?_⟩
  have h' : ∀ d, Digs m b d → ∃ xs, d = .lst xs ∧ Q (.lst xs) := fun d hd => by
    have q := h d hd
    obtain ⟨xs, rfl, _⟩ := hd
    exact ⟨_, rfl, q⟩
  split <;> exact ⟨c, b, m, rfl, rfl, rfl, hb, hbb, hm, h'⟩
def NT (x : D) : Prop := Pl x ∧ isTup x = false
def pNo2 (x : D) (Q : D → Prop) : Prop := NT x ∧ Q (.bl false)
def f_are_two_tuples : Fw := F1 pNo2
def t_are_two_tuples : TS3 := (dSeq (dIf (cOr (cNot (cTest (cIsi "tuple" (cVar 0)))) (cTest (cOp neF (cCall lenF (cCons (cVar 0) cNil)) (cC (.int 2))))) (dRet (cC (.bl false))) dNext) (dRet (cAndV (cIsi "tuple" (cOp ixD (cVar 0) (cC (.int 0)))) (cIsi "tuple" (cOp ixD (cVar 0) (cC (.int 1)))))))
theorem len_are_two_tuples : ∀ ds Q, f_are_two_tuples ds Q → ds.length = 1 := lenF1
theorem ob_are_two_tuples : ∀ ds (Q : D → Prop), f_are_two_tuples ds Q → t_are_two_tuples { nx := fun _ => Q .non, rt := Q } (start3 ["thing"] ds) := by
  rintro ds Q ⟨x, rfl, ⟨hp, ht⟩, h⟩
  simp_arith only [t_are_two_tuples]
  refine isi_tup hp ⟨_, rfl, ?_⟩
  rw [ht, if_pos rfl]
  exact h
def f_is_table : Fw := F1 pNo2
def t_is_table : TS3 := (dSeq (dIf (cNot (cTest (cCall f_are_two_tuples (cCons (cVar 0) cNil)))) (dRet (cC (.bl false))) dNext) dNo)
theorem len_is_table : ∀ ds Q, f_is_table ds Q → ds.length = 1 := lenF1
theorem ob_is_table : ∀ ds (Q : D → Prop), f_is_table ds Q → t_is_table { nx := fun _ => Q .non, rt := Q } (start3 ["thing", "halves", "thirds", "many"] ds) := by
  rintro ds Q ⟨x, rfl, hn, h⟩
  simp_arith only [t_is_table, f_are_two_tuples, F1_eq]
  refine ⟨hn, _, rfl, ?_⟩
  rw [if_pos rfl]
  exact h
def V1 (P : D → (D → Prop) → (D → Prop) → Prop) : FwV := fun ds Q R => ∃ x, ds = [x] ∧ P x Q R
theorem lenV1 {P} : ∀ ds (Q R : D → Prop), V1 P ds Q R → ds.length = 1 := by rintro ds Q R ⟨x, rfl, _⟩; rfl
theorem V1_eq {P} {x : D} {Q R} : V1 P [x] Q R = P x Q R := by
  unfold V1; apply propext; constructor
  · rintro ⟨x', e, h⟩; cases e; exact h
  · intro h; exact ⟨_, rfl, h⟩
def pLook (x : D) (Q R : D → Prop) : Prop := NT x ∧ R (excD "NoFan" ["where", "at"] [.str "fan", .int 0])
def fv_look : FwV := V1 pLook
def tv_look : TS5 := (vSeq (vIf (cNot (cTest (cCall f_are_two_tuples (cCons (cVar 0) cNil)))) (vRaise "NoFan" ["where", "at"] [.int 0] (cCons (cC (.str "fan")) cNil)) (vUp dNext)) (vUp dNo))
theorem lenv_look : ∀ ds (Q R : D → Prop), fv_look ds Q R → ds.length = 1 := lenV1
theorem obv_look : ∀ ds (Q R : D → Prop), fv_look ds Q R → tv_look { nx := fun _ => Q .non, rt := Q, xc := R } (start3 ["thing", "fractions", "marks", "at", "gap"] ds) := by
  rintro ds Q R ⟨x, rfl, hn, h⟩
  simp_all_arith! only [tv_look, f_are_two_tuples, F1_eq]
  refine ⟨hn, _, rfl, ?_⟩
  rw [if_pos rfl]
  exact h
def f_is_fan : Fw := F1 pNo2
def t_is_fan : TS3 := (dSeq (dTryE "NoFan" (cCallV fv_look (cCons (cVar 0) cNil)) (dRet (cC (.bl false)))) (dRet (cC (.bl true))))
theorem len_is_fan : ∀ ds Q, f_is_fan ds Q → ds.length = 1 := lenF1
theorem ob_is_fan : ∀ ds (Q : D → Prop), f_is_fan ds Q → t_is_fan { nx := fun _ => Q .non, rt := Q } (start3 ["thing"] ds) := by
  rintro ds Q ⟨x, rfl, hn, h⟩
  simp_all_arith! only [t_is_fan, dTryE, fv_look, V1_eq]
  exact ⟨hn, ⟨_, _, rfl⟩, h⟩
def p2of3 (x y z : D) (Q : D → Prop) : Prop := NT x ∧ Q (.int 2)
def f_failing_in : Fw := F3 p2of3
def t_failing_in : TS3 := (dSeq (dIf (cNot (cTest (cCall f_is_fan (cCons (cVar 0) cNil)))) (dRet (cC (.int 2))) dNext) dNo)
theorem len_failing_in : ∀ ds Q, f_failing_in ds Q → ds.length = 3 := lenF3
theorem ob_failing_in : ∀ ds (Q : D → Prop), f_failing_in ds Q → t_failing_in { nx := fun _ => Q .non, rt := Q } (start3 ["fan", "one", "glues"] ds) := by
  rintro ds Q ⟨x, y, z, rfl, hn, h⟩
  simp_arith only [t_failing_in, f_is_fan, F1_eq]
  refine ⟨hn, _, rfl, ?_⟩
  rw [if_pos rfl]
  exact h
def f_failing_out : Fw := F3 p2of3
def t_failing_out : TS3 := (dSeq (dIf (cNot (cTest (cCall f_is_table (cCons (cVar 0) cNil)))) (dRet (cC (.int 2))) dNext) dNo)
theorem len_failing_out : ∀ ds Q, f_failing_out ds Q → ds.length = 3 := lenF3
theorem ob_failing_out : ∀ ds (Q : D → Prop), f_failing_out ds Q → t_failing_out { nx := fun _ => Q .non, rt := Q } (start3 ["table", "word", "place"] ds) := by
  rintro ds Q ⟨x, y, z, rfl, hn, h⟩
  simp_arith only [t_failing_out, f_is_table, F1_eq]
  refine ⟨hn, _, rfl, ?_⟩
  rw [if_pos rfl]
  exact h
def f_failing_leaver : Fw := F3 p2of3
def t_failing_leaver : TS3 := (dSeq (dIf (cNot (cTest (cCall f_is_table (cCons (cVar 0) cNil)))) (dRet (cC (.int 2))) dNext) dNo)
theorem len_failing_leaver : ∀ ds Q, f_failing_leaver ds Q → ds.length = 3 := lenF3
theorem ob_failing_leaver : ∀ ds (Q : D → Prop), f_failing_leaver ds Q → t_failing_leaver { nx := fun _ => Q .non, rt := Q } (start3 ["table", "number", "one", "word"] ds) := by
  rintro ds Q ⟨x, y, z, rfl, hn, h⟩
  simp_arith only [t_failing_leaver, f_is_table, F1_eq]
  refine ⟨hn, _, rfl, ?_⟩
  rw [if_pos rfl]
  exact h
def p2of2 (x y : D) (Q : D → Prop) : Prop := NT x ∧ Q (.int 2)
def f_failing_same : Fw := F2 p2of2
def t_failing_same : TS3 := (dSeq (dIf (cNot (cTest (cCall f_is_fan (cCons (cVar 0) cNil)))) (dRet (cC (.int 2))) dNext) dNo)
theorem len_failing_same : ∀ ds Q, f_failing_same ds Q → ds.length = 2 := lenF2
theorem ob_failing_same : ∀ ds (Q : D → Prop), f_failing_same ds Q → t_failing_same { nx := fun _ => Q .non, rt := Q } (start3 ["fan", "table"] ds) := by
  rintro ds Q ⟨x, y, rfl, hn, h⟩
  simp_arith only [t_failing_same, f_is_fan, F1_eq]
  refine ⟨hn, _, rfl, ?_⟩
  rw [if_pos rfl]
  exact h
end KR
set_option Elab.async false
set_option linter.all false
set_option maxRecDepth 100000
set_option maxHeartbeats 8000000
namespace KR
open PySem L2 L2.L3
def four : List Str := ["in", "out", "same", "leaver"]
def FO (x : D) : Prop := Pl x ∧ ∀ xs, x = .tup xs → ∀ y r, xs = y :: r → Pl y ∧ ∀ k, y = .str k → k ∉ four
def FT (x : D) (q : Int) : Prop := ∃ k rest, x = .tup (.str k :: rest) ∧ k ∈ four ∧ (∀ y r, rest = y :: r → NT y) ∧ q = if (k = "same" ∧ rest.length = 2) ∨ (k ≠ "same" ∧ rest.length = 3) then 2 else 1
def FF (x : D) (q : Int) : Prop := (FO x ∧ q = 1) ∨ FT x q
def pFF (x : D) (Q : D → Prop) : Prop := ∃ q, FF x q ∧ Q (.int q)
theorem atI_zero {y : D} {r : List D} : atI (y :: r) 0 = some y := by simp [atI, ixN]
def f_first_failing : Fw := F1 pFF
theorem len34 (n : Nat) : [D.int 3, D.int 4].any (fun e => eqD e (.int (n : Int))) = decide (n = 3 ∨ n = 4) := by
  simp only [List.any_cons, List.any_nil, eqD, Bool.or_false]
  by_cases h3 : n = 3
  · subst h3; rfl
  · by_cases h4 : n = 4
    · subst h4; rfl
    · simp only [h3, h4, or_self, decide_false]
      have a : ¬ ((3 : Int) = (n : Int)) := by omega
      have b : ¬ ((4 : Int) = (n : Int)) := by omega
      simp [a, b]
def t_first_failing : TS3 := (dSeq (dIf (cOr (cNot (cTest (cIsi "tuple" (cVar 0)))) (cOr (cTest (cOp (inLD true) (cCall lenF (cCons (cVar 0) cNil)) (cTup (cCons (cC (.int 3)) (cCons (cC (.int 4)) cNil))))) (cNot (cTest (cIsi "str" (cOp ixD (cVar 0) (cC (.int 0)))))))) (dRet (cC (.int 1))) dNext) (dSeq (dIf (cTest (cOp eqF (cCall lenF (cCons (cVar 0) cNil)) (cC (.int 3)))) (dRet (cIf (cTest (cOp eqF (cOp ixD (cVar 0) (cC (.int 0))) (cC (.str "same")))) (cCall f_failing_same (cCons (cOp ixD (cVar 0) (cC (.int 1))) (cCons (cOp ixD (cVar 0) (cC (.int 2))) cNil))) (cC (.int 1)))) dNext) (dSeq (dIf (cTest (cNinF ["in", "out", "leaver"] (cOp ixD (cVar 0) (cC (.int 0))))) (dRet (cC (.int 1))) dNext) (dSeq (dSet 1 (cOr2 (cIxF "in" "failing_in" (cOp ixD (cVar 0) (cC (.int 0)))) (cOr2 (cIxF "out" "failing_out" (cOp ixD (cVar 0) (cC (.int 0)))) (cIxF "leaver" "failing_leaver" (cOp ixD (cVar 0) (cC (.int 0))))))) (dRet (cOr2 (cCallNm 1 "failing_in" f_failing_in (cCons (cOp ixD (cVar 0) (cC (.int 1))) (cCons (cOp ixD (cVar 0) (cC (.int 2))) (cCons (cOp ixD (cVar 0) (cC (.int 3))) cNil)))) (cOr2 (cCallNm 1 "failing_out" f_failing_out (cCons (cOp ixD (cVar 0) (cC (.int 1))) (cCons (cOp ixD (cVar 0) (cC (.int 2))) (cCons (cOp ixD (cVar 0) (cC (.int 3))) cNil)))) (cCallNm 1 "failing_leaver" f_failing_leaver (cCons (cOp ixD (cVar 0) (cC (.int 1))) (cCons (cOp ixD (cVar 0) (cC (.int 2))) (cCons (cOp ixD (cVar 0) (cC (.int 3))) cNil)))))))))))
theorem len_first_failing : ∀ ds Q, f_first_failing ds Q → ds.length = 1 := lenF1
theorem ob_first_failing : ∀ ds (Q : D → Prop), f_first_failing ds Q → t_first_failing { nx := fun _ => Q .non, rt := Q } (start3 ["thing", "failing"] ds) := by
  rintro ds Q ⟨x, rfl, q, hf, h⟩
  have d0 : depL [D.int 3, D.int 4] ≤ 60 := by simp [depL, dep]
  simp_arith only [t_first_failing, inLD, cNinF, cIxF, cCallNm, cOr2]
  rcases hf with ⟨⟨hp, ho⟩, rfl⟩ | ⟨k, rest, rfl, hk, hn, rfl⟩
  · refine isi_tup hp ⟨_, rfl, ?_⟩
    by_cases ht : isTup x = true
    · rw [ht, if_neg (by decide)]
      obtain ⟨xs, rfl⟩ : ∃ xs, x = .tup xs := by cases x <;> first | exact ⟨_, rfl⟩ | exact absurd ht (by simp [isTup])
      refine ⟨d0, by simp [dep], ?_⟩
      rw [len34]
      by_cases hl : xs.length = 3 ∨ xs.length = 4
      · rw [if_neg (by rw [decide_eq_true hl]; decide)]
        obtain ⟨y, r, rfl⟩ : ∃ y r, xs = y :: r := by
          cases xs with
          | nil => simp at hl
          | cons y r => exact ⟨y, r, rfl⟩
        obtain ⟨py, hy⟩ := ho _ rfl _ _ rfl
        refine ⟨_, atI_zero, isi_str py ⟨_, rfl, ?_⟩⟩
        by_cases hs : isStr y = true
        · rw [hs, if_neg (by decide)]
          obtain ⟨k, rfl⟩ : ∃ k, y = .str k := by cases y <;> first | exact ⟨_, rfl⟩ | exact absurd hs (by simp [isStr])
          have hk := hy _ rfl
          simp only [four, List.mem_cons, List.not_mem_nil, or_false, not_or] at hk
          obtain ⟨k1, k2, k3, k4⟩ := hk
          simp only [lenF, eqF_ii]
          refine ⟨_, rfl, ?_⟩
          by_cases h3 : ((D.str k :: r).length : Int) = 3
          · rw [if_pos (decide_eq_true h3)]
            refine ⟨_, atI_zero, ?_⟩
            show eqF (.str _) (.str _) _
            rw [eqF_ss]
            refine ⟨_, rfl, ?_⟩
            rw [if_neg (by simpa using k3)]
            exact h
          · rw [if_neg (fun z => h3 (of_decide_eq_true z))]
            refine ⟨_, atI_zero, _, rfl, ?_⟩
            rw [if_pos (by simp only [List.mem_cons, List.not_mem_nil, or_false]; simp [k1, k2, k4])]
            exact h
        · rw [Bool.not_eq_true] at hs
          rw [hs, if_pos rfl]
          exact h
      · rw [if_pos (decide_eq_false hl)]
        exact h
    · rw [Bool.not_eq_true] at ht
      rw [ht, if_pos rfl]
      exact h
  · refine isi_tup (by simp [Pl, kdD]) ⟨_, rfl, ?_⟩
    rw [if_neg (by simp [isTup])]
    refine ⟨d0, by simp [dep], ?_⟩
    rw [len34]
    by_cases hl : (D.str k :: rest).length = 3 ∨ (D.str k :: rest).length = 4
    · rw [if_neg (by rw [decide_eq_true hl]; decide)]
      refine ⟨_, atI_zero, isi_str (by simp [Pl, kdD]) ⟨_, rfl, ?_⟩⟩
      rw [if_neg (by simp [isStr])]
      simp only [lenF, eqF_ii]
      refine ⟨_, rfl, ?_⟩
      by_cases h3 : ((D.str k :: rest).length : Int) = 3
      · rw [if_pos (decide_eq_true h3)]
        have r2 : rest.length = 2 := by simp at h3; omega
        match rest, r2 with
        | [y, z], _ =>
        refine ⟨_, atI_zero, ?_⟩
        show eqF (.str _) (.str _) _
        rw [eqF_ss]
        refine ⟨_, rfl, ?_⟩
        by_cases hs : k = "same"
        · subst hs
          rw [if_pos (by simp)]
          rw [if_pos (by simp)] at h
          refine ⟨_, rfl, _, rfl, ?_⟩
          simp only [f_failing_same, F2_eq, p2of2]
          exact ⟨hn _ _ rfl, h⟩
        · rw [if_neg (by simpa using hs)]
          rw [if_neg (by simp [hs])] at h
          exact h
      · rw [if_neg (fun z => h3 (of_decide_eq_true z))]
        have r3 : rest.length = 3 := by simp at h3 hl; omega
        match rest, r3 with
        | [y, z, w], _ =>
        refine ⟨_, atI_zero, _, rfl, ?_⟩
        have nt := hn _ _ rfl
        by_cases hs : k = "same"
        · subst hs
          rw [if_pos (by decide)]
          rw [if_neg (by simp)] at h
          exact h
        · rw [if_pos (by simp [hs])] at h
          simp only [four, List.mem_cons, List.not_mem_nil, or_false] at hk
          rcases hk with rfl | rfl | rfl | rfl
          · rw [if_neg (by decide)]
            refine .inl ⟨_, rfl, rfl, .inl ⟨_, rfl, _, rfl, _, rfl, ?_⟩⟩
            simp only [f_failing_in, F3_eq, p2of3]
            exact ⟨nt, h⟩
          · rw [if_neg (by decide)]
            refine .inr (.inl ⟨_, rfl, rfl, .inr (.inl ⟨_, rfl, _, rfl, _, rfl, ?_⟩)⟩)
            simp only [f_failing_out, F3_eq, p2of3]
            exact ⟨nt, h⟩
          · exact absurd rfl hs
          · rw [if_neg (by decide)]
            refine .inr (.inr ⟨_, rfl, rfl, .inr (.inr ⟨_, rfl, _, rfl, _, rfl, ?_⟩)⟩)
            simp only [f_failing_leaver, F3_eq, p2of3]
            exact ⟨nt, h⟩
    · rw [if_pos (decide_eq_false hl)]
      rw [if_neg (by simp at hl; omega)] at h
      exact h
def noPap (k : Int) : D := excD "NoPaper" ["at"] [.int k]
def pLkd (x : D) (Q R : D → Prop) : Prop := ∃ q, FF x q ∧ R (noPap q)
def fv_looked : FwV := V1 pLkd
def tv_looked : TS5 := (vSeq (vUp (dSet 1 (cCall f_first_failing (cCons (cVar 0) cNil)))) (vIf (cTest (cOp (isNoneF true) (cVar 1) (cC .non))) (vRaise "NoPaper" ["at"] [] (cCons (cVar 1) cNil)) (vUp dNext)))
theorem lenv_looked : ∀ ds (Q R : D → Prop), fv_looked ds Q R → ds.length = 1 := lenV1
theorem obv_looked : ∀ ds (Q R : D → Prop), fv_looked ds Q R → tv_looked { nx := fun _ => Q .non, rt := Q, xc := R } (start3 ["thing", "failing"] ds) := by
  rintro ds Q R ⟨x, rfl, q, hf, h⟩
  simp_all_arith! only [tv_looked, f_first_failing, F1_eq]
  refine ⟨q, hf, ?_⟩
  simp_all_arith! only [isNoneF, isnoneD]
  exact h
def f_law_failed : Fw := F1 pFF
def t_law_failed : TS3 := (dSeq (dTryIf 1 "NoPaper" (cCallV fv_looked (cCons (cVar 0) cNil)) (dSeq (dIf (cAnd (cTest (cCall (isxDF "NoPaper" (.cls "FanError") true) (cCons (cVar 1) (cCons (cC (.cls "FanError")) cNil)))) (cAnd (cTest (cCall (isxDF "NoPaper" (.ty "ValueError") true) (cCons (cVar 1) (cCons (cC (.ty "ValueError")) cNil)))) (cNot (cTest (cCall (isxDF "NoPaper" (.tup [.cls "NoFan", .cls "NoTurning", .cls "NoText"]) false) (cCons (cVar 1) (cCons (cTup (cCons (cC (.cls "NoFan")) (cCons (cC (.cls "NoTurning")) (cCons (cC (.cls "NoText")) cNil)))) cNil))))))) (dRet (cFldX "NoPaper" "at" (cVar 1))) dNext) (dRet (cUn negD (cC (.int 2)))))) (dRet (cC (.int 0))))
theorem len_law_failed : ∀ ds Q, f_law_failed ds Q → ds.length = 1 := lenF1
theorem ob_law_failed : ∀ ds (Q : D → Prop), f_law_failed ds Q → t_law_failed { nx := fun _ => Q .non, rt := Q } (start3 ["_law_thing_here", "e"] ds) := by
  rintro ds Q ⟨x, rfl, q, hf, h⟩
  simp_all_arith! only [t_law_failed, dTryIf, fv_looked, V1_eq]
  exact ⟨q, hf, ⟨_, _, rfl⟩, _, _, rfl, _, _, rfl, _, _, rfl, _, _, .int q, rfl, rfl, h⟩
end KR
set_option Elab.async false
set_option linter.all false
set_option maxRecDepth 100000
set_option maxHeartbeats 8000000
set_option exponentiation.threshold 20000
namespace KR
open PySem L2 L2.L3
theorem any4 (y : D) : ([D.str "in", .str "out", .str "same", .str "leaver"].any fun e => eqD e y) = true ↔ ∃ k, y = .str k ∧ k ∈ four := by
  constructor
  · intro h
    obtain ⟨e, he, hy⟩ := List.any_eq_true.mp h
    simp only [List.mem_cons, List.not_mem_nil, or_false] at he
    rcases he with rfl | rfl | rfl | rfl <;> (cases y with
      | str k => simp only [eqD, beq_iff_eq] at hy; subst hy; exact ⟨_, rfl, by decide⟩
      | _ => simp [eqD] at hy)
  · rintro ⟨k, rfl, hk⟩
    simp only [four, List.mem_cons, List.not_mem_nil, or_false] at hk
    rcases hk with rfl | rfl | rfl | rfl <;> decide
theorem TH.nt {n : Nat} {x : D} (h : TH n x) (ht : isTup x = false) : NT x := ⟨h.pl, ht⟩
theorem dep_head {n : Nat} {y : D} {r : List D} (h : dep (.tup (y :: r)) ≤ n) : dep y ≤ n := by
  simp only [dep, depL] at h; omega
theorem len_law : ∀ ds Q, fLaw 63 ds Q → ds.length = 1 := by rintro ds Q ⟨ns, rfl, _⟩; rfl
def t_law_0_2_7 : TS3 := (dSeq (dSet 11 (cOp addD (cC (.int 1)) (cCall intF (cCons (cOp eqF (cVar 7) (cOp ixD (cLst (cCons (cC (.int 4)) (cCons (cC (.int 4)) (cCons (cC (.int 3)) (cCons (cC (.int 4)) cNil))))) (cVar 6))) cNil)))) (dFreeze 8 (dIf (cTest (cOp neF (cCall f_law_failed (cCons (cOp addD (cTup (cCons (cOp ixD (cLst (cCons (cC (.str "in")) (cCons (cC (.str "out")) (cCons (cC (.str "same")) (cCons (cC (.str "leaver")) cNil))))) (cVar 6)) cNil)) (cCall tupleF (cCons (cVar 8) cNil))) cNil)) (cVar 11))) (dRet (cC (.bl false))) dNext)))
def t_law_0_2_2 : TS3 := (dSeq (dIf (cTest (cOp neF (cCall f_law_failed (cCons (cVar 5) cNil)) (cC (.int 1)))) (dRet (cC (.bl false))) dNext) (dSeq (dAsgE (eOp modD (ePop 3) (eOf (cC (.int 4)))) (kName 6)) (dSeq (dAsgE (eOp addD (eOf (cC (.int 1))) (eOp modD (ePop 3) (eOf (cC (.int 5))))) (kName 7)) (dSeq (dSetOwn 8 (cFew cNil)) (dSeq (dForR rng1 (cCons (cOp subD (cVar 7) (cC (.int 1))) cNil) (kName 9) (dSeq (dAsgE (eCallOwn 3 fl_law_thing_2 (cCons (cC (.int 2)) cNil)) (kName 10)) (dSeq (dIf (cAnd (cTest (cOp eqF (cVar 9) (cC (.int 0)))) (cTest (cIsi "tuple" (cVar 10)))) (dSet 10 (cCall listF (cCons (cVar 10) cNil))) dNext) (dAppend 8 (cVar 10))))) t_law_0_2_7)))))
def t_law : TS3 := (dSeq (dForR rng1 (cCons (cCall maxF (cCons (cC (.int 1)) (cCons (cCall minF (cCons (cC (.int 5)) (cCons (cCall lenF (cCons (cVar 0) cNil)) cNil))) cNil))) cNil) (kName 1) (dSeq (dSet 2 (cCall f_law_cell (cCons (cVar 0) (cCons (cVar 1) cNil)))) (dSeq (dSetOwn 3 (cCallN f_law_row (cCons (cVar 2) (cCons (cC (.int 41)) (cCons (cC (.int 1400)) cNil))))) (dForR rng1 (cCons (cC (.int 4)) cNil) (kName 4) (dSeq (dAsgE (eCallOwn 3 fl_law_thing_4 (cCons (cC (.int 4)) cNil)) (kName 5)) (dSeq (dIf (cAnd (cTest (cIsi "tuple" (cVar 5))) (cAnd (cTest (cOp gtD (cCall lenF (cCons (cVar 5) cNil)) (cC (.int 0)))) (cTest (cOp (inLD false) (cOp ixD (cVar 5) (cC (.int 0))) (cLst (cCons (cC (.str "in")) (cCons (cC (.str "out")) (cCons (cC (.str "same")) (cCons (cC (.str "leaver")) cNil))))))))) (dSet 5 (cOp addD (cTup (cCons (cC (.int 0)) cNil)) (cSl (cVar 5) (cPart (cC (.int 1))) cNoPart))) dNext) t_law_0_2_2)))))) (dRet (cC (.bl true))))
theorem tail7 (Z : Ends3) (a b c l3 k4 k5 k9 k10 k11 : Option Lo) (kk m : Int) (ys : List D) (h0 : 0 ≤ kk) (h1 : kk < 4) (hm : (ys.length : Int) = m - 1) (hm5 : m ≤ 5) (hn : ∀ y r, ys = y :: r → NT y)
    (hN : ∀ k8 k11 : Option Lo, Z.nx [a, b, c, l3, k4, k5, some (.d (.int kk)), some (.d (.int m)), k8, k9, k10, k11]) :
    t_law_0_2_7 Z [a, b, c, l3, k4, k5, some (.d (.int kk)), some (.d (.int m)), some (.own ys), k9, k10, k11] := by
  have sz := PySem.sizeLine_eq
  have key : ∀ (w : Str) (n : Int), w ∈ four → (n = if w = "same" then 3 else 4) → FF (.tup (.str w :: ys)) (1 + if m = n then 1 else 0) := fun w n hw hn' => by
    refine .inr ⟨w, ys, rfl, hw, hn, ?_⟩
    by_cases hs : w = "same"
    · rw [if_pos hs] at hn'
      subst hn'
      by_cases h2 : ys.length = 2
      · rw [if_pos (by omega), if_pos (Or.inl ⟨hs, h2⟩)]; rfl
      · rw [if_neg (by omega), if_neg (fun z => z.elim (fun z => h2 z.2) fun z => z.1 hs)]; rfl
    · rw [if_neg hs] at hn'
      subst hn'
      by_cases h2 : ys.length = 3
      · rw [if_pos (by omega), if_pos (Or.inr ⟨hs, h2⟩)]; rfl
      · rw [if_neg (by omega), if_neg (fun z => z.elim (fun z => hs z.1) fun z => h2 z.2)]; rfl
  have fin : ∀ (w : Str) (n : Int), w ∈ four → (n = if w = "same" then 3 else 4) → atI [D.int 4, D.int 4, D.int 3, D.int 4] kk = some (.int n) → atI [D.str "in", D.str "out", D.str "same", D.str "leaver"] kk = some (.str w) → t_law_0_2_7 Z [a, b, c, l3, k4, k5, some (.d (.int kk)), some (.d (.int m)), some (.own ys), k9, k10, k11] := fun w n hw hn' e1 e2 => by
    simp_all_arith only [t_law_0_2_7, f_law_failed, F1_eq]
    refine ⟨_, e1, ?_⟩
    simp_all_arith only [and_true]
    refine ⟨_, e2, ?_⟩
    simp_all_arith only [and_true]
    refine ⟨by omega, _, key w n hw hn', ?_⟩
    simp_all_arith only [and_true]
    exact hN _ _
  have : kk = 0 ∨ kk = 1 ∨ kk = 2 ∨ kk = 3 := by omega
  rcases this with rfl | rfl | rfl | rfl
  · exact fin "in" 4 (by decide) (by decide) rfl rfl
  · exact fin "out" 4 (by decide) (by decide) rfl rfl
  · exact fin "same" 3 (by decide) (by decide) rfl rfl
  · exact fin "leaver" 4 (by decide) (by decide) rfl rfl
theorem tail2 (Z : Ends3) (a b c k4 k6 k7 k8 k9 k10 k11 : Option Lo) (x : D) (l : List D) (hx : FF x 1) (hD : Dg l) (hl : 106 ≤ l.length)
    (hN : ∀ (l' : List D) (k5 k6 k7 k8 k9 k10 k11 : Option Lo), Dg l' → l.length ≤ l'.length + 106 → Z.nx [a, b, c, some (.own l'), k4, k5, k6, k7, k8, k9, k10, k11]) :
    t_law_0_2_2 Z [a, b, c, some (.own l), k4, some (.d x), k6, k7, k8, k9, k10, k11] := by
  have sz := PySem.sizeLine_eq
  obtain ⟨l1, n1, rfl, hD1, n10, n11, e1⟩ := hD.pop (by omega)
  obtain ⟨l2, n2, rfl, hD2, n20, n21, e2⟩ := hD1.pop (by omega)
  simp_all_arith only [t_law_0_2_2, f_law_failed, F1_eq]
  refine ⟨1, hx, ?_⟩
  simp_arith only [and_true]
  refine ⟨_, _, rfl, by (first | exact divL _ (by decide) | exact powL _ _ (by decide) | exact modL _ (by first | decide | omega) | exact mul_ok_l (by decide) (by decide) | exact mul_ok_r (by decide) (by decide) | omega | decide), ?_⟩
  simp_arith only [and_true]
  refine ⟨_, _, rfl, by (first | exact divL _ (by decide) | exact powL _ _ (by decide) | exact modL _ (by first | decide | omega) | exact mul_ok_l (by decide) (by decide) | exact mul_ok_r (by decide) (by decide) | omega | decide), ?_⟩
  simp_arith only [and_true]
  have f4 := fmod_range (a := n1) (b := 4) (by decide)
  have f5 := fmod_range (a := n2) (b := 5) (by decide)
  refine ⟨by omega, by omega, ?_⟩
  have em : ((1 + n2.fmod 5 - 1).toNat : Int) = 1 + n2.fmod 5 - 1 := by omega
  refine turns_of (fun i e => ∃ (l' ys : List D) (k9 k10 : Option Lo), Dg l' ∧ l2.length ≤ l'.length + 26 * i ∧ ys.length = i ∧ (∀ y r, ys = y :: r → NT y) ∧ i ≤ 4 ∧ e = [a, b, c, some (.own l'), k4, some (.d x), some (.d (.int (n1.fmod 4))), some (.d (.int (1 + n2.fmod 5))), some (.own ys), k9, k10, k11]) ?_ ?_ ⟨l2, [], k9, k10, hD2, by simp, rfl, fun _ _ z => (nomatch z), by omega, rfl⟩
  · rintro i x env N hx ⟨l', ys, k9, k10, hD', hl', hys, hn, i4, rfl⟩ hN
    obtain ⟨hi, rfl⟩ : i < (1 + n2.fmod 5 - 1).toNat ∧ x = .int (i : Int) := by
      simp only [intsD, List.getElem?_map] at hx
      obtain ⟨j, hj, rfl⟩ := Option.map_eq_some_iff.mp hx
      have hl' := (List.getElem?_eq_some_iff.mp hj).1
      rw [List.length_range] at hl'
      rw [List.getElem?_range hl'] at hj
      cases hj
      exact ⟨hl', by rw [Int.zero_add]⟩
    have hi4 : i < 4 := by omega
    have c2 : cst 2 = 26 := rfl
    simp_arith only [eCallOwn, fl_law_thing_2, flT]
    refine ⟨⟨_, rfl⟩, rfl, hD', by omega, fun l3 y hD3 hl3 hy => ?_⟩
    have fin : ∀ y' : D, (ys = [] → NT y') → ys.length < 16777216 ∧ N [a, b, c, some (.own l3), k4, some (.d x), some (.d (.int (n1.fmod 4))), some (.d (.int (1 + n2.fmod 5))), some (.own (ys ++ [y'])), some (.d (.int (i : Int))), some (.d y'), k11] := fun y' hy' => by
      refine ⟨by omega, hN _ ⟨l3, ys ++ [y'], _, _, hD3, by omega, by simp [hys], ?_, by omega, rfl⟩⟩
      intro z r e
      cases ys with
      | nil => cases e; exact hy' rfl
      | cons z' r' => cases e; exact hn _ _ rfl
    split
    · refine isi_tup hy.pl ⟨_, rfl, ?_⟩
      by_cases ht : isTup y = true
      · rw [if_pos ht]
        obtain ⟨xs, rfl⟩ : ∃ xs, y = .tup xs := by cases y <;> first | exact ⟨_, rfl⟩ | exact absurd ht (by simp [isTup])
        rw [listF_t]
        exact fin _ fun _ => ⟨by simp [Pl, kdD], rfl⟩
      · rw [if_neg ht]
        exact fin _ fun _ => hy.nt (by simpa using ht)
    · rename_i i0
      exact fin _ fun z => by rw [z] at hys; simp at hys; omega
  · rintro env ⟨l', ys, k9, k10, hD', hl', hys, hn, i4, rfl⟩
    have lh : (intsD 0 (1 + n2.fmod 5 - 1).toNat).length = (1 + n2.fmod 5 - 1).toNat := by simp [intsD]
    rw [lh] at hys hl' i4
    refine tail7 _ _ _ _ _ _ _ _ _ _ _ _ ys f4.1 f4.2 (by omega) (by omega) hn fun k8 k11 => ?_
    exact hN _ _ _ _ _ _ _ _ hD' (by omega)
theorem ob_law : ∀ ds (Q : D → Prop), fLaw 63 ds Q → t_law { nx := fun _ => Q .non, rt := Q } (start3 ["_law_script", "_law_k", "_law_cell_here", "_law_digits_here", "_law_n", "_law_thing_here", "_law_kind", "_law_many", "_law_behind", "_law_place", "_law_one", "_law_due"] ds) := by
  rintro ds Q ⟨ns, rfl, hl, h⟩
  have sz := PySem.sizeLine_eq
  simp_all_arith only [t_law]
  refine ⟨by omega, by omega, ?_⟩
  refine turns_of (fun i e => ∃ k1 k2 k3 k4 k5 k6 k7 k8 k9 k10 k11 : Option Lo, e = [some (.d (.lst (ns.map D.int))), k1, k2, k3, k4, k5, k6, k7, k8, k9, k10, k11]) ?_ ?_ ⟨none, none, none, none, none, none, none, none, none, none, none, rfl⟩
  · rintro i x env N hx ⟨k1, k2, k3, k4, k5, k6, k7, k8, k9, k10, k11, rfl⟩ hN
    obtain rfl : x = .int (i : Int) := by
      simp only [intsD, List.getElem?_map] at hx
      obtain ⟨j, hj, rfl⟩ := Option.map_eq_some_iff.mp hx
      have hl' := (List.getElem?_eq_some_iff.mp hj).1
      rw [List.length_range] at hl'
      rw [List.getElem?_range hl'] at hj
      cases hj
      rw [Int.zero_add]
    simp_all_arith only [cCallN, f_law_row, f_law_cell, F2_eq, F3_eq]
    refine ⟨ns, _, rfl, rfl, by omega, _, _, 1400, rfl, rfl, rfl, by decide, bitsL _ _ (by decide), by decide, fun d hd => ?_⟩
    obtain ⟨xs, rfl, hxl, hxs⟩ := hd
    refine ⟨_, rfl, ?_⟩
    refine turns_of (fun i e => i ≤ 4 ∧ ∃ (l : List D) (k4 k5 k6 k7 k8 k9 k10 k11 : Option Lo), Dg l ∧ 1400 ≤ l.length + 348 * i ∧ e = [some (.d (.lst (ns.map D.int))), _, _, some (.own l), k4, k5, k6, k7, k8, k9, k10, k11]) ?_ ?_ ⟨by omega, _, _, _, _, _, _, _, _, _, ⟨xs, rfl, hxs⟩, by simp [hxl], rfl⟩
    · rintro i x env N hx ⟨i4, l, k4, k5, k6, k7, k8, k9, k10, k11, hD, hl, rfl⟩ hN
      have hi : i < 4 := by
        have := (List.getElem?_eq_some_iff.mp hx).1
        simpa [intsD] using this
      have c4 : cst 4 = 242 := rfl
      simp_arith only [eCallOwn, fl_law_thing_4, flT]
      refine ⟨⟨_, rfl⟩, rfl, hD, by omega, fun l3 y hD3 hl3 hy => ?_⟩
      have fin : ∀ (Z : Ends3) (y' : D), FF y' 1 → Z.nx = N → t_law_0_2_2 Z [some (.d (.lst (ns.map D.int))), _, _, some (.own l3), some (.d x), some (.d y'), k6, k7, k8, k9, k10, k11] := fun Z y' hy' hZ =>
        tail2 Z _ _ _ _ _ _ _ _ _ _ y' l3 hy' hD3 (by omega) fun l' k5 k6 k7 k8 k9 k10 k11 hD' hl' => by rw [hZ]; exact hN _ ⟨by omega, l', _, _, _, _, _, _, _, _, hD', by omega, rfl⟩
      refine isi_tup hy.pl ⟨_, rfl, ?_⟩
      by_cases ht : isTup y = true
      · rw [if_pos ht]
        obtain ⟨xs, rfl⟩ : ∃ xs, y = .tup xs := by cases y <;> first | exact ⟨_, rfl⟩ | exact absurd ht (by simp [isTup])
        have el := (hy.el xs (.inl rfl)).2
        cases xs with
        | nil =>
          simp_arith only [and_true]
          rw [if_neg (by decide)]
          exact fin _ _ (.inl ⟨⟨hy.pl, fun xs e y r e' => by cases e; cases e'⟩, rfl⟩) rfl
        | cons z r =>
          simp_arith only [and_true]
          rw [if_pos (by omega)]
          refine ⟨_, atI_zero, ?_⟩
          have dz := dep_head hy.dp
          unfold inLD
          refine ⟨_, rfl, by simp [depL, dep], by omega, _, rfl, ?_⟩
          rw [if_neg (by decide : ¬ false = true)]
          by_cases hz : ([D.str "in", .str "out", .str "same", .str "leaver"].any fun e => eqD e z) = true
          · rw [if_pos hz]
            unfold slD
            refine ⟨fun q => ?_, ?_⟩
            · have q1 := q.1
              have : HT.sIx (z :: r).length 0 (some 1) = 1 := by simp [HT.sIx]
              omega
            · unfold addD
              refine ⟨?_, fin _ _ (.inl ⟨⟨by simp [Pl, kdD], fun xs e y r e' => ?_⟩, rfl⟩) rfl⟩
              · have := (hy.el _ (.inl rfl)).1
                simp only [cutD, List.length_take, List.length_drop, List.length_cons, List.length_nil] at this ⊢
                omega
              · cases e
                cases e'
                exact ⟨by simp [Pl, kdD], fun k q => by cases q⟩
          · rw [if_neg hz]
            refine fin _ _ (.inl ⟨⟨hy.pl, fun xs e y r e' => ?_⟩, rfl⟩) rfl
            cases e
            cases e'
            exact ⟨el _ (by simp), fun k q hk => hz ((any4 _).mpr ⟨k, q, hk⟩)⟩
      · rw [if_neg ht]
        refine fin _ _ (.inl ⟨⟨hy.pl, fun xs e => ?_⟩, rfl⟩) rfl
        subst e
        exact absurd rfl ht
    · rintro env ⟨i4, l, k4, k5, k6, k7, k8, k9, k10, k11, hD, hl, rfl⟩
      exact hN _ ⟨_, _, _, _, _, _, _, _, _, _, _, rfl⟩
  · rintro env ⟨k1, k2, k3, k4, k5, k6, k7, k8, k9, k10, k11, rfl⟩
    exact h
end KR
set_option Elab.async false
set_option linter.all false
set_option maxRecDepth 100000
set_option maxHeartbeats 8000000
namespace KR
open PySem L2 L2.L3
def top (i : Nat) : Stmt := PySem.Challenge.pw_fanglue_k84_things_as_papers.main.body.getD i (.Pass ⟨0, 0, 0, 0⟩)
abbrev si_NoFan : Stmt := (clsBody (top 3)).getD 0 (.Pass ⟨0, 0, 0, 0⟩)
abbrev si_NoPaper : Stmt := (clsBody (top 4)).getD 0 (.Pass ⟨0, 0, 0, 0⟩)
structure NmX where
  c_NoFan : Addr
  c_NoPaper : Addr
  c_NoText : Addr
  c_NoTurning : Addr
  c_FanError : Addr
  a_FORMS : Addr
  es_FORMS : Array DictEntry
  n_FORMS : Nat
  f0_FORMS : Addr
  f1_FORMS : Addr
  f2_FORMS : Addr
  fi_NoFan : Addr
  oc_NoFan : Value
  kV_NoFan : Value
  dc_NoFan : Value
  pm_NoFan : Value
  cd_NoFan : Value
  ct_NoFan : Value
  od_NoFan : Option Addr
  an_NoFan : Option Addr
  sl_NoFan : Array (Option Value)
  ta_NoFan : Addr
  tn_NoFan : Nat
  ts_NoFan : Array (Option Value)
  tt_NoFan : Tok
  fi_NoPaper : Addr
  oc_NoPaper : Value
  kV_NoPaper : Value
  dc_NoPaper : Value
  pm_NoPaper : Value
  cd_NoPaper : Value
  ct_NoPaper : Value
  od_NoPaper : Option Addr
  an_NoPaper : Option Addr
  sl_NoPaper : Array (Option Value)
structure Tc (K : PySem.W.Frag) (w : World) (n : NmX) : Prop where
  g_FORMS : PySem.W.nsIn K mainGlobals "FORMS" = some (some (.ref n.a_FORMS))
  l_FORMS : K.lookup n.a_FORMS = some ⟨.type "dict", none, .dict n.es_FORMS n.n_FORMS, #[]⟩
  k_FORMS : PySem.W.KeysLit w.params n.es_FORMS.toList
  y_FORMS : (n.a_FORMS == sysModules) = false
  b_FORMS : L2.L3.TabF n.es_FORMS.toList [("in", n.f0_FORMS), ("out", n.f1_FORMS), ("leaver", n.f2_FORMS)]
  h_in_FORMS : PySem.W.nsIn K mainGlobals "failing_in" = some (some (.ref n.f0_FORMS))
  h_out_FORMS : PySem.W.nsIn K mainGlobals "failing_out" = some (some (.ref n.f1_FORMS))
  h_leaver_FORMS : PySem.W.nsIn K mainGlobals "failing_leaver" = some (some (.ref n.f2_FORMS))
  n_NoFan : PySem.W.nsIn K mainGlobals "NoFan" = some (some (.ref n.c_NoFan))
  n_NoPaper : PySem.W.nsIn K mainGlobals "NoPaper" = some (some (.ref n.c_NoPaper))
  n_NoText : PySem.W.nsIn K mainGlobals "NoText" = some (some (.ref n.c_NoText))
  n_NoTurning : PySem.W.nsIn K mainGlobals "NoTurning" = some (some (.ref n.c_NoTurning))
  n_FanError : PySem.W.nsIn K mainGlobals "FanError" = some (some (.ref n.c_FanError))
  j_NoFan : PySem.W.findIn K (.ref n.c_NoFan) "__init__" = some (some (.ref n.fi_NoFan))
  l_NoFan : K.lookup n.fi_NoFan = some ⟨n.oc_NoFan, n.od_NoFan, .func (PySem.W.fnOf "__init__" "NoFan.__init__" (defArgs si_NoFan) (defBody si_NoFan) (defScope si_NoFan) (.ref n.ta_NoFan) n.kV_NoFan n.dc_NoFan n.pm_NoFan n.an_NoFan n.cd_NoFan n.ct_NoFan), n.sl_NoFan⟩
  q_NoFan : PySem.W.codeIn K n.cd_NoFan "NoFan.__init__" = true
  dl_NoFan : K.lookup n.ta_NoFan = some ⟨.type "tuple", none, .seq #[.int 0 n.tt_NoFan] n.tn_NoFan, n.ts_NoFan⟩
  x_NoFan : excInI K n.c_NoFan n.fi_NoFan = true
  t_NoFan : PySem.W.typeIn K (.ref n.fi_NoFan) = some (.type "function")
  sa_NoFan : PySem.W.findIn K (.ref n.c_NoFan) "__setattr__" = some (some (.builtin "object.__setattr__"))
  a_NoFan_where : PySem.W.findIn K (.ref n.c_NoFan) "where" = some none
  a_NoFan_at : PySem.W.findIn K (.ref n.c_NoFan) "at" = some none
  o1_NoFan : PySem.W.findIn K (.ref n.c_NoFan) "__getattribute__" = some (some (.builtin "BaseException.__getattribute__"))
  o2_NoFan : PySem.W.findIn K (.ref n.c_NoFan) "__getattr__" = some none
  o3_NoFan : PySem.W.hasDictIn K n.c_NoFan = true
  o4_NoFan : PySem.W.findIn K (.ref n.c_NoFan) "__class__" = some (some (.builtin "object.__class__"))
  o5_NoFan : PySem.W.specialIn K (.builtin "object.__class__") "__get__" = some (some (.builtin "getset_descriptor.__get__"))
  o6_NoFan : PySem.W.takesIn K (.builtin "object.__class__") = some true
  o7_NoFan : PySem.W.mroIn K n.c_NoFan (.type "object") = some true
  o8_NoFan : PySem.W.subIn K (.ref n.c_NoFan) (.type "BaseException") = some true
  j_NoPaper : PySem.W.findIn K (.ref n.c_NoPaper) "__init__" = some (some (.ref n.fi_NoPaper))
  l_NoPaper : K.lookup n.fi_NoPaper = some ⟨n.oc_NoPaper, n.od_NoPaper, .func (PySem.W.fnOf "__init__" "NoPaper.__init__" (defArgs si_NoPaper) (defBody si_NoPaper) (defScope si_NoPaper) .none n.kV_NoPaper n.dc_NoPaper n.pm_NoPaper n.an_NoPaper n.cd_NoPaper n.ct_NoPaper), n.sl_NoPaper⟩
  q_NoPaper : PySem.W.codeIn K n.cd_NoPaper "NoPaper.__init__" = true
  x_NoPaper : excInI K n.c_NoPaper n.fi_NoPaper = true
  t_NoPaper : PySem.W.typeIn K (.ref n.fi_NoPaper) = some (.type "function")
  sa_NoPaper : PySem.W.findIn K (.ref n.c_NoPaper) "__setattr__" = some (some (.builtin "object.__setattr__"))
  a_NoPaper_at : PySem.W.findIn K (.ref n.c_NoPaper) "at" = some none
  o1_NoPaper : PySem.W.findIn K (.ref n.c_NoPaper) "__getattribute__" = some (some (.builtin "BaseException.__getattribute__"))
  o2_NoPaper : PySem.W.findIn K (.ref n.c_NoPaper) "__getattr__" = some none
  o3_NoPaper : PySem.W.hasDictIn K n.c_NoPaper = true
  o4_NoPaper : PySem.W.findIn K (.ref n.c_NoPaper) "__class__" = some (some (.builtin "object.__class__"))
  o5_NoPaper : PySem.W.specialIn K (.builtin "object.__class__") "__get__" = some (some (.builtin "getset_descriptor.__get__"))
  o6_NoPaper : PySem.W.takesIn K (.builtin "object.__class__") = some true
  o7_NoPaper : PySem.W.mroIn K n.c_NoPaper (.type "object") = some true
  o8_NoPaper : PySem.W.subIn K (.ref n.c_NoPaper) (.type "BaseException") = some true
  kt0 : PySem.W.kitAny K (.ref n.c_NoPaper) [.ref n.c_NoFan, .ref n.c_NoTurning, .ref n.c_NoText] = some false
  kt1 : PySem.W.kitOne K (.ref n.c_NoPaper) (.type "ValueError") = some true
  kt2 : PySem.W.kitOne K (.ref n.c_NoPaper) (.ref n.c_FanError) = some true
theorem Tc.d_FORMS {K : PySem.W.Frag} {w : World} {n : NmX} (TC : Tc K w n) : GDicF K w "FORMS" [("in", n.f0_FORMS), ("out", n.f1_FORMS), ("leaver", n.f2_FORMS)] n.a_FORMS n.es_FORMS n.n_FORMS := ⟨TC.g_FORMS, TC.l_FORMS, TC.k_FORMS, TC.y_FORMS, TC.b_FORMS⟩
theorem si_sc_NoFan : FnScope ["self", "where", "at"] ["self", "where", "at"] (defScope si_NoFan) := ⟨rfl, rfl, rfl, by decide +kernel, rfl, by decide +kernel, by decide +kernel⟩
theorem Tc.f_NoFan {K : PySem.W.Frag} {w : World} {n : NmX} (TC : Tc K w n) {P : Program} {mg : Str → Option Value} {base : Heap} : FnOk P w K mg base CX0 1 n.fi_NoFan (PySem.W.fnOf "__init__" "NoFan.__init__" (defArgs si_NoFan) (defBody si_NoFan) (defScope si_NoFan) (.ref n.ta_NoFan) n.kV_NoFan n.dc_NoFan n.pm_NoFan n.an_NoFan n.cd_NoFan n.ct_NoFan) ["self", "where", "at"] (spI n.c_NoFan ["where", "at"]) := init_two TC.l_NoFan TC.q_NoFan si_sc_NoFan (.inl rfl) (.inl rfl) (.inl rfl) ⟨by decide, by decide⟩ ⟨by decide, by decide⟩ TC.x_NoFan TC.sa_NoFan TC.a_NoFan_where TC.a_NoFan_at (by decide)
theorem Tc.b1_NoFan {K : PySem.W.Frag} {w : World} {n : NmX} (TC : Tc K w n) : Binds K (PySem.W.fnOf "__init__" "NoFan.__init__" (defArgs si_NoFan) (defBody si_NoFan) (defScope si_NoFan) (.ref n.ta_NoFan) n.kV_NoFan n.dc_NoFan n.pm_NoFan n.an_NoFan n.cd_NoFan n.ct_NoFan) ["self", "where", "at"] [.int 0 n.tt_NoFan] := fun s us KX hl => match us, (show us.length = 2 by simpa using hl) with | [_, _], _ => PySem.W.binds_K KX rfl TC.dl_NoFan rfl rfl rfl
theorem Tc.v1_NoFan {K : PySem.W.Frag} {w : World} {n : NmX} (TC : Tc K w n) : Vals [.int 0] [.int 0 n.tt_NoFan] := .cons ⟨_, rfl⟩ .nil
theorem si_sc_NoPaper : FnScope ["self", "at"] ["self", "at"] (defScope si_NoPaper) := ⟨rfl, rfl, rfl, by decide +kernel, rfl, by decide +kernel, by decide +kernel⟩
theorem Tc.f_NoPaper {K : PySem.W.Frag} {w : World} {n : NmX} (TC : Tc K w n) {P : Program} {mg : Str → Option Value} {base : Heap} : FnOk P w K mg base CX0 1 n.fi_NoPaper (PySem.W.fnOf "__init__" "NoPaper.__init__" (defArgs si_NoPaper) (defBody si_NoPaper) (defScope si_NoPaper) .none n.kV_NoPaper n.dc_NoPaper n.pm_NoPaper n.an_NoPaper n.cd_NoPaper n.ct_NoPaper) ["self", "at"] (spI n.c_NoPaper ["at"]) := init_one TC.l_NoPaper TC.q_NoPaper si_sc_NoPaper (.inl rfl) (.inl rfl) ⟨by decide, by decide⟩ TC.x_NoPaper TC.sa_NoPaper TC.a_NoPaper_at
theorem Tc.b0_NoPaper {K : PySem.W.Frag} {w : World} {n : NmX} (TC : Tc K w n) : Binds K (PySem.W.fnOf "__init__" "NoPaper.__init__" (defArgs si_NoPaper) (defBody si_NoPaper) (defScope si_NoPaper) .none n.kV_NoPaper n.dc_NoPaper n.pm_NoPaper n.an_NoPaper n.cd_NoPaper n.ct_NoPaper) ["self", "at"] [] := fun s us KX hl => match us, hl with | [_, _], _ => .of_eq rfl
theorem Tc.v0_NoPaper {K : PySem.W.Frag} {w : World} {n : NmX} (TC : Tc K w n) : Vals ([] : List V) ([] : List Value) := .nil
theorem Tc.o_NoPaper {K : PySem.W.Frag} {w : World} {n : NmX} (TC : Tc K w n) : XcOk K n.c_NoPaper := ⟨TC.o1_NoPaper, TC.o2_NoPaper, TC.o3_NoPaper, TC.o4_NoPaper, TC.o5_NoPaper, TC.o6_NoPaper, TC.o7_NoPaper, TC.o8_NoPaper⟩
abbrev s_are_two_tuples : Stmt := top 10
abbrev s_look : Stmt := top 35
abbrev s_is_fan : Stmt := top 36
abbrev s_is_table : Stmt := top 59
abbrev s_failing_in : Stmt := top 73
abbrev s_failing_out : Stmt := top 74
abbrev s_failing_same : Stmt := top 76
abbrev s_failing_leaver : Stmt := top 77
abbrev s_first_failing : Stmt := top 79
abbrev s_looked : Stmt := top 80
abbrev s_law_cell : Stmt := top 82
abbrev s_law_digits : Stmt := top 83
abbrev s_law_mixed : Stmt := top 84
abbrev s_law_row : Stmt := top 85
abbrev s_law_failed : Stmt := top 86
abbrev s_law_thing : Stmt := top 87
abbrev s_law : Stmt := top 88
structure Txt (mg : Str → Option Value) : Prop where
  ValueError : mg "ValueError" = none
  abs : mg "abs" = none
  int : mg "int" = none
  isinstance : mg "isinstance" = none
  len : mg "len" = none
  list : mg "list" = none
  max : mg "max" = none
  min : mg "min" = none
  range : mg "range" = none
  str : mg "str" = none
  tuple : mg "tuple" = none
theorem sc_are_two_tuples : FnScope ["thing"] ["thing"] (defScope s_are_two_tuples) := fnS
theorem sc_look : FnScope ["thing", "fractions", "marks", "at", "gap"] ["thing"] (defScope s_look) := fnS
theorem sc_is_fan : FnScope ["thing"] ["thing"] (defScope s_is_fan) := fnS
theorem sc_is_table : FnScope ["thing", "halves", "thirds", "many"] ["thing"] (defScope s_is_table) := fnS
theorem sc_failing_in : FnScope ["fan", "one", "glues"] ["fan", "one", "glues"] (defScope s_failing_in) := fnS
theorem sc_failing_out : FnScope ["table", "word", "place"] ["table", "word", "place"] (defScope s_failing_out) := fnS
theorem sc_failing_same : FnScope ["fan", "table"] ["fan", "table"] (defScope s_failing_same) := fnS
theorem sc_failing_leaver : FnScope ["table", "number", "one", "word"] ["table", "number", "one"] (defScope s_failing_leaver) := fnS
theorem sc_first_failing : FnScope ["thing", "failing"] ["thing"] (defScope s_first_failing) := fnS
theorem sc_looked : FnScope ["thing", "failing"] ["thing"] (defScope s_looked) := fnS
theorem sc_law_cell : FnScope ["_law_script", "_law_k"] ["_law_script", "_law_k"] (defScope s_law_cell) := fnS
theorem sc_law_digits : FnScope ["_law_cell_here", "_law_base", "_law_many", "_law_row_here", "_law_k"] ["_law_cell_here", "_law_base", "_law_many"] (defScope s_law_digits) := fnS
theorem sc_law_mixed : FnScope ["_law_cell_here", "_law_base", "_law_many", "_law_row_here", "_law_k", "_law_one", "_law_two"] ["_law_cell_here", "_law_base", "_law_many"] (defScope s_law_mixed) := fnS
theorem sc_law_row : FnScope ["_law_cell_here", "_law_base", "_law_many"] ["_law_cell_here", "_law_base", "_law_many"] (defScope s_law_row) := fnS
theorem sc_law_failed : FnScope ["_law_thing_here", "e"] ["_law_thing_here"] (defScope s_law_failed) := fnS
theorem sc_law_thing : FnScope ["_law_digits_here", "_law_deep", "_law_way", "_law_inner", "_law_k"] ["_law_digits_here", "_law_deep"] (defScope s_law_thing) := fnS
theorem sc_law : FnScope ["_law_script", "_law_k", "_law_cell_here", "_law_digits_here", "_law_n", "_law_thing_here", "_law_kind", "_law_many", "_law_behind", "_law_place", "_law_one", "_law_due"] ["_law_script"] (defScope s_law) := fnS
section
variable {P : Program} {w : World} {K : PySem.W.Frag} {mg : Str → Option Value} {base : Heap}
theorem kn_are_two_tuples (F : Df K mg "are_two_tuples" s_are_two_tuples ["thing"]) (T : Txt mg) : Known P w K mg base 1 "are_two_tuples" f_are_two_tuples :=
  have nd := sc_are_two_tuples.nd; F.known sc_are_two_tuples len_are_two_tuples fun fa cdv A outer s H E hr => ⟨t_are_two_tuples, (qss_cons (qs_if (QW.t (qw_or (qt_not (qt_val (q_isi T.isinstance T.tuple boot_tuple' (qv 0)))) (qw_or1 (t_ne hr.units (q_len T.len (qa_cons (qv 0) qa_nil)) qint)))) (qss_one (qs_ret qbl)) qss_nil) (qss_one (qs_ret (qe_and (q_isi T.isinstance T.tuple boot_tuple' (q_ix (qv 0) qint (fun _ _ => rfl))) (qe_one (q_isi T.isinstance T.tuple boot_tuple' (q_ix (qv 0) qint (fun _ _ => rfl)))))))), ob_are_two_tuples⟩
theorem knv_look (F : Df K mg "look" s_look ["thing"]) {n : NmX} (TC : Tc K w n) (k_are_two_tuples : Known P w K mg base 1 "are_two_tuples" f_are_two_tuples) : KnownV P w K mg base 5 "look" fv_look :=
  have nd := sc_look.nd; F.knownV sc_look lenv_look fun fa cdv A outer s H E hr => ⟨tv_look, (qvs_cons (qv_if (qt_not (qt_val (q_call k_are_two_tuples hr.md (qa_cons (qv 0) qa_nil)))) (qvs_one (qv_raise (dds := [.int 0]) TC.n_NoFan TC.x_NoFan TC.f_NoFan TC.t_NoFan TC.b1_NoFan TC.v1_NoFan (fun _ => (denL_cons den_int denL_nil)) hr.md (qa_cons qstr qa_nil))) (qvs_up qss_nil)) (qvs_up qss_no)), obv_look⟩
theorem kn_is_fan (F : Df K mg "is_fan" s_is_fan ["thing"]) {n : NmX} (TC : Tc K w n) (kv_look : KnownV P w K mg base 5 "look" fv_look) : Known P w K mg base 6 "is_fan" f_is_fan :=
  have nd := sc_is_fan.nd; F.known sc_is_fan len_is_fan fun fa cdv A outer s H E hr => ⟨t_is_fan, (qss_cons (qs_tryE rfl rfl TC.n_NoFan TC.x_NoFan (q_callV kv_look hr.md (qa_cons (qv 0) qa_nil)) (fun _ => (qss_one (qs_ret qbl)))) (qss_one (qs_ret qbl))), ob_is_fan⟩
theorem kn_is_table (F : Df K mg "is_table" s_is_table ["thing"]) (k_are_two_tuples : Known P w K mg base 1 "are_two_tuples" f_are_two_tuples) : Known P w K mg base 3 "is_table" f_is_table :=
  have nd := sc_is_table.nd; F.known sc_is_table len_is_table fun fa cdv A outer s H E hr => ⟨t_is_table, (qss_cons (qs_if (qt_not (qt_val (q_call k_are_two_tuples hr.md (qa_cons (qv 0) qa_nil)))) (qss_one (qs_ret qbl)) qss_nil) qss_no), ob_is_table⟩
theorem kn_failing_in (F : Df K mg "failing_in" s_failing_in ["fan", "one", "glues"]) (k_is_fan : Known P w K mg base 6 "is_fan" f_is_fan) : Known P w K mg base 7 "failing_in" f_failing_in :=
  have nd := sc_failing_in.nd; F.known sc_failing_in len_failing_in fun fa cdv A outer s H E hr => ⟨t_failing_in, (qss_cons (qs_if (qt_not (qt_val (q_call k_is_fan hr.md (qa_cons (qv 0) qa_nil)))) (qss_one (qs_ret qint)) qss_nil) qss_no), ob_failing_in⟩
theorem kn_failing_out (F : Df K mg "failing_out" s_failing_out ["table", "word", "place"]) (k_is_table : Known P w K mg base 3 "is_table" f_is_table) : Known P w K mg base 4 "failing_out" f_failing_out :=
  have nd := sc_failing_out.nd; F.known sc_failing_out len_failing_out fun fa cdv A outer s H E hr => ⟨t_failing_out, (qss_cons (qs_if (qt_not (qt_val (q_call k_is_table hr.md (qa_cons (qv 0) qa_nil)))) (qss_one (qs_ret qint)) qss_nil) qss_no), ob_failing_out⟩
theorem kn_failing_same (F : Df K mg "failing_same" s_failing_same ["fan", "table"]) (k_is_fan : Known P w K mg base 6 "is_fan" f_is_fan) : Known P w K mg base 7 "failing_same" f_failing_same :=
  have nd := sc_failing_same.nd; F.known sc_failing_same len_failing_same fun fa cdv A outer s H E hr => ⟨t_failing_same, (qss_cons (qs_if (qt_not (qt_val (q_call k_is_fan hr.md (qa_cons (qv 0) qa_nil)))) (qss_one (qs_ret qint)) qss_nil) qss_no), ob_failing_same⟩
theorem kn_failing_leaver (F : Df K mg "failing_leaver" s_failing_leaver ["table", "number", "one"]) (k_is_table : Known P w K mg base 3 "is_table" f_is_table) : Known P w K mg base 6 "failing_leaver" f_failing_leaver :=
  have nd := sc_failing_leaver.nd; F.known sc_failing_leaver len_failing_leaver fun fa cdv A outer s H E hr => ⟨t_failing_leaver, (qss_cons (qs_if (qt_not (qt_val (q_call k_is_table hr.md (qa_cons (qv 0) qa_nil)))) (qss_one (qs_ret qint)) qss_nil) qss_no), ob_failing_leaver⟩
theorem kn_first_failing (F : Df K mg "first_failing" s_first_failing ["thing"]) (T : Txt mg) {n : NmX} (TC : Tc K w n) (k_failing_in : Known P w K mg base 7 "failing_in" f_failing_in) (k_failing_leaver : Known P w K mg base 6 "failing_leaver" f_failing_leaver) (k_failing_out : Known P w K mg base 4 "failing_out" f_failing_out) (k_failing_same : Known P w K mg base 7 "failing_same" f_failing_same) : Known P w K mg base 8 "first_failing" f_first_failing :=
  have nd := sc_first_failing.nd; F.known sc_first_failing len_first_failing fun fa cdv A outer s H E hr => ⟨t_first_failing, (qss_cons (qs_if (QW.t (qw_or (qt_not (qt_val (q_isi T.isinstance T.tuple boot_tuple' (qv 0)))) (qw_or (t_ninL hr.units (q_len T.len (qa_cons (qv 0) qa_nil)) (qe_tup (qa_cons qint (qa_cons qint qa_nil)))) (qw_or1 (qt_not (qt_val (q_isi T.isinstance T.str boot_str' (q_ix (qv 0) qint (fun _ _ => rfl))))))))) (qss_one (qs_ret qint)) qss_nil) (qss_cons (qs_if (t_eq hr.units (q_len T.len (qa_cons (qv 0) qa_nil)) qint) (qss_one (qs_ret (qe_if (t_eq hr.units (q_ix (qv 0) qint (fun _ _ => rfl)) qstr) (q_call k_failing_same hr.md (qa_cons (q_ix (qv 0) qint (fun _ _ => rfl)) (qa_cons (q_ix (qv 0) qint (fun _ _ => rfl)) qa_nil))) qint))) qss_nil) (qss_cons (qs_if (t_ninF ["in", "out", "leaver"] TC.d_FORMS rfl (q_ix (qv 0) qint (fun _ _ => rfl))) (qss_one (qs_ret qint)) qss_nil) (qss_cons (qs_set 1 nd (q_or (q_ixF "in" "failing_in" TC.d_FORMS rfl TC.h_in_FORMS (q_ix (qv 0) qint (fun _ _ => rfl)) (fun _ _ => rfl)) (q_or (q_ixF "out" "failing_out" TC.d_FORMS rfl TC.h_out_FORMS (q_ix (qv 0) qint (fun _ _ => rfl)) (fun _ _ => rfl)) (q_ixF "leaver" "failing_leaver" TC.d_FORMS rfl TC.h_leaver_FORMS (q_ix (qv 0) qint (fun _ _ => rfl)) (fun _ _ => rfl))))) (qss_one (qs_ret (q_or (q_callNm 1 k_failing_in hr.md (qa_cons (q_ix (qv 0) qint (fun _ _ => rfl)) (qa_cons (q_ix (qv 0) qint (fun _ _ => rfl)) (qa_cons (q_ix (qv 0) qint (fun _ _ => rfl)) qa_nil)))) (q_or (q_callNm 1 k_failing_out hr.md (qa_cons (q_ix (qv 0) qint (fun _ _ => rfl)) (qa_cons (q_ix (qv 0) qint (fun _ _ => rfl)) (qa_cons (q_ix (qv 0) qint (fun _ _ => rfl)) qa_nil)))) (q_callNm 1 k_failing_leaver hr.md (qa_cons (q_ix (qv 0) qint (fun _ _ => rfl)) (qa_cons (q_ix (qv 0) qint (fun _ _ => rfl)) (qa_cons (q_ix (qv 0) qint (fun _ _ => rfl)) qa_nil)))))))))))), ob_first_failing⟩
theorem knv_looked (F : Df K mg "looked" s_looked ["thing"]) {n : NmX} (TC : Tc K w n) (k_first_failing : Known P w K mg base 8 "first_failing" f_first_failing) : KnownV P w K mg base 9 "looked" fv_looked :=
  have nd := sc_looked.nd; F.knownV sc_looked lenv_looked fun fa cdv A outer s H E hr => ⟨tv_looked, (qvs_cons (qv_up (qs_set 1 nd (q_call k_first_failing hr.md (qa_cons (qv 0) qa_nil)))) (qvs_one (qv_if (t_isnN (qv 1) qnon) (qvs_one (qv_raise (dds := []) TC.n_NoPaper TC.x_NoPaper TC.f_NoPaper TC.t_NoPaper TC.b0_NoPaper TC.v0_NoPaper (fun _ => denL_nil) hr.md (qa_cons (qv 1) qa_nil))) (qvs_up qss_nil)))), obv_looked⟩
theorem kn_law_cell (F : Df K mg "_law_cell" s_law_cell ["_law_script", "_law_k"]) (T : Txt mg) : Known P w K mg base 1 "_law_cell" f_law_cell :=
  have nd := sc_law_cell.nd; F.known sc_law_cell len_law_cell fun fa cdv A outer s H E hr => ⟨t_law_cell, (qss_cons (qs_if (t_lt (qv 1) (q_len T.len (qa_cons (qv 0) qa_nil))) (qss_one (qs_ret (q_ix (qv 0) (qv 1) (fun _ _ => rfl)))) qss_nil) (qss_one (qs_ret qint))), ob_law_cell⟩
theorem kny_law_digits (F : Df K mg "_law_digits" s_law_digits ["_law_cell_here", "_law_base", "_law_many"]) (T : Txt mg) : KnownN P w K mg base 1 "_law_digits" f_law_digits :=
  have nd := sc_law_digits.nd; F.knownR sc_law_digits len_law_digits fun fa cdv A outer s H E hr => ⟨tn_law_digits, (qns_cons (qs_setOwn 3 nd (qf_lst qa_nil)) (qns_cons (qs_forR1 PassesOwn.never rfl rfl T.range (qa_cons (qv 2) qa_nil) (qg_name 4 nd) (qss_cons (qs_append 3 (q_mod (qv 0) (qv 1))) (qss_one (qs_set 0 nd (q_fdiv (qv 0) (qv 1)))))) (qns_ret 3))), obn_law_digits⟩
theorem kny_law_mixed (F : Df K mg "_law_mixed" s_law_mixed ["_law_cell_here", "_law_base", "_law_many"]) (T : Txt mg) : KnownN P w K mg base 1 "_law_mixed" f_law_mixed :=
  have nd := sc_law_mixed.nd; F.knownR sc_law_mixed len_law_mixed fun fa cdv A outer s H E hr => ⟨tn_law_mixed, (qns_cons (qs_setOwn 3 nd (qf_lst qa_nil)) (qns_cons (qs_forR1 PassesOwn.never rfl rfl T.range (qa_cons (qv 2) qa_nil) (qg_name 4 nd) (qss_cons (qs_set 5 nd (q_mod (q_mul (q_add (q_add (q_add (q_mod (qv 0) qint) (q_mul (q_mul qint (qv 4)) (qv 4))) (q_mul qint (qv 4))) qint) qint) qint)) (qss_cons (qs_set 6 nd (q_mod (q_mul (q_add (q_add (q_fdiv (qv 5) qint) (q_mul (q_mod (q_fdiv (qv 0) qint) qint) qint)) (qv 4)) qint) qint)) (qss_one (qs_append 3 (q_mod (q_fdiv (qv 6) qint) (qv 1))))))) (qns_ret 3))), obn_law_mixed⟩
theorem kny_law_row (F : Df K mg "_law_row" s_law_row ["_law_cell_here", "_law_base", "_law_many"]) (T : Txt mg) (ky_law_digits : KnownN P w K mg base 1 "_law_digits" f_law_digits) (ky_law_mixed : KnownN P w K mg base 1 "_law_mixed" f_law_mixed) : KnownN P w K mg base 2 "_law_row" f_law_row :=
  have nd := sc_law_row.nd; F.knownR sc_law_row len_law_row fun fa cdv A outer s H E hr => ⟨tn_law_row, (qns_ifF (t_ge (q_abs T.abs (qa_cons (qv 0) qa_nil)) (q_pow qint qint)) (qf_callN ky_law_digits hr.md (qa_cons (qv 0) (qa_cons (qv 1) (qa_cons (qv 2) qa_nil)))) (qns_retF (qf_callN ky_law_mixed hr.md (qa_cons (qv 0) (qa_cons (qv 1) (qa_cons (qv 2) qa_nil)))))), obn_law_row⟩
theorem kn_law_failed (F : Df K mg "_law_failed" s_law_failed ["_law_thing_here"]) (T : Txt mg) {n : NmX} (TC : Tc K w n) (kv_looked : KnownV P w K mg base 9 "looked" fv_looked) : Known P w K mg base 10 "_law_failed" f_law_failed :=
  have nd := sc_law_failed.nd; F.known sc_law_failed len_law_failed fun fa cdv A outer s H E hr => ⟨t_law_failed, (qss_cons (qs_tryIf 1 nd rfl rfl TC.n_NoPaper TC.x_NoPaper (q_callV kv_looked hr.md (qa_cons (qv 0) qa_nil)) (fun _ => (qss_cons (qs_if (QW.t (qw_and (qt_val (q_isxD "NoPaper" (.cls "FanError") true T.isinstance TC.n_NoPaper TC.o_NoPaper (.cls TC.n_FanError TC.kt2) (qa_cons (qv 1) (qa_cons (qcls TC.n_FanError) qa_nil)))) (qw_and (qt_val (q_isxD "NoPaper" (.ty "ValueError") true T.isinstance TC.n_NoPaper TC.o_NoPaper (.ty TC.kt1) (qa_cons (qv 1) (qa_cons (qty rfl T.ValueError boot_VE) qa_nil)))) (qw_and1 (qt_not (qt_val (q_isxD "NoPaper" (.tup [.cls "NoFan", .cls "NoTurning", .cls "NoText"]) false T.isinstance TC.n_NoPaper TC.o_NoPaper (.tup (.cons TC.n_NoFan (.cons TC.n_NoTurning (.cons TC.n_NoText .nil))) TC.kt0) (qa_cons (qv 1) (qa_cons (qe_tup (qa_cons (qcls TC.n_NoFan) (qa_cons (qcls TC.n_NoTurning) (qa_cons (qcls TC.n_NoText) qa_nil)))) qa_nil))))))))) (qss_one (qs_ret (q_fldX "NoPaper" "at" TC.n_NoPaper TC.o_NoPaper TC.a_NoPaper_at (qv 1)))) qss_nil) (qss_one (qs_ret (q_neg qint)))))) (qss_one (qs_ret qint))), ob_law_failed⟩
theorem knl_law_thing_no (F : Df K mg "_law_thing" s_law_thing ["_law_digits_here", "_law_deep"]) : KnownL P w K mg base 1 "_law_thing" fl_law_thing_no :=
  F.knownL sc_law_thing lenl_law_thing_no fun fa cdv A_ outer s H E hr A => ⟨gUp dNo, gs_up qss_no, fun _ _ _ h => h.elim⟩
theorem knl_law_thing_0 (F : Df K mg "_law_thing" s_law_thing ["_law_digits_here", "_law_deep"]) (T : Txt mg) (kl : KnownL P w K mg base 1 "_law_thing" fl_law_thing_no) : KnownL P w K mg base 2 "_law_thing" fl_law_thing_0 :=
  have nd := sc_law_thing.nd; F.knownL sc_law_thing lenl_law_thing_0 fun fa cdv A_ outer s H E hr A => ⟨tl_law_thing A fl_law_thing_no, (gs_cons (g_setE 2 nd (eg_mod (eg_popL 0) (eg_up qint))) (gs_cons (g_if (QW.t (qw_or (t_eq hr.units (qv 2) qint) (qw_or1 (t_eq hr.units (qv 1) qint)))) (gs_one (g_retE (eg_ix (eg_up (qe_lst (qa_cons qnon (qa_cons qbl (qa_cons qbl (qa_cons qint (qa_cons qint (qa_cons (q_neg qint) (qa_cons (q_pow qint qint) (qa_cons qstr (qa_cons qstr (qa_cons qstr (qa_cons qstr (qa_cons (qe_tup qa_nil) (qa_cons (qe_lst qa_nil) qa_nil))))))))))))))) (eg_mod (eg_popL 0) (eg_up qint)) (fun _ _ => rfl)))) (gs_up qss_nil)) (gs_cons (g_if (t_lt (qv 2) qint) (gs_one (g_retE (eg_sub (eg_popL 0) (eg_up qint)))) (gs_up qss_nil)) (gs_cons (g_if (t_lt (qv 2) qint) (gs_one (g_retE (eg_ix (eg_up (qe_lst (qa_cons qstr (qa_cons qstr (qa_cons qstr (qa_cons qstr (qa_cons qstr (qa_cons qstr qa_nil)))))))) (eg_mod (eg_popL 0) (eg_up qint)) (fun _ _ => rfl)))) (gs_up qss_nil)) (gs_cons (g_up (qs_setOwn 3 nd (qf_lst qa_nil))) (gs_cons (g_forRE PassesOwn.never rfl rfl T.range (eg_mod (eg_popL 0) (eg_up qint)) (qg_name 4 nd) (gs_one (g_appE 3 (eg_callL 0 kl hr.md (qa_cons (q_sub (qv 1) qint) qa_nil))))) (gs_one (g_up (qs_freeze 3 (qs_ret (q_ix (qe_lst (qa_cons (qv 3) (qa_cons (q_tupleOf T.tuple (qa_cons (qv 3) qa_nil)) qa_nil))) (q_mod (qv 2) qint) (fun _ _ => rfl)))))))))))), obl_law_thing_0 A⟩
theorem knl_law_thing_1 (F : Df K mg "_law_thing" s_law_thing ["_law_digits_here", "_law_deep"]) (T : Txt mg) (kl : KnownL P w K mg base 2 "_law_thing" fl_law_thing_0) : KnownL P w K mg base 3 "_law_thing" fl_law_thing_1 :=
  have nd := sc_law_thing.nd; F.knownL sc_law_thing lenl_law_thing_1 fun fa cdv A_ outer s H E hr A => ⟨tl_law_thing A fl_law_thing_0, (gs_cons (g_setE 2 nd (eg_mod (eg_popL 0) (eg_up qint))) (gs_cons (g_if (QW.t (qw_or (t_eq hr.units (qv 2) qint) (qw_or1 (t_eq hr.units (qv 1) qint)))) (gs_one (g_retE (eg_ix (eg_up (qe_lst (qa_cons qnon (qa_cons qbl (qa_cons qbl (qa_cons qint (qa_cons qint (qa_cons (q_neg qint) (qa_cons (q_pow qint qint) (qa_cons qstr (qa_cons qstr (qa_cons qstr (qa_cons qstr (qa_cons (qe_tup qa_nil) (qa_cons (qe_lst qa_nil) qa_nil))))))))))))))) (eg_mod (eg_popL 0) (eg_up qint)) (fun _ _ => rfl)))) (gs_up qss_nil)) (gs_cons (g_if (t_lt (qv 2) qint) (gs_one (g_retE (eg_sub (eg_popL 0) (eg_up qint)))) (gs_up qss_nil)) (gs_cons (g_if (t_lt (qv 2) qint) (gs_one (g_retE (eg_ix (eg_up (qe_lst (qa_cons qstr (qa_cons qstr (qa_cons qstr (qa_cons qstr (qa_cons qstr (qa_cons qstr qa_nil)))))))) (eg_mod (eg_popL 0) (eg_up qint)) (fun _ _ => rfl)))) (gs_up qss_nil)) (gs_cons (g_up (qs_setOwn 3 nd (qf_lst qa_nil))) (gs_cons (g_forRE PassesOwn.never rfl rfl T.range (eg_mod (eg_popL 0) (eg_up qint)) (qg_name 4 nd) (gs_one (g_appE 3 (eg_callL 0 kl hr.md (qa_cons (q_sub (qv 1) qint) qa_nil))))) (gs_one (g_up (qs_freeze 3 (qs_ret (q_ix (qe_lst (qa_cons (qv 3) (qa_cons (q_tupleOf T.tuple (qa_cons (qv 3) qa_nil)) qa_nil))) (q_mod (qv 2) qint) (fun _ _ => rfl)))))))))))), obl_law_thing_1 A⟩
theorem knl_law_thing_2 (F : Df K mg "_law_thing" s_law_thing ["_law_digits_here", "_law_deep"]) (T : Txt mg) (kl : KnownL P w K mg base 3 "_law_thing" fl_law_thing_1) : KnownL P w K mg base 4 "_law_thing" fl_law_thing_2 :=
  have nd := sc_law_thing.nd; F.knownL sc_law_thing lenl_law_thing_2 fun fa cdv A_ outer s H E hr A => ⟨tl_law_thing A fl_law_thing_1, (gs_cons (g_setE 2 nd (eg_mod (eg_popL 0) (eg_up qint))) (gs_cons (g_if (QW.t (qw_or (t_eq hr.units (qv 2) qint) (qw_or1 (t_eq hr.units (qv 1) qint)))) (gs_one (g_retE (eg_ix (eg_up (qe_lst (qa_cons qnon (qa_cons qbl (qa_cons qbl (qa_cons qint (qa_cons qint (qa_cons (q_neg qint) (qa_cons (q_pow qint qint) (qa_cons qstr (qa_cons qstr (qa_cons qstr (qa_cons qstr (qa_cons (qe_tup qa_nil) (qa_cons (qe_lst qa_nil) qa_nil))))))))))))))) (eg_mod (eg_popL 0) (eg_up qint)) (fun _ _ => rfl)))) (gs_up qss_nil)) (gs_cons (g_if (t_lt (qv 2) qint) (gs_one (g_retE (eg_sub (eg_popL 0) (eg_up qint)))) (gs_up qss_nil)) (gs_cons (g_if (t_lt (qv 2) qint) (gs_one (g_retE (eg_ix (eg_up (qe_lst (qa_cons qstr (qa_cons qstr (qa_cons qstr (qa_cons qstr (qa_cons qstr (qa_cons qstr qa_nil)))))))) (eg_mod (eg_popL 0) (eg_up qint)) (fun _ _ => rfl)))) (gs_up qss_nil)) (gs_cons (g_up (qs_setOwn 3 nd (qf_lst qa_nil))) (gs_cons (g_forRE PassesOwn.never rfl rfl T.range (eg_mod (eg_popL 0) (eg_up qint)) (qg_name 4 nd) (gs_one (g_appE 3 (eg_callL 0 kl hr.md (qa_cons (q_sub (qv 1) qint) qa_nil))))) (gs_one (g_up (qs_freeze 3 (qs_ret (q_ix (qe_lst (qa_cons (qv 3) (qa_cons (q_tupleOf T.tuple (qa_cons (qv 3) qa_nil)) qa_nil))) (q_mod (qv 2) qint) (fun _ _ => rfl)))))))))))), obl_law_thing_2 A⟩
theorem knl_law_thing_3 (F : Df K mg "_law_thing" s_law_thing ["_law_digits_here", "_law_deep"]) (T : Txt mg) (kl : KnownL P w K mg base 4 "_law_thing" fl_law_thing_2) : KnownL P w K mg base 5 "_law_thing" fl_law_thing_3 :=
  have nd := sc_law_thing.nd; F.knownL sc_law_thing lenl_law_thing_3 fun fa cdv A_ outer s H E hr A => ⟨tl_law_thing A fl_law_thing_2, (gs_cons (g_setE 2 nd (eg_mod (eg_popL 0) (eg_up qint))) (gs_cons (g_if (QW.t (qw_or (t_eq hr.units (qv 2) qint) (qw_or1 (t_eq hr.units (qv 1) qint)))) (gs_one (g_retE (eg_ix (eg_up (qe_lst (qa_cons qnon (qa_cons qbl (qa_cons qbl (qa_cons qint (qa_cons qint (qa_cons (q_neg qint) (qa_cons (q_pow qint qint) (qa_cons qstr (qa_cons qstr (qa_cons qstr (qa_cons qstr (qa_cons (qe_tup qa_nil) (qa_cons (qe_lst qa_nil) qa_nil))))))))))))))) (eg_mod (eg_popL 0) (eg_up qint)) (fun _ _ => rfl)))) (gs_up qss_nil)) (gs_cons (g_if (t_lt (qv 2) qint) (gs_one (g_retE (eg_sub (eg_popL 0) (eg_up qint)))) (gs_up qss_nil)) (gs_cons (g_if (t_lt (qv 2) qint) (gs_one (g_retE (eg_ix (eg_up (qe_lst (qa_cons qstr (qa_cons qstr (qa_cons qstr (qa_cons qstr (qa_cons qstr (qa_cons qstr qa_nil)))))))) (eg_mod (eg_popL 0) (eg_up qint)) (fun _ _ => rfl)))) (gs_up qss_nil)) (gs_cons (g_up (qs_setOwn 3 nd (qf_lst qa_nil))) (gs_cons (g_forRE PassesOwn.never rfl rfl T.range (eg_mod (eg_popL 0) (eg_up qint)) (qg_name 4 nd) (gs_one (g_appE 3 (eg_callL 0 kl hr.md (qa_cons (q_sub (qv 1) qint) qa_nil))))) (gs_one (g_up (qs_freeze 3 (qs_ret (q_ix (qe_lst (qa_cons (qv 3) (qa_cons (q_tupleOf T.tuple (qa_cons (qv 3) qa_nil)) qa_nil))) (q_mod (qv 2) qint) (fun _ _ => rfl)))))))))))), obl_law_thing_3 A⟩
theorem knl_law_thing_4 (F : Df K mg "_law_thing" s_law_thing ["_law_digits_here", "_law_deep"]) (T : Txt mg) (kl : KnownL P w K mg base 5 "_law_thing" fl_law_thing_3) : KnownL P w K mg base 6 "_law_thing" fl_law_thing_4 :=
  have nd := sc_law_thing.nd; F.knownL sc_law_thing lenl_law_thing_4 fun fa cdv A_ outer s H E hr A => ⟨tl_law_thing A fl_law_thing_3, (gs_cons (g_setE 2 nd (eg_mod (eg_popL 0) (eg_up qint))) (gs_cons (g_if (QW.t (qw_or (t_eq hr.units (qv 2) qint) (qw_or1 (t_eq hr.units (qv 1) qint)))) (gs_one (g_retE (eg_ix (eg_up (qe_lst (qa_cons qnon (qa_cons qbl (qa_cons qbl (qa_cons qint (qa_cons qint (qa_cons (q_neg qint) (qa_cons (q_pow qint qint) (qa_cons qstr (qa_cons qstr (qa_cons qstr (qa_cons qstr (qa_cons (qe_tup qa_nil) (qa_cons (qe_lst qa_nil) qa_nil))))))))))))))) (eg_mod (eg_popL 0) (eg_up qint)) (fun _ _ => rfl)))) (gs_up qss_nil)) (gs_cons (g_if (t_lt (qv 2) qint) (gs_one (g_retE (eg_sub (eg_popL 0) (eg_up qint)))) (gs_up qss_nil)) (gs_cons (g_if (t_lt (qv 2) qint) (gs_one (g_retE (eg_ix (eg_up (qe_lst (qa_cons qstr (qa_cons qstr (qa_cons qstr (qa_cons qstr (qa_cons qstr (qa_cons qstr qa_nil)))))))) (eg_mod (eg_popL 0) (eg_up qint)) (fun _ _ => rfl)))) (gs_up qss_nil)) (gs_cons (g_up (qs_setOwn 3 nd (qf_lst qa_nil))) (gs_cons (g_forRE PassesOwn.never rfl rfl T.range (eg_mod (eg_popL 0) (eg_up qint)) (qg_name 4 nd) (gs_one (g_appE 3 (eg_callL 0 kl hr.md (qa_cons (q_sub (qv 1) qint) qa_nil))))) (gs_one (g_up (qs_freeze 3 (qs_ret (q_ix (qe_lst (qa_cons (qv 3) (qa_cons (q_tupleOf T.tuple (qa_cons (qv 3) qa_nil)) qa_nil))) (q_mod (qv 2) qint) (fun _ _ => rfl)))))))))))), obl_law_thing_4 A⟩
theorem kn_law {fa : Addr} {fd : FuncData} (F : Fun K "law" "law" s_law fa fd) (T : Txt mg) (k_law_cell : Known P w K mg base 1 "_law_cell" f_law_cell) (k_law_failed : Known P w K mg base 10 "_law_failed" f_law_failed) (ky_law_row : KnownN P w K mg base 2 "_law_row" f_law_row) (kl_law_thing_2 : KnownL P w K mg base 4 "_law_thing" fl_law_thing_2) (kl_law_thing_4 : KnownL P w K mg base 6 "_law_thing" fl_law_thing_4) : FnOk P w K mg base CX0 11 fa fd ["_law_script"] (spF K (fLaw 63)) :=
  have nd := sc_law.nd; Fun.fnok F sc_law len_law fun cdv A outer s H E hr => ⟨t_law, (qss_cons (qs_forR1 PassesOwn.never rfl rfl T.range (qa_cons (q_max T.max (qa_cons qint (qa_cons (q_min T.min (qa_cons qint (qa_cons (q_len T.len (qa_cons (qv 0) qa_nil)) qa_nil))) qa_nil))) qa_nil) (qg_name 1 nd) (qss_cons (qs_set 2 nd (q_call k_law_cell hr.md (qa_cons (qv 0) (qa_cons (qv 1) qa_nil)))) (qss_cons (qs_setOwn 3 nd (qf_callN ky_law_row hr.md (qa_cons (qv 2) (qa_cons qint (qa_cons qint qa_nil))))) (qss_one (qs_forR1 PassesOwn.never rfl rfl T.range (qa_cons qint qa_nil) (qg_name 4 nd) (qss_cons (qs_asgE (qe_callL 3 kl_law_thing_4 hr.md (qa_cons qint qa_nil)) (qg_name 5 nd)) (qss_cons (qs_if (QW.t (qw_and (qt_val (q_isi T.isinstance T.tuple boot_tuple' (qv 5))) (qw_and (t_gt (q_len T.len (qa_cons (qv 5) qa_nil)) qint) (qw_and1 (t_inL hr.units (q_ix (qv 5) qint (fun _ _ => rfl)) (qe_lst (qa_cons qstr (qa_cons qstr (qa_cons qstr (qa_cons qstr qa_nil)))))))))) (qss_one (qs_set 5 nd (q_add (qe_tup (qa_cons qint qa_nil)) (q_sl (qv 5) (qo_some qint) qo_none)))) qss_nil) (qss_cons (qs_if (t_ne hr.units (q_call k_law_failed hr.md (qa_cons (qv 5) qa_nil)) qint) (qss_one (qs_ret qbl)) qss_nil) (qss_cons (qs_asgE (qe_mod (qe_pop 3) (QEe.up qint)) (qg_name 6 nd)) (qss_cons (qs_asgE (qe_add (QEe.up qint) (qe_mod (qe_pop 3) (QEe.up qint))) (qg_name 7 nd)) (qss_cons (qs_setOwn 8 nd (qf_lst qa_nil)) (qss_cons (qs_forR1 PassesOwn.never rfl rfl T.range (qa_cons (q_sub (qv 7) qint) qa_nil) (qg_name 9 nd) (qss_cons (qs_asgE (qe_callL 3 kl_law_thing_2 hr.md (qa_cons qint qa_nil)) (qg_name 10 nd)) (qss_cons (qs_if (QW.t (qw_and (t_eq hr.units (qv 9) qint) (qw_and1 (qt_val (q_isi T.isinstance T.tuple boot_tuple' (qv 10)))))) (qss_one (qs_set 10 nd (q_listOf T.list (qa_cons (qv 10) qa_nil)))) qss_nil) (qss_one (qs_append 8 (qv 10)))))) (qss_cons (qs_set 11 nd (q_add qint (q_intOf T.int (qa_cons (q_eq hr.units (qv 7) (q_ix (qe_lst (qa_cons qint (qa_cons qint (qa_cons qint (qa_cons qint qa_nil))))) (qv 6) (fun _ _ => rfl))) qa_nil)))) (qss_one (qs_freeze 8 (qs_if (t_ne hr.units (q_call k_law_failed hr.md (qa_cons (q_add (qe_tup (qa_cons (q_ix (qe_lst (qa_cons qstr (qa_cons qstr (qa_cons qstr (qa_cons qstr qa_nil))))) (qv 6) (fun _ _ => rfl)) qa_nil)) (q_tupleOf T.tuple (qa_cons (qv 8) qa_nil))) qa_nil)) (qv 11)) (qss_one (qs_ret qbl)) qss_nil)))))))))))))))) (qss_one (qs_ret qbl))), ob_law⟩
end
theorem all_mk {l : PySem.W.OpenLaw} {w : World} {K : PySem.W.Frag} {h : Heap} {mg : Str → Option Value} {fa : Addr} {c_NoFan : Addr} {c_NoPaper : Addr} {c_NoText : Addr} {c_NoTurning : Addr} {c_FanError : Addr} {a_FORMS : Addr} {es_FORMS : Array DictEntry} {n_FORMS : Nat} {f0_FORMS : Addr} {f1_FORMS : Addr} {f2_FORMS : Addr} {fi_NoFan : Addr} {oc_NoFan : Value} {kV_NoFan : Value} {dc_NoFan : Value} {pm_NoFan : Value} {cd_NoFan : Value} {ct_NoFan : Value} {od_NoFan : Option Addr} {an_NoFan : Option Addr} {sl_NoFan : Array (Option Value)} {ta_NoFan : Addr} {tn_NoFan : Nat} {ts_NoFan : Array (Option Value)} {tt_NoFan : Tok} {fi_NoPaper : Addr} {oc_NoPaper : Value} {kV_NoPaper : Value} {dc_NoPaper : Value} {pm_NoPaper : Value} {cd_NoPaper : Value} {ct_NoPaper : Value} {od_NoPaper : Option Addr} {an_NoPaper : Option Addr} {sl_NoPaper : Array (Option Value)} (X : K.In h) (G : h.Ns mainGlobals mg) (hfa : mg "law" = some (.ref fa))
    (D1 : DefIn K "are_two_tuples" s_are_two_tuples)
    (D2 : DefIn K "look" s_look)
    (D3 : DefIn K "is_fan" s_is_fan)
    (D4 : DefIn K "is_table" s_is_table)
    (D5 : DefIn K "failing_in" s_failing_in)
    (D6 : DefIn K "failing_out" s_failing_out)
    (D7 : DefIn K "failing_same" s_failing_same)
    (D8 : DefIn K "failing_leaver" s_failing_leaver)
    (D9 : DefIn K "first_failing" s_first_failing)
    (D10 : DefIn K "looked" s_looked)
    (D11 : DefIn K "_law_cell" s_law_cell)
    (D12 : DefIn K "_law_digits" s_law_digits)
    (D13 : DefIn K "_law_mixed" s_law_mixed)
    (D14 : DefIn K "_law_row" s_law_row)
    (D15 : DefIn K "_law_failed" s_law_failed)
    (D16 : DefIn K "_law_thing" s_law_thing)
    (D17 : DefIn K "law" s_law)
    (z0 : PySem.W.nsIn K mainGlobals "ValueError" = some none)
    (z1 : PySem.W.nsIn K mainGlobals "abs" = some none)
    (z2 : PySem.W.nsIn K mainGlobals "int" = some none)
    (z3 : PySem.W.nsIn K mainGlobals "isinstance" = some none)
    (z4 : PySem.W.nsIn K mainGlobals "len" = some none)
    (z5 : PySem.W.nsIn K mainGlobals "list" = some none)
    (z6 : PySem.W.nsIn K mainGlobals "max" = some none)
    (z7 : PySem.W.nsIn K mainGlobals "min" = some none)
    (z8 : PySem.W.nsIn K mainGlobals "range" = some none)
    (z9 : PySem.W.nsIn K mainGlobals "str" = some none)
    (z10 : PySem.W.nsIn K mainGlobals "tuple" = some none)
    (g_FORMS : PySem.W.nsIn K mainGlobals "FORMS" = some (some (.ref a_FORMS)))
    (l_FORMS : K.lookup a_FORMS = some ⟨.type "dict", none, .dict es_FORMS n_FORMS, #[]⟩)
    (k_FORMS : PySem.W.KeysLit w.params es_FORMS.toList)
    (y_FORMS : (a_FORMS == sysModules) = false)
    (b_FORMS : L2.L3.TabF es_FORMS.toList [("in", f0_FORMS), ("out", f1_FORMS), ("leaver", f2_FORMS)])
    (h_in_FORMS : PySem.W.nsIn K mainGlobals "failing_in" = some (some (.ref f0_FORMS)))
    (h_out_FORMS : PySem.W.nsIn K mainGlobals "failing_out" = some (some (.ref f1_FORMS)))
    (h_leaver_FORMS : PySem.W.nsIn K mainGlobals "failing_leaver" = some (some (.ref f2_FORMS)))
    (n_NoFan : PySem.W.nsIn K mainGlobals "NoFan" = some (some (.ref c_NoFan)))
    (n_NoPaper : PySem.W.nsIn K mainGlobals "NoPaper" = some (some (.ref c_NoPaper)))
    (n_NoText : PySem.W.nsIn K mainGlobals "NoText" = some (some (.ref c_NoText)))
    (n_NoTurning : PySem.W.nsIn K mainGlobals "NoTurning" = some (some (.ref c_NoTurning)))
    (n_FanError : PySem.W.nsIn K mainGlobals "FanError" = some (some (.ref c_FanError)))
    (j_NoFan : PySem.W.findIn K (.ref c_NoFan) "__init__" = some (some (.ref fi_NoFan)))
    (l_NoFan : K.lookup fi_NoFan = some ⟨oc_NoFan, od_NoFan, .func (PySem.W.fnOf "__init__" "NoFan.__init__" (defArgs si_NoFan) (defBody si_NoFan) (defScope si_NoFan) (.ref ta_NoFan) kV_NoFan dc_NoFan pm_NoFan an_NoFan cd_NoFan ct_NoFan), sl_NoFan⟩)
    (q_NoFan : PySem.W.codeIn K cd_NoFan "NoFan.__init__" = true)
    (dl_NoFan : K.lookup ta_NoFan = some ⟨.type "tuple", none, .seq #[.int 0 tt_NoFan] tn_NoFan, ts_NoFan⟩)
    (x_NoFan : excInI K c_NoFan fi_NoFan = true)
    (t_NoFan : PySem.W.typeIn K (.ref fi_NoFan) = some (.type "function"))
    (sa_NoFan : PySem.W.findIn K (.ref c_NoFan) "__setattr__" = some (some (.builtin "object.__setattr__")))
    (a_NoFan_where : PySem.W.findIn K (.ref c_NoFan) "where" = some none)
    (a_NoFan_at : PySem.W.findIn K (.ref c_NoFan) "at" = some none)
    (o1_NoFan : PySem.W.findIn K (.ref c_NoFan) "__getattribute__" = some (some (.builtin "BaseException.__getattribute__")))
    (o2_NoFan : PySem.W.findIn K (.ref c_NoFan) "__getattr__" = some none)
    (o3_NoFan : PySem.W.hasDictIn K c_NoFan = true)
    (o4_NoFan : PySem.W.findIn K (.ref c_NoFan) "__class__" = some (some (.builtin "object.__class__")))
    (o5_NoFan : PySem.W.specialIn K (.builtin "object.__class__") "__get__" = some (some (.builtin "getset_descriptor.__get__")))
    (o6_NoFan : PySem.W.takesIn K (.builtin "object.__class__") = some true)
    (o7_NoFan : PySem.W.mroIn K c_NoFan (.type "object") = some true)
    (o8_NoFan : PySem.W.subIn K (.ref c_NoFan) (.type "BaseException") = some true)
    (j_NoPaper : PySem.W.findIn K (.ref c_NoPaper) "__init__" = some (some (.ref fi_NoPaper)))
    (l_NoPaper : K.lookup fi_NoPaper = some ⟨oc_NoPaper, od_NoPaper, .func (PySem.W.fnOf "__init__" "NoPaper.__init__" (defArgs si_NoPaper) (defBody si_NoPaper) (defScope si_NoPaper) .none kV_NoPaper dc_NoPaper pm_NoPaper an_NoPaper cd_NoPaper ct_NoPaper), sl_NoPaper⟩)
    (q_NoPaper : PySem.W.codeIn K cd_NoPaper "NoPaper.__init__" = true)
    (x_NoPaper : excInI K c_NoPaper fi_NoPaper = true)
    (t_NoPaper : PySem.W.typeIn K (.ref fi_NoPaper) = some (.type "function"))
    (sa_NoPaper : PySem.W.findIn K (.ref c_NoPaper) "__setattr__" = some (some (.builtin "object.__setattr__")))
    (a_NoPaper_at : PySem.W.findIn K (.ref c_NoPaper) "at" = some none)
    (o1_NoPaper : PySem.W.findIn K (.ref c_NoPaper) "__getattribute__" = some (some (.builtin "BaseException.__getattribute__")))
    (o2_NoPaper : PySem.W.findIn K (.ref c_NoPaper) "__getattr__" = some none)
    (o3_NoPaper : PySem.W.hasDictIn K c_NoPaper = true)
    (o4_NoPaper : PySem.W.findIn K (.ref c_NoPaper) "__class__" = some (some (.builtin "object.__class__")))
    (o5_NoPaper : PySem.W.specialIn K (.builtin "object.__class__") "__get__" = some (some (.builtin "getset_descriptor.__get__")))
    (o6_NoPaper : PySem.W.takesIn K (.builtin "object.__class__") = some true)
    (o7_NoPaper : PySem.W.mroIn K c_NoPaper (.type "object") = some true)
    (o8_NoPaper : PySem.W.subIn K (.ref c_NoPaper) (.type "BaseException") = some true)
    (kt0 : PySem.W.kitAny K (.ref c_NoPaper) [.ref c_NoFan, .ref c_NoTurning, .ref c_NoText] = some false)
    (kt1 : PySem.W.kitOne K (.ref c_NoPaper) (.type "ValueError") = some true)
    (kt2 : PySem.W.kitOne K (.ref c_NoPaper) (.ref c_FanError) = some true)
    : ∃ fd : FuncData, (∀ (s : Shared) (v : Value), BindsTo s fd ⟨[v], []⟩ [("_law_script", v)]) ∧ ∀ base : Heap, K.In base → base.Ns mainGlobals mg → FnOk l.prog w K mg base CX0 11 fa fd ["_law_script"] (spF K (fLaw 63)) := by
  have T : Txt mg := ⟨PySem.W.mg_none_of X G z0, PySem.W.mg_none_of X G z1, PySem.W.mg_none_of X G z2, PySem.W.mg_none_of X G z3, PySem.W.mg_none_of X G z4, PySem.W.mg_none_of X G z5, PySem.W.mg_none_of X G z6, PySem.W.mg_none_of X G z7, PySem.W.mg_none_of X G z8, PySem.W.mg_none_of X G z9, PySem.W.mg_none_of X G z10⟩
  have TC : Tc K w ⟨c_NoFan, c_NoPaper, c_NoText, c_NoTurning, c_FanError, a_FORMS, es_FORMS, n_FORMS, f0_FORMS, f1_FORMS, f2_FORMS, fi_NoFan, oc_NoFan, kV_NoFan, dc_NoFan, pm_NoFan, cd_NoFan, ct_NoFan, od_NoFan, an_NoFan, sl_NoFan, ta_NoFan, tn_NoFan, ts_NoFan, tt_NoFan, fi_NoPaper, oc_NoPaper, kV_NoPaper, dc_NoPaper, pm_NoPaper, cd_NoPaper, ct_NoPaper, od_NoPaper, an_NoPaper, sl_NoPaper⟩ := ⟨g_FORMS, l_FORMS, k_FORMS, y_FORMS, b_FORMS, h_in_FORMS, h_out_FORMS, h_leaver_FORMS, n_NoFan, n_NoPaper, n_NoText, n_NoTurning, n_FanError, j_NoFan, l_NoFan, q_NoFan, dl_NoFan, x_NoFan, t_NoFan, sa_NoFan, a_NoFan_where, a_NoFan_at, o1_NoFan, o2_NoFan, o3_NoFan, o4_NoFan, o5_NoFan, o6_NoFan, o7_NoFan, o8_NoFan, j_NoPaper, l_NoPaper, q_NoPaper, x_NoPaper, t_NoPaper, sa_NoPaper, a_NoPaper_at, o1_NoPaper, o2_NoPaper, o3_NoPaper, o4_NoPaper, o5_NoPaper, o6_NoPaper, o7_NoPaper, o8_NoPaper, kt0, kt1, kt2⟩
  obtain ⟨dl, FL, bl⟩ := D17.law X G hfa fun _ _ _ _ _ _ _ => rfl
  refine ⟨dl, bl, fun base _ _ => ?_⟩
  have k_are_two_tuples := kn_are_two_tuples (P := l.prog) (w := w) (base := base) ⟨D1.get X G fun _ _ _ _ _ _ => bn1 fun _ => rfl⟩ T
  have k_law_cell := kn_law_cell (P := l.prog) (w := w) (base := base) ⟨D11.get X G fun _ _ _ _ _ _ => bn2 fun _ _ => rfl⟩ T
  have ky_law_digits := kny_law_digits (P := l.prog) (w := w) (base := base) ⟨D12.get X G fun _ _ _ _ _ _ => bn3 fun _ _ _ => rfl⟩ T
  have k_law_digits := ky_law_digits.known
  have ky_law_mixed := kny_law_mixed (P := l.prog) (w := w) (base := base) ⟨D13.get X G fun _ _ _ _ _ _ => bn3 fun _ _ _ => rfl⟩ T
  have k_law_mixed := ky_law_mixed.known
  have ky_law_row := kny_law_row (P := l.prog) (w := w) (base := base) ⟨D14.get X G fun _ _ _ _ _ _ => bn3 fun _ _ _ => rfl⟩ T ky_law_digits ky_law_mixed
  have k_law_row := ky_law_row.known
  have k_is_table := kn_is_table (P := l.prog) (w := w) (base := base) ⟨D4.get X G fun _ _ _ _ _ _ => bn1 fun _ => rfl⟩ k_are_two_tuples
  have k_failing_out := kn_failing_out (P := l.prog) (w := w) (base := base) ⟨D6.get X G fun _ _ _ _ _ _ => bn3 fun _ _ _ => rfl⟩ k_is_table
  have kv_look := knv_look (P := l.prog) (w := w) (base := base) ⟨D2.get X G fun _ _ _ _ _ _ => bn1 fun _ => rfl⟩ TC k_are_two_tuples
  have k_is_fan := kn_is_fan (P := l.prog) (w := w) (base := base) ⟨D3.get X G fun _ _ _ _ _ _ => bn1 fun _ => rfl⟩ TC kv_look
  have k_failing_leaver := kn_failing_leaver (P := l.prog) (w := w) (base := base) ⟨D8.get X G fun _ _ _ _ _ _ => bn3 fun _ _ _ => rfl⟩ k_is_table
  have F16 : Df K mg _ s_law_thing ["_law_digits_here", "_law_deep"] := ⟨D16.get X G fun _ _ _ _ _ _ => bn2 fun _ _ => rfl⟩
  have kl_law_thing_no := knl_law_thing_no (P := l.prog) (w := w) (base := base) F16
  have kl_law_thing_0 := knl_law_thing_0 (P := l.prog) (w := w) (base := base) F16 T kl_law_thing_no
  have kl_law_thing_1 := knl_law_thing_1 (P := l.prog) (w := w) (base := base) F16 T kl_law_thing_0
  have kl_law_thing_2 := knl_law_thing_2 (P := l.prog) (w := w) (base := base) F16 T kl_law_thing_1
  have kl_law_thing_3 := knl_law_thing_3 (P := l.prog) (w := w) (base := base) F16 T kl_law_thing_2
  have kl_law_thing_4 := knl_law_thing_4 (P := l.prog) (w := w) (base := base) F16 T kl_law_thing_3
  have k_failing_in := kn_failing_in (P := l.prog) (w := w) (base := base) ⟨D5.get X G fun _ _ _ _ _ _ => bn3 fun _ _ _ => rfl⟩ k_is_fan
  have k_failing_same := kn_failing_same (P := l.prog) (w := w) (base := base) ⟨D7.get X G fun _ _ _ _ _ _ => bn2 fun _ _ => rfl⟩ k_is_fan
  have k_first_failing := kn_first_failing (P := l.prog) (w := w) (base := base) ⟨D9.get X G fun _ _ _ _ _ _ => bn1 fun _ => rfl⟩ T TC k_failing_in k_failing_leaver k_failing_out k_failing_same
  have kv_looked := knv_looked (P := l.prog) (w := w) (base := base) ⟨D10.get X G fun _ _ _ _ _ _ => bn1 fun _ => rfl⟩ TC k_first_failing
  have k_law_failed := kn_law_failed (P := l.prog) (w := w) (base := base) ⟨D15.get X G fun _ _ _ _ _ _ => bn1 fun _ => rfl⟩ T TC kv_looked
  exact kn_law FL T k_law_cell k_law_failed ky_law_row kl_law_thing_2 kl_law_thing_4
end KR
namespace PySem.W.Fast
theorem tw12591601465579921109 : True := trivial
theorem tw13423545226560964946 : True := trivial
theorem tw7311111334819486921 : True := trivial
theorem tw4168901124318536759 : True := trivial
theorem tw12048196520375399352 : True := trivial
theorem tw12226402966357562725 : True := trivial
theorem tw10351264259178537700 : True := trivial
theorem tw7923373644330809885 : True := trivial
theorem tw4316121678278318293 : True := trivial
theorem tw13797443900219580235 : True := trivial
theorem tw3311948289139805046 : True := trivial
theorem tw10579900413566676668 : True := trivial
theorem tw6040059562985139550 : True := trivial
theorem tw3657588520983038146 : True := trivial
theorem tw4245600411342291579 : True := trivial
theorem tw17739719065722279759 : True := trivial
theorem tw16028632835978859029 : True := trivial
theorem tw12686464077801300181 : True := trivial
theorem tw14515417619112136827 : True := trivial
theorem tw13752826566902601637 : True := trivial
theorem tw4390625169276072975 : True := trivial
theorem tw10336915594692182798 : True := trivial
theorem tw8555386009348328084 : True := trivial
theorem tw13652679150165254477 : True := trivial
theorem tw13870297240632191673 : True := trivial
theorem tw3754382470006149847 : True := trivial
theorem tw4928977477220328608 : True := trivial
theorem tw17010653784991153492 : True := trivial
theorem tw12345328887824689670 : True := trivial
theorem tw4171668071824351621 : True := trivial
theorem tw4054761279743187578 : True := trivial
theorem tw7810596522508698634 : True := trivial
theorem tw11185979656110663761 : True := trivial
theorem tw5139028958235730840 : True := trivial
theorem tw6894238823460195116 : True := trivial
theorem tw14060946277053946033 : True := trivial
theorem tw11149577733766618750 : True := trivial
theorem tw10784459752519296187 : True := trivial
theorem tw16278773883864685984 : True := trivial
theorem tw7719403901436859113 : True := trivial
theorem tw12494100536963542801 : True := trivial
theorem tw9676390982038458296 : True := trivial
theorem tw15562824022964204681 : True := trivial
theorem tw2090388086226467822 : True := trivial
theorem tw6443122674694764012 : True := trivial
theorem tw10186424353989640047 : True := trivial
theorem tw3045422515151515620 : True := trivial
theorem tw3819472533959596749 : True := trivial
theorem tw11231502044120750185 : True := trivial
theorem tw13608392603363753511 : True := trivial
theorem tw6170814636328990976 : True := trivial
theorem tw8229337211756922790 : True := trivial
theorem tw15609610669846412479 : True := trivial
theorem tw17282023392246903127 : True := trivial
theorem tw10959784702369164905 : True := trivial
theorem tw18271725823894345140 : True := trivial
theorem tw8368500129231406635 : True := trivial
theorem tw17189843185306218230 : True := trivial
theorem tw13886414901229453793 : True := trivial
theorem tw4899834607558598 : True := trivial
theorem tw18331353125521147973 : True := trivial
theorem tw1084775990760643240 : True := trivial
theorem tw18280873739040919525 : True := trivial
theorem tw16322316890836753107 : True := trivial
theorem tw395229231627424869 : True := trivial
theorem tw12881874295681617660 : True := trivial
theorem tw8923326553309313772 : True := trivial
theorem tw3313682263282518326 : True := trivial
theorem tw15476271117880703005 : True := trivial
theorem tw4515641401517689621 : True := trivial
theorem tw10421431694872300707 : True := trivial
theorem tw13666663387349286209 : True := trivial
theorem tw7225851029888788823 : True := trivial
theorem tw2639065531417968779 : True := trivial
theorem tw11180637396070165386 : True := trivial
theorem tw14521448704900545068 : True := trivial
theorem tw8739807131615656623 : True := trivial
theorem tw17741389200396535087 : True := trivial
theorem tw5938660431085570599 : True := trivial
theorem tw13690110014529141773 : True := trivial
theorem tw6127684909405635629 : True := trivial
theorem tw11625313582295715251 : True := trivial
theorem tw8350705574846323453 : True := trivial
theorem tw5657507031711972377 : True := trivial
theorem tw825780604885031072 : True := trivial
theorem tw10543579661360842647 : True := trivial
theorem tw9355139037572534481 : True := trivial
theorem tw13152225796960845909 : True := trivial
theorem tw1219888600846591514 : True := trivial
theorem tw13432441061888048739 : True := trivial
theorem tw5240298035240103326 : True := trivial
theorem tw1850352236252179840 : True := trivial
theorem tw6108260080289051508 : True := trivial
theorem tw9804746506140425034 : True := trivial
theorem tw4495550264346298250 : True := trivial
theorem tw10360226253207812835 : True := trivial
theorem tw491455753966337194 : True := trivial
theorem tw11733341957258341278 : True := trivial
theorem tw15187700668359833016 : True := trivial
theorem tw7165433782137528924 : True := trivial
theorem tw4919344873864053146 : True := trivial
theorem tw3895706015039275843 : True := trivial
theorem tw7068060703383364037 : True := trivial
theorem tw2400004491482448526 : True := trivial
theorem tw1149364466280126028 : True := trivial
theorem tw11686575550012333055 : True := trivial
theorem tw14829597395524710066 : True := trivial
theorem tw2044003875259309097 : True := trivial
theorem tw10947419177633669299 : True := trivial
theorem tw740631134060460579 : True := trivial
theorem tw3273492696284195141 : True := trivial
theorem tw14842180754792813637 : True := trivial
theorem tw7772096893444601392 : True := trivial
theorem tw13620324096625665394 : True := trivial
theorem tw12612294570265985664 : True := trivial
theorem tw1087105163075405387 : True := trivial
theorem tw1501424659541498187 : True := trivial
theorem tw15008334493504316183 : True := trivial
theorem tw9113695125371033429 : True := trivial
theorem tw5327605297541624442 : True := trivial
theorem tw164881452698362914 : True := trivial
theorem tw2653091426623601504 : True := trivial
theorem tw6843589778634403162 : True := trivial
theorem tw18296839455018932118 : True := trivial
theorem tw4855212134151244927 : True := trivial
theorem tw16950438236973101376 : True := trivial
theorem tw2787855161258713586 : True := trivial
theorem tw9759171321922861011 : True := trivial
theorem tw17871315975765836673 : True := trivial
theorem tw17777520607848199136 : True := trivial
theorem tw10482509511762421395 : True := trivial
theorem tw12113001929026689191 : True := trivial
theorem tw7866718037280679667 : True := trivial
theorem tw5343142038246322105 : True := trivial
end PySem.W.Fast
open PySem PySem.W PyProof.Rows
set_option maxRecDepth 100000 in
set_option maxHeartbeats 0 in
theorem PySem.Challenge.cw_fanglue_k84_things_as_papers_holds : PySem.Challenge.rw_fanglue_k84_things_as_papers.Holds := by
  w_on; o_law; k_head; (case hw => w_witness2)
  k_fill
  refine L2.walk_of (l := PySem.Challenge.rw_fanglue_k84_things_as_papers) (n := 63) (k := 11) (x := "_law_script") (CX := fun _ => L2.CX0) (sp := fun w => L2.L3.spF _ (L2.L3.fLaw 63)) rfl (by decide) rfl ⟨rfl, by decide, by decide⟩ (fun w => by kernel_rfl) (fun w => by kernel_rfl) (fun w h Y => PySem.W.kIn_of Y) ?F (fun _ _ a ns hl hS => L2.L3.law_sp hl hS) (fun _ _ _ _ _ z => z)
  case F =>
    intro w mg fa h KX G hmg
    refine' KR.all_mk KX G hmg ?_ ?_ ?_ ?_ ?_ ?_ ?_ ?_ ?_ ?_ ?_ ?_ ?_ ?_ ?_ ?_ ?_ ?_ ?_ ?_ ?_ ?_ ?_ ?_ ?_ ?_ ?_ ?_ ?_ ?_ ?_ ?_ ?_ ?_ ?_ ?_ ?_ ?_ ?_ ?_ ?_ ?_ ?_ ?_ ?_ ?_ ?_ ?_ ?_ ?_ ?_ ?_ ?_ ?_ ?_ ?_ ?_ ?_ ?_ ?_ ?_ ?_ ?_ ?_ ?_ ?_ ?_ ?_ ?_ ?_ ?_ ?_ ?_ ?_ ?_ ?_
    rotate_left 35
    iterate 17 exact ⟨⟨_, _, _, _, _, _, _, _, _, _, by k_is, by k_is, by k_is, by k_is⟩⟩
    iterate 11 k_is
    iterate 2 (k_is)
    k_keys
    first | rfl | decide
    exact ⟨⟨_, rfl, rfl⟩, ⟨⟨_, rfl, rfl⟩, ⟨⟨_, rfl, rfl⟩, True.intro⟩⟩⟩
    iterate 12 (k_is)
    kernel_rfl
    iterate 15 (k_is)
    kernel_rfl
    iterate 11 (k_is)
    iterate 3 (kit_is)
