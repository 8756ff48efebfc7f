import PyProof.Rows.All
import Wide.All
import OpenK.AllK
import Wide.FinOn
import Lean
import PyProof.EqAt
import PyProof.EqKinds
import PyProof.TupleCall
import PyProof.NeKinds
import PyProof.CompFree
import KE.KIsAll
import OpenK.KOwn
import PyProof.RulesAs
import KE.RegKIsAll
import PyProof.ExcAttrAll.ValueError
import KE.KUnpack
import PyProof.Rows.StrWeight2
import PyProof.StrBlockI
import OpenK.KTop
import PyProof.ListStr
import PyProof.EnumMake
import PyProof.TupleIter
import PyProof.ListRange
import PyProof.PassesOwn
import PyProof.ExcInit
import PyProof.InstStoreFacts
import PyProof.DictFindH
import PyProof.DictIter
import PyProof.DictWalks
import PyProof.DictCompW
import PyProof.DictUpdate
import PyProof.SumWalk
import PyProof.ZipIter
import PySem.Challenge.RW_fanglue_k31_first_words
set_option Elab.async false
set_option linter.all false
set_option maxRecDepth 100000
namespace L2
open PySem PySem.Spec PyProof.Rows
abbrev Key := Sum Int Str
def keyIs : Key → Value → Bool
  | .inl k, v => Value.isInt k v
  | .inr x, v => Value.isStrOf x v
def keyH (w : World) : Key → Int
  | .inl k => hashInt k
  | .inr x => hashStr w x
theorem keyIs_shape : ∀ {k : Key} {v : Value}, keyIs k v = true → (∃ i t, k = Sum.inl i ∧ v = Value.int i t) ∨ (∃ x t, k = Sum.inr x ∧ v = Value.str x t)
  | .inl i, v, h => by
    obtain ⟨t, e⟩ := Value.isInt_shape (k := i) (v := v) h
    exact .inl ⟨i, t, rfl, e⟩
  | .inr x, v, h => by
    obtain ⟨t, e⟩ := Value.isStrOf_shape (x := x) (v := v) h
    exact .inr ⟨x, t, rfl, e⟩
theorem keyIs_int (i : Int) (t : Tok) : keyIs (.inl i) (.int i t) = true := by simp [keyIs, Value.isInt]
theorem keyIs_str (x : Str) (t : Tok) : keyIs (.inr x) (.str x t) = true := by simp [keyIs, Value.isStrOf]
theorem key_ll (a b : Int) : decide ((Sum.inl a : Key) = Sum.inl b) = (a == b) := by
  by_cases e : a = b
  · subst e; simp
  · have h : ¬ (Sum.inl a : Key) = Sum.inl b := fun q => e (Sum.inl.inj q)
    rw [decide_eq_false h]
    exact (beq_eq_false_iff_ne.mpr e).symm
theorem key_rr (a b : Str) : decide ((Sum.inr a : Key) = Sum.inr b) = decide (a = b) := by
  by_cases e : a = b
  · subst e; simp
  · have h : ¬ (Sum.inr a : Key) = Sum.inr b := fun q => e (Sum.inr.inj q)
    rw [decide_eq_false h, decide_eq_false e]
theorem key_lr (a : Int) (b : Str) : decide ((Sum.inl a : Key) = Sum.inr b) = false := decide_eq_false (fun q => nomatch q)
theorem key_rl (a : Str) (b : Int) : decide ((Sum.inr a : Key) = Sum.inl b) = false := decide_eq_false (fun q => nomatch q)
def mixKind (prog : Program) (w : World) : PySem.KeyKind prog w Key where
  is := keyIs
  hash := keyH w
  inj := fun v a b ha hb => by
    rcases keyIs_shape ha with ⟨i, t, rfl, rfl⟩ | ⟨x, t, rfl, rfl⟩
    · rcases keyIs_shape hb with ⟨j, u, rfl, e⟩ | ⟨y, u, rfl, e⟩
      · injection e with e1 _; rw [e1]
      · exact nomatch e
    · rcases keyIs_shape hb with ⟨j, u, rfl, e⟩ | ⟨y, u, rfl, e⟩
      · exact nomatch e
      · injection e with e1 _; rw [e1]
  byValue := fun k v h => by
    rcases keyIs_shape h with ⟨i, t, rfl, rfl⟩ | ⟨x, t, rfl, rfl⟩ <;> rfl
  pyHash := fun hv h => by
    rcases keyIs_shape hv with ⟨i, t, rfl, rfl⟩ | ⟨x, t, rfl, rfl⟩
    · exact wpAny_pyHash_int h
    · exact wpAny_pyHash_str h
  eqBool := fun hu hv h => by
    rcases keyIs_shape hu with ⟨i, t, rfl, rfl⟩ | ⟨x, t, rfl, rfl⟩
    · rcases keyIs_shape hv with ⟨j, u, rfl, rfl⟩ | ⟨y, u, rfl, rfl⟩
      · rw [key_ll] at h; exact wpAny_eqBool_int h
      · rw [key_lr] at h; exact SeqAt.EqAt.int_str i t y u _ _ _ _ h
    · rcases keyIs_shape hv with ⟨j, u, rfl, rfl⟩ | ⟨y, u, rfl, rfl⟩
      · rw [key_rl] at h; exact SeqAt.EqAt.str_int x t j u _ _ _ _ h
      · rw [key_rr] at h; exact wpAny_eqBool_str h
  «strs» := fun k x t v h => by
    rcases keyIs_shape h with ⟨i, u, rfl, e⟩ | ⟨y, u, rfl, e⟩
    · exact nomatch e
    · injection e with e1 _
      subst e1
      cases v <;> rfl
theorem mixKind_int (prog : Program) (w : World) (i : Int) (t : Tok) : (mixKind prog w).is (.inl i) (.int i t) = true := keyIs_int i t
theorem mixKind_str (prog : Program) (w : World) (x : Str) (t : Tok) : (mixKind prog w).is (.inr x) (.str x t) = true := keyIs_str x t
end L2
namespace L2
open PySem PySem.Spec PyProof.Rows
inductive V where
  | non | bl (b : Bool) | int (i : Int) | str (x : Str) | byt (b : Array UInt8) | flt (b : UInt64) | ref (a : Addr) | ty (n : String)
  deriving DecidableEq
def RelV : V → Value → Prop
  | .non, u => u = Value.none
  | .bl b, u => u = Value.bool b
  | .int i, u => ∃ t, u = Value.int i t
  | .str x, u => ∃ t, u = Value.str x t
  | .byt b, u => ∃ t, u = Value.bytes b t
  | .flt b, u => ∃ t, u = Value.float b t
  | .ref a, u => u = Value.ref a
  | .ty n, u => u = Value.type n
abbrev Vals : List V → List Value → Prop := Paired RelV
theorem Vals.length {xs : List V} {us : List Value} (r : Vals xs us) : xs.length = us.length := Paired.length r
theorem Vals.get : ∀ {xs : List V} {us : List Value} {i : Nat} {x : V}, Vals xs us → xs[i]? = some x → ∃ u, us[i]? = some u ∧ RelV x u
  | _, _, _, _, .nil, e => by simp at e
  | _, _, 0, _, .cons r _, e => by simp at e; subst e; exact ⟨_, rfl, r⟩
  | _, _, i + 1, x, .cons _ t, e => by
    obtain ⟨u, h1, h2⟩ := Vals.get (i := i) (x := x) t (by simpa using e)
    exact ⟨u, by simpa using h1, h2⟩
theorem Vals.set {x : V} {u : Value} (r : RelV x u) : ∀ {xs : List V} {us : List Value} (i : Nat), Vals xs us → Vals (xs.set i x) (us.set i u)
  | _, _, _, .nil => .nil
  | _, _, 0, .cons _ t => .cons r t
  | _, _, i + 1, .cons q t => .cons q (Vals.set r i t)
theorem Vals.append : ∀ {xs ys : List V} {us ws : List Value}, Vals xs us → Vals ys ws → Vals (xs ++ ys) (us ++ ws)
  | _, _, _, _, .nil, s => s
  | _, _, _, _, .cons r t, s => .cons r (Vals.append t s)
theorem Vals.take : ∀ {xs : List V} {us : List Value} (n : Nat), Vals xs us → Vals (xs.take n) (us.take n)
  | _, _, 0, _ => .nil
  | _, _, _ + 1, .nil => .nil
  | _, _, n + 1, .cons r t => .cons r (Vals.take n t)
theorem Vals.drop : ∀ {xs : List V} {us : List Value} (n : Nat), Vals xs us → Vals (xs.drop n) (us.drop n)
  | _, _, 0, r => r
  | _, _, _ + 1, .nil => .nil
  | _, _, n + 1, .cons _ t => Vals.drop n t
def RelO : Option V → Option Value → Prop
  | some v, some u => RelV v u
  | none, none => True
  | _, _ => False
def KV {κ : Type} : List (κ × V) → List (κ × Value) → Prop := Paired fun (p : κ × V) (q : κ × Value) => p.1 = q.1 ∧ RelV p.2 q.2
def kV : Key → V
  | .inl i => .int i
  | .inr x => .str x
inductive HO where
  | lst (xs : List V)
  | tup (xs : List V)
  | dK (kvs : List (Key × V)) | dT (kvs : List (List Key × V))
  | set (S : Int → Bool) (n : Nat)
  | ins (C dx : Addr) (fs : List (Str × V))
  | own (x : Addr)
  | xd (fs : List (Str × V))
  | met (f x : Addr)
  | rng (lo hi : Int)
  | frz (o : Obj) (u : HO)
  | tbl (ps : Array Value)
  | ext (φ : Heap → Prop)
abbrev Hp := Addr → Option HO
def upd (H : Hp) (a : Addr) (o : HO) : Hp := fun b => if b = a then some o else H b
theorem upd_same {H : Hp} {a : Addr} {o : HO} : upd H a o a = some o := by unfold upd; rw [if_pos rfl]
theorem upd_ne {H : Hp} {a b : Addr} {o : HO} (h : b ≠ a) : upd H a o b = H b := by unfold upd; rw [if_neg h]
theorem ne_of_none {H : Hp} {a b : Addr} {o : HO} (h : H a = some o) (h' : H b = none) : a ≠ b := by
  intro e; subst e; rw [h] at h'; cases h'
def TupN (h : Heap) (a : Addr) (its : Array Value) : Prop := ∃ o, h.get? a = some o ∧ o.cls = .type "tuple" ∧ (∃ n, o.data = .seq its n) ∧ o.dict = none
theorem TupN.tup {h : Heap} {a : Addr} {its : Array Value} (x : TupN h a its) : IsTup h a its := let ⟨o, e, c, d, _⟩ := x; ⟨o, e, c, d⟩
theorem TupN.new (h : Heap) (its : Array Value) : TupN (h.push { cls := .type "tuple", data := .seq its }) h.objs.size its := ⟨_, Heap.get?_push_size _ rfl, rfl, ⟨_, rfl⟩, rfl⟩
section
variable (P : Program) (w : World)
def ObjOk (H : Hp) (h : Heap) (a : Addr) : HO → Prop
  | .lst xs => xs.length ≤ sizeLine ∧ ∃ (its : List Value) (n : Nat), Vals xs its ∧ h.get? a = some { cls := .type "list", data := .seq its.toArray n }
  | .tup xs => xs.length ≤ sizeLine ∧ ∃ its : List Value, Vals xs its ∧ TupN h a its.toArray
  | .dK kvs => kvs.length ≤ sizeLine ∧ (a == sysModules) = false ∧ ∃ vs, KV kvs vs ∧ h.DictOf (mixKind P w) a vs
  | .dT kvs => kvs.length ≤ sizeLine ∧ (a == sysModules) = false ∧ ∃ xs : List (List Key × Addr × Value),
      Paired (fun (p : List Key × V) (q : List Key × Addr × Value) => p.1 = q.1 ∧ H q.2.1 = some (.tup (p.1.map kV)) ∧ RelV p.2 q.2.2) kvs xs ∧
      ∃ o es ep, h.get? a = some o ∧ o.ExactDict ∧ o.data = .dict es ep ∧ es.toList = xs.map (entryOfKey (tupleKind (mixKind P w))) ∧ (xs.map (·.1)).Nodup
  | .set S n => h.SetOf (intKind P w) a S n
  | .ins C dx fs => H dx = some (.own a) ∧ fs.length ≤ 1000 ∧ dx ≠ a ∧ h.get? a = some (PySem.W.instObj C dx) ∧
      ∃ mA, h.Ns1 dx mA ∧ (∀ f, RelO (fs.lookup f) (mA f)) ∧ PySem.Within mA (fs.map (·.1))
  | .own _ => ∃ o, h.get? a = some o
  | .xd fs => ∃ mA, h.Ns1 a mA ∧ ∀ f, RelO (fs.lookup f) (mA f)
  | .rng lo hi => ∃ t u v, h.get? a = some { cls := .type "range", data := .fields #[.int lo t, .int hi u, .int 1 v] }
  | .frz o u => h.get? a = some o ∧ ObjOk H h a u
  | .tbl ps => h.get? a = some { cls := .none, data := .fields ps }
  | .met f x => h.get? a = some (PySem.W.methodObj (.ref f) (.ref x))
  | .ext φ => φ h ∧ (∃ o, h.get? a = some o) ∧ ∀ h1 h2 : Heap, φ h1 → (∀ o, h1.get? a = some o → h2.get? a = some o) → φ h2
def HOk (H : Hp) (h : Heap) : Prop := ∀ a o, H a = some o → ObjOk P w H h a o
end
section
variable {P : Program} {w : World} {H H' : Hp} {h h' : Heap} {a : Addr} {o : HO}
theorem ObjOk.lt (x : ObjOk P w H h a o) : a < h.objs.size := by
  cases o with
  | lst xs => obtain ⟨_, _, _, _, e⟩ := x; exact Heap.lt_size e
  | tup xs => obtain ⟨_, _, _, p⟩ := x; exact p.tup.lt
  | dK kvs => obtain ⟨_, _, _, _, o, _, _, e, _⟩ := x; exact Heap.lt_size e
  | dT kvs => obtain ⟨_, _, _, _, o, _, _, e, _⟩ := x; exact Heap.lt_size e
  | set S n => obtain ⟨o, _, _, _, e, _⟩ := x; exact Heap.lt_size e
  | ins C dx fs => obtain ⟨_, _, _, e, _⟩ := x; exact Heap.lt_size e
  | own y => obtain ⟨_, e⟩ := x; exact Heap.lt_size e
  | xd fs => obtain ⟨_, ⟨_, _, _, e, _⟩, _⟩ := x; exact Heap.lt_size e
  | rng lo hi => obtain ⟨_, _, _, e⟩ := x; exact Heap.lt_size e
  | frz ob u => obtain ⟨e, _⟩ := x; exact Heap.lt_size e
  | tbl ps => exact Heap.lt_size (show h.get? a = some _ from x)
  | met f y => exact Heap.lt_size (show h.get? a = some _ from x)
  | ext φ => obtain ⟨_, ⟨_, e⟩, _⟩ := x; exact Heap.lt_size e
theorem Paired.mapP {α β : Type} {F G : α → β → Prop} : ∀ {l₁ : List α} {l₂ : List β}, Paired F l₁ l₂ → (∀ a b, F a b → G a b) → Paired G l₁ l₂
  | _, _, .nil, _ => .nil
  | _, _, .cons r t, f => .cons (f _ _ r) (Paired.mapP t f)
theorem ObjOk.stay (x : ObjOk P w H h a o) (k : ∀ b u, (b = a ∨ H b = some (.own a)) → h.get? b = some u → h'.get? b = some u)
    (ho : ∀ b, H b = some (.own a) → H' b = some (.own a)) (ht : ∀ b xs, H b = some (.tup xs) → H' b = some (.tup xs)) : ObjOk P w H' h' a o := by
  induction o with
  | lst xs => obtain ⟨z, its, n, r, e⟩ := x; exact ⟨z, its, n, r, k _ _ (.inl rfl) e⟩
  | tup xs => obtain ⟨z, its, r, ob, e, c⟩ := x; exact ⟨z, its, r, ob, k _ _ (.inl rfl) e, c⟩
  | dK kvs => obtain ⟨z, y, vs, r, ob, es, ep, e, c⟩ := x; exact ⟨z, y, vs, r, ob, es, ep, k _ _ (.inl rfl) e, c⟩
  | dT kvs =>
    obtain ⟨z, y, xs, r, ob, es, ep, e, c⟩ := x
    exact ⟨z, y, xs, Paired.mapP r fun p q z => ⟨z.1, ht _ _ z.2.1, z.2.2⟩, ob, es, ep, k _ _ (.inl rfl) e, c⟩
  | set S n => obtain ⟨ob, es, ep, t, e, c⟩ := x; exact ⟨ob, es, ep, t, k _ _ (.inl rfl) e, c⟩
  | ins C dx fs =>
    obtain ⟨d, z, ne, e, mA, ⟨od, es, ep, e2, c⟩, r⟩ := x
    exact ⟨ho _ d, z, ne, k _ _ (.inl rfl) e, mA, ⟨od, es, ep, k _ _ (.inr d) e2, c⟩, r⟩
  | own y => obtain ⟨ob, e⟩ := x; exact ⟨ob, k _ _ (.inl rfl) e⟩
  | xd fs => obtain ⟨mA, ⟨od, es, ep, e, c⟩, r⟩ := x; exact ⟨mA, ⟨od, es, ep, k _ _ (.inl rfl) e, c⟩, r⟩
  | rng lo hi => obtain ⟨t, u, v, e⟩ := x; exact ⟨t, u, v, k _ _ (.inl rfl) e⟩
  | frz ob u ih => obtain ⟨e, q⟩ := x; exact ⟨k _ _ (.inl rfl) e, ih q⟩
  | tbl ps =>
    have e : h.get? a = some { cls := .none, data := .fields ps } := x
    show h'.get? a = some { cls := .none, data := .fields ps }
    exact k a _ (.inl rfl) e
  | met f y =>
    have e : h.get? a = some (PySem.W.methodObj (.ref f) (.ref y)) := x
    show h'.get? a = some (PySem.W.methodObj (.ref f) (.ref y))
    exact k a _ (.inl rfl) e
  | ext φ => obtain ⟨p, ⟨o, e⟩, st⟩ := x; exact ⟨st _ _ p fun o q => k _ _ (.inl rfl) q, ⟨o, k _ _ (.inl rfl) e⟩, st⟩
theorem HOk.lt (x : HOk P w H h) (e : H a = some o) : a < h.objs.size := (x a o e).lt
theorem HOk.fresh (x : HOk P w H h) (e : h.objs.size ≤ a) : H a = none := by
  cases q : H a with
  | none => rfl
  | some u => exact absurd (Nat.lt_of_lt_of_le (x.lt q) e) (Nat.lt_irrefl _)
theorem HOk.kept (x : HOk P w H h) (k : ∀ b u, h.get? b = some u → h'.get? b = some u) : HOk P w H h' := fun a o e =>
  (x a o e).stay (fun b u _ q => k b u q) (fun _ q => q) fun _ _ q => q
theorem HOk.laid (x : HOk P w H h) (k : ∀ b u, h.get? b = some u → h'.get? b = some u) (hp : h.objs.size ≤ a) (new : ObjOk P w (upd H a o) h' a o) : HOk P w (upd H a o) h' := fun b u e => by
  have hn := x.fresh hp
  by_cases hb : b = a
  · subst hb; rw [upd_same] at e; cases e; exact new
  · rw [upd_ne hb] at e
    exact (x b u e).stay (fun c v _ q => k c v q) (fun c q => by rw [upd_ne (ne_of_none q hn)]; exact q) fun c xs q => by rw [upd_ne (ne_of_none q hn)]; exact q
end
def Rd (H : Hp) (a : Addr) (u : HO) : Prop := H a = some u ∨ ∃ o, H a = some (.frz o u)
theorem Rd.ok {P : Program} {w : World} {H : Hp} {h : Heap} {a : Addr} {u : HO} (r : Rd H a u) (x : HOk P w H h) : ObjOk P w H h a u := by
  rcases r with r | ⟨o, r⟩
  · exact x a u r
  · obtain ⟨_, q⟩ := x a _ r
    exact q
def Mut : Option HO → Prop
  | some (.lst _) => True
  | some (.dK _) => True
  | some (.dT _) => True
  | some (.set _ _) => True
  | some (.ins _ _ _) => True
  | some (.ext _) => True
  | _ => False
section
variable {P : Program} {w : World} {H : Hp} {h h' : Heap} {x e : Addr} {o' : HO}
theorem HOk.write (ok : HOk P w H h) (mu : Mut (H x)) (he : e = x ∨ H e = some (.own x)) (k : ∀ b u, b ≠ e → h.get? b = some u → h'.get? b = some u) (heo : ∃ u, h'.get? e = some u)
    (new : ObjOk P w (upd H x o') h' x o') : HOk P w (upd H x o') h' := fun b u q => by
  have nown : ∀ c y, H c = some (.own y) → c ≠ x := fun c y r z => by subst z; rw [r] at mu; exact mu
  have ntup : ∀ c xs, H c = some (.tup xs) → c ≠ x := fun c xs r z => by subst z; rw [r] at mu; exact mu
  by_cases hb : b = x
  · subst hb; rw [upd_same] at q; cases q; exact new
  · rw [upd_ne hb] at q
    by_cases hbe : b = e
    · have q' : H b = some (.own x) := by
        rcases he with z | z
        · exact absurd (hbe.trans z) hb
        · rw [hbe]; exact z
      rw [q] at q'; cases q'
      obtain ⟨v, hv⟩ := heo
      exact ⟨v, by rw [hbe]; exact hv⟩
    · refine (ok b u q).stay (fun c v hc r => k c v ?_ r) (fun c r => by rw [upd_ne (nown c b r)]; exact r) fun c xs r => by rw [upd_ne (ntup c xs r)]; exact r
      rcases hc with rfl | hc
      · exact hbe
      · rintro rfl
        rcases he with z | z
        · exact nown c b hc z
        · rw [hc] at z; cases z; exact hb rfl
end
structure Un (fs ex : List Addr) (H H' : Hp) (h h' : Heap) : Prop where
  keep : ∀ b o, h.get? b = some o → H b = none → b ∉ fs → b ∉ ex → h'.get? b = some o
  slot : ∀ b o, h.get? b = some o → H b = none → b ∈ fs → b ∉ ex → ∃ sl, h'.get? b = some { o with slots := sl }
  free : ∀ b o, h.get? b = some o → H b = none → b ∉ ex → H' b = none
  there : ∀ b o, h.get? b = some o → b ∉ ex → ∃ o', h'.get? b = some o'
  tups : ∀ b xs, H b = some (.tup xs) → H' b = some (.tup xs)
  frzs : ∀ b o u, H b = some (.frz o u) → H' b = some (.frz o u)
  tbls : ∀ b ps, H b = some (.tbl ps) → ∃ more, H' b = some (.tbl (ps ++ more))
section
variable {fs fs' ex ex' : List Addr} {H H1 H2 : Hp} {h h1 h2 h' : Heap} {a x e : Addr} {o : HO}
theorem Un.any (u : Un fs ex H H1 h h1) {b : Addr} {ob : Obj} (q : h.get? b = some ob) (n : H b = none) (hx : b ∉ ex) : ∃ sl, h1.get? b = some { ob with slots := sl } := by
  by_cases hb : b ∈ fs
  · exact u.slot b ob q n hb hx
  · exact ⟨ob.slots, u.keep b ob q n hb hx⟩
theorem Un.kept (k : ∀ b u, h.get? b = some u → h'.get? b = some u) : Un fs ex H H h h' :=
  ⟨fun b ob q _ _ _ => k b ob q, fun b ob q _ _ _ => ⟨ob.slots, k b ob q⟩, fun _ _ _ n _ => n, fun b ob q _ => ⟨ob, k b ob q⟩, fun _ _ q => q, fun _ _ _ q => q, fun _ ps q => ⟨#[], by rw [q]; simp⟩⟩
theorem Un.refl : Un fs ex H H h h := Un.kept fun _ _ q => q
theorem Un.laid (k : ∀ b u, h.get? b = some u → h'.get? b = some u) (hp : h.objs.size ≤ a) (hn : H a = none) : Un fs ex H (upd H a o) h h' where
  keep := fun b u q _ _ _ => k b u q
  slot := fun b u q _ _ _ => ⟨u.slots, k b u q⟩
  free := fun b u q n _ => by rw [upd_ne (Nat.ne_of_lt (Nat.lt_of_lt_of_le (Heap.lt_size q) hp))]; exact n
  there := fun b u q _ => ⟨u, k b u q⟩
  tups := fun b xs q => by rw [upd_ne (ne_of_none q hn)]; exact q
  frzs := fun b u xs q => by rw [upd_ne (ne_of_none q hn)]; exact q
  tbls := fun b ps q => ⟨#[], by rw [upd_ne (ne_of_none q hn), q]; simp⟩
theorem Un.write (mu : Mut (H x)) (he : e = x ∨ H e = some (.own x)) (k : ∀ b u, b ≠ e → h.get? b = some u → h'.get? b = some u) (heo : ∃ u, h'.get? e = some u) : Un fs ex H (upd H x o) h h' := by
  have hx : ∀ b, H b = none → b ≠ x := fun b n z => by subst z; rw [n] at mu; exact mu
  have hb : ∀ b, H b = none → b ≠ e := fun b n z => by
    subst z
    rcases he with r | r
    · exact hx b n r
    · rw [n] at r; cases r
  have hm : ∀ b u, H b = some u → ¬ Mut (some u) → b ≠ x := fun b u q nm z => by subst z; rw [q] at mu; exact nm mu
  refine ⟨fun b u q n _ _ => k b u (hb b n) q, fun b u q n _ _ => ⟨u.slots, k b u (hb b n) q⟩, fun b u q n _ => by rw [upd_ne (hx b n)]; exact n, fun b u q _ => ?_,
    fun b xs q => by rw [upd_ne (hm b _ q fun z => z)]; exact q, fun b u xs q => by rw [upd_ne (hm b _ q fun z => z)]; exact q, fun b ps q => ⟨#[], by rw [upd_ne (hm b _ q fun z => z), q]; simp⟩⟩
  by_cases hbe : b = e
  · subst hbe; exact heo
  · exact ⟨u, k b u hbe q⟩
end
def trk (h : Heap) (H : Hp) : List Addr := (List.range h.objs.size).filter fun a => (H a).isSome
def hidT (h : Heap) (H : Hp) : Heap := PySem.W.hideAll h (trk h H)
theorem hidT_size (h : Heap) (H : Hp) : (hidT h H).objs.size = h.objs.size := PySem.W.hideAll_size _ _
theorem hidT_get {h : Heap} {H : Hp} {b : Addr} {o : Obj} (e : h.get? b = some o) (n : H b = none) : (hidT h H).get? b = some o :=
  PySem.W.hideAll_get _ e fun hm => by
    have q : (H b).isSome = true := (List.mem_filter.mp hm).2
    rw [n] at q; simp at q
theorem of_hidT {h : Heap} {H : Hp} {b : Addr} {o : Obj} (e : (hidT h H).get? b = some o) : h.get? b = some o ∧ H b = none := by
  have e' : h.get? b = some o := PySem.W.of_hideAll (trk h H) e
  refine ⟨e', ?_⟩
  cases q : H b with
  | none => rfl
  | some x =>
    have hm : b ∈ trk h H := List.mem_filter.mpr ⟨List.mem_range.mpr (Heap.lt_size e'), by simp [q]⟩
    have z : (hidT h H).get? b = none := PySem.W.hideAll_none (trk h H) hm
    rw [z] at e; cases e
end L2
namespace L2
open PySem PySem.Spec PyProof.Rows
structure Mod (K : PySem.W.Frag) (mg : Str → Option Value) (base : Heap) : Prop where
  kin : K.In base
  glob : base.Ns mainGlobals mg
  blt : ∃ mb, base.Ns builtinsNs mb ∧ ∀ x : Str, x ≠ "__name__" → mb x = bootBuiltins x
  nolimit : base.NoLimit
structure Cx where
  prog : Program
  w : World
  K : PySem.W.Frag
  mg : Str → Option Value
  base : Heap
  A : Around
  N : List Str
  s₀ : Shared
  H₀ : Hp
  env : Env
  outer : List Env
  stack : List Env
  ex : List Addr
  fn : Str → Bool
  calm : Bool
  pn : List (Addr × Obj)
  xe : Value → Shared → Prop
def frs (l : List Env) : List Addr := l.filterMap (·.frame)
abbrev Cx.fs (X : Cx) : List Addr := frs X.outer
def Vis (sc : Scope) (x : Str) : Prop := sc.names.lookup x = some .local ∨ sc.names.lookup x = some .cell ∨ sc.names.lookup x = some .free
def Loc (sc : Scope) (x : Str) : Prop := sc.names.lookup x = some .local ∨ sc.names.lookup x = some .cell
def Look (env : Env) (h : Heap) (m : Str → Option Value) (x : Str) (u : Value) : Prop :=
  (env.kindOf x = some .local ∧ m x = some u) ∨ ((env.kindOf x = some .cell ∨ env.kindOf x = some .free) ∧ ∃ c, env.cells.lookup x = some c ∧ h.IsCell c (some u))
structure Cx.Ok (X : Cx) : Prop where
  mod : Mod X.K X.mg X.base
  kind : X.env.scope.kind = .function
  glob : X.env.globals = mainGlobals
  blt : X.env.builtins = builtinsNs
  above : X.s₀.heap.objs.size ≤ X.env.locals
  inj : ∀ x y c, X.env.cells.lookup x = some c → X.env.cells.lookup y = some c → x = y
  has : ∀ x, (X.env.kindOf x = some .cell ∨ X.env.kindOf x = some .free) → ∃ c, X.env.cells.lookup x = some c
  cab : ∀ x c, X.fn x = true → X.env.cells.lookup x = some c → X.s₀.heap.objs.size ≤ c
  hd : X.calm = true → X.A.handled = none
  frames : X.A.frames = some X.stack
  stk : X.stack = X.outer ∨ (X.stack = X.env :: X.outer ∧ X.env.frame = some X.env.locals)
  exf : ∀ b ∈ X.ex, b ≠ X.env.locals ∧ ∀ x c, X.env.cells.lookup x = some c → c ≠ b
  bs : ∀ b o, X.base.get? b = some o → X.s₀.heap.get? b = some o ∧ X.H₀ b = none
  bsz : X.base.objs.size ≤ X.s₀.heap.objs.size
  noex : ∀ b o, X.base.get? b = some o → b ∉ X.ex
  exfs : ∀ b ∈ X.ex, b ∉ X.fs
  funs : X.s₀.heap.FunFrames X.base X.outer
  frf : ∀ b ∈ X.fs, X.H₀ b = none
structure Inv (X : Cx) (pins : List (Addr × Obj)) (σ : List (Option V)) (H : Hp) (s : Shared) : Prop where
  ok : X.Ok
  os : s.os = X.s₀.os
  bare : AllBare s.gens
  base : Un X.fs X.ex X.H₀ H X.s₀.heap s.heap
  loc : ∃ m, s.heap.Ns X.env.locals m ∧ ∀ (i : Nat) (x : Str) (v : V), X.N[i]? = some x → σ[i]? = some (some v) → Vis X.env.scope x → ∃ u, RelV v u ∧ Look X.env s.heap m x u
  cell : ∀ x c, X.env.cells.lookup x = some c → ∃ v, s.heap.IsCell c v
  free : H X.env.locals = none
  freeC : ∀ x c, X.env.cells.lookup x = some c → H c = none
  pin : ∀ p ∈ X.pn ++ pins, s.heap.get? p.1 = some p.2 ∧ H p.1 = none ∧ p.1 ≠ X.env.locals ∧ p.1 ∉ X.fs ∧ ∀ v, p.2.data ≠ .cell v
  hok : HOk X.prog X.w H s.heap
  len : σ.length = X.N.length
section
variable {X : Cx} {pins : List (Addr × Obj)} {σ : List (Option V)} {H H' : Hp} {s : Shared} {h' : Heap}
theorem Cx.Ok.nofr (ok : X.Ok) {b : Addr} {o : Obj} (e : X.base.get? b = some o) : b ∉ X.fs := fun hb => by
  have := (ok.funs.mem hb).1
  rw [e] at this; cases this
theorem Inv.bs (I : Inv X pins σ H s) : ∀ b o, X.base.get? b = some o → s.heap.get? b = some o ∧ H b = none := fun b o e =>
  ⟨I.base.keep b o (I.ok.bs b o e).1 (I.ok.bs b o e).2 (I.ok.nofr e) (I.ok.noex b o e), I.base.free b o (I.ok.bs b o e).1 (I.ok.bs b o e).2 (I.ok.noex b o e)⟩
theorem Inv.bk (I : Inv X pins σ H s) : ∀ b o, X.base.get? b = some o → s.heap.get? b = some o := fun b o e => (I.bs b o e).1
theorem Inv.mod (I : Inv X pins σ H s) : Mod X.K X.mg X.base := I.ok.mod
theorem Inv.kIn (I : Inv X pins σ H s) : X.K.In s.heap := I.ok.mod.kin.keeps I.bk
theorem Inv.lt (I : Inv X pins σ H s) : X.env.locals < s.heap.objs.size := let ⟨_, hn, _⟩ := I.loc; hn.lt
theorem Inv.sz (I : Inv X pins σ H s) : X.s₀.heap.objs.size ≤ s.heap.objs.size := Nat.le_trans I.ok.above (Nat.le_of_lt I.lt)
theorem Inv.nofs (I : Inv X pins σ H s) {a : Addr} (h : s.heap.objs.size ≤ a) : a ∉ X.fs := fun hb => by
  obtain ⟨_, o, ho, _⟩ := I.ok.funs.mem hb
  exact absurd (Nat.lt_of_lt_of_le (Heap.lt_size ho) (Nat.le_trans I.sz h)) (Nat.lt_irrefl _)
theorem Inv.cne (I : Inv X pins σ H s) : ∀ x c, X.env.cells.lookup x = some c → c ≠ X.env.locals := fun x c e z => by
  obtain ⟨v, o, ho, hd⟩ := I.cell x c e
  obtain ⟨m, ⟨o', es, ep, ho', hd', _⟩, _⟩ := I.loc
  rw [z, ho'] at ho; cases ho; rw [hd'] at hd; cases hd
theorem Inv.funs (I : Inv X pins σ H s) : s.heap.FunFrames X.base X.outer := by
  have all : ∀ (l : List Env), (∀ b ∈ frs l, b ∈ X.fs) → X.s₀.heap.FunFrames X.base l → s.heap.FunFrames X.base l := by
    intro l
    induction l with
    | nil => intro _ _; trivial
    | cons env r ih =>
      intro hs hl
      obtain ⟨hk, ⟨L, o, hf, hn, ho, hd⟩, hr⟩ := hl
      have hL : L ∈ X.fs := hs L (by unfold frs; rw [List.filterMap_cons, hf]; exact List.mem_cons_self)
      obtain ⟨sl, e⟩ := I.base.slot L o ho (I.ok.frf L hL) hL fun z => I.ok.exfs L z hL
      exact ⟨hk, ⟨L, _, hf, hn, e, hd⟩, ih (fun b hb => hs b (by unfold frs; rw [List.filterMap_cons, hf]; exact List.mem_cons_of_mem _ hb)) hr⟩
  exact all X.outer (fun _ hb => hb) I.ok.funs
theorem Inv.stack (I : Inv X pins σ H s) : s.heap.FunFrames X.base X.stack := by
  rcases I.ok.stk with e | ⟨e, hf⟩
  · rw [e]; exact I.funs
  · rw [e]
    obtain ⟨m, hn, _⟩ := I.loc
    refine .cons (by rw [I.ok.kind]; decide) hf hn ?_ I.funs
    exact Heap.get?_none_of_le (Nat.le_trans I.ok.bsz I.ok.above)
theorem Inv.stkSub (I : Inv X pins σ H s) : ∀ b ∈ frs X.stack, b ∈ X.env.locals :: X.fs := fun b hb => by
  rcases I.ok.stk with e | ⟨e, hf⟩
  · rw [e] at hb; exact List.mem_cons_of_mem _ hb
  · rw [e] at hb
    unfold frs at hb
    rw [List.filterMap_cons, hf] at hb
    exact hb
theorem Inv.stkFree (I : Inv X pins σ H s) : ∀ b ∈ frs X.stack, H b = none := fun b hb => by
  rcases List.mem_cons.mp (I.stkSub b hb) with e | hb
  · rw [e]; exact I.free
  · obtain ⟨_, o, ho, _⟩ := I.ok.funs.mem hb
    exact I.base.free b o ho (I.ok.frf b hb) fun z => I.ok.exfs b z hb
theorem Inv.step {g' : Array GenState} {t' : Nat} {d' : Drawn} {ch : List Addr} (I : Inv X pins σ H s)
    (hch : ∀ b ∈ ch, (b ∈ X.ex ∨ X.s₀.heap.objs.size ≤ b) ∧ b ≠ X.env.locals ∧ (∀ x c, X.env.cells.lookup x = some c → c ≠ b) ∧ ∀ p ∈ X.pn ++ pins, p.1 ≠ b)
    (keep : ∀ b o, b ≠ X.env.locals → b ∉ X.fs → b ∉ ch → s.heap.get? b = some o → H b = none → h'.get? b = some o)
    (slot : ∀ b o, b ≠ X.env.locals → b ∈ X.fs → b ∉ ch → s.heap.get? b = some o → H b = none → ∃ sl, h'.get? b = some { o with slots := sl }) (free : ∀ b o, b ∉ ch → s.heap.get? b = some o → H b = none → H' b = none)
    (there : ∀ b o, b ∉ ch → s.heap.get? b = some o → ∃ o', h'.get? b = some o')
    (tups : ∀ b xs, H b = some (.tup xs) → H' b = some (.tup xs)) (frzs : ∀ b o u, H b = some (.frz o u) → H' b = some (.frz o u)) (tbls : ∀ b ps, H b = some (.tbl ps) → ∃ more, H' b = some (.tbl (ps ++ more)))
    (ns : ∀ m, s.heap.Ns X.env.locals m → h'.Ns X.env.locals m) (hok : HOk X.prog X.w H' h') (hg : AllBare g') :
    Inv X pins σ H' { s with heap := h', gens := g', drawn := d', toks := t' } := by
  have neL : ∀ b o, X.s₀.heap.get? b = some o → b ≠ X.env.locals := fun b o e => Nat.ne_of_lt (Nat.lt_of_lt_of_le (Heap.lt_size e) I.ok.above)
  have neC : ∀ b o, X.s₀.heap.get? b = some o → b ∉ X.ex → b ∉ ch := fun b o e hx hb => by
    rcases (hch b hb).1 with z | z
    · exact hx z
    · exact absurd (Nat.lt_of_lt_of_le (Heap.lt_size e) z) (Nat.lt_irrefl _)
  have cellK : ∀ x c, X.env.cells.lookup x = some c → ∀ v, s.heap.IsCell c v → h'.IsCell c v := fun x c e v ⟨o, ho, hd⟩ => by
    have nch : c ∉ ch := fun z => (hch c z).2.2.1 x c e rfl
    by_cases hc : c ∈ X.fs
    · obtain ⟨sl, q⟩ := slot c o (I.cne x c e) hc nch ho (I.freeC x c e)
      exact ⟨_, q, hd⟩
    · exact ⟨o, keep c o (I.cne x c e) hc nch ho (I.freeC x c e), hd⟩
  refine ⟨I.ok, I.os, hg, ⟨fun b o e n hb hx => ?_, fun b o e n hb hx => ?_, fun b o e n hx => ?_, fun b o e hx => ?_, fun b xs e => tups b xs (I.base.tups b xs e), fun b o xs e => frzs b o xs (I.base.frzs b o xs e), fun b ps e => ?_⟩, ?_, fun x c e => ?_, ?_, fun x c e => ?_, fun p hp => ?_, hok, I.len⟩
  · exact keep b o (neL b o e) hb (neC b o e hx) (I.base.keep b o e n hb hx) (I.base.free b o e n hx)
  · obtain ⟨sl, e1⟩ := I.base.slot b o e n hb hx
    obtain ⟨sl', e2⟩ := slot b _ (neL b o e) hb (neC b o e hx) e1 (I.base.free b o e n hx)
    exact ⟨sl', e2⟩
  · obtain ⟨o', e1⟩ := I.base.there b o e hx
    exact free b o' (neC b o e hx) e1 (I.base.free b o e n hx)
  · obtain ⟨o', e1⟩ := I.base.there b o e hx
    exact there b o' (neC b o e hx) e1
  · obtain ⟨m1, e1⟩ := I.base.tbls b ps e
    obtain ⟨m2, e2⟩ := tbls b _ e1
    exact ⟨m1 ++ m2, by rw [e2, Array.append_assoc]⟩
  · obtain ⟨m, hn, hl⟩ := I.loc
    refine ⟨m, ns m hn, fun i x v e1 e2 e3 => ?_⟩
    obtain ⟨u, r, l⟩ := hl i x v e1 e2 e3
    refine ⟨u, r, ?_⟩
    rcases l with l | ⟨k, c, e, z⟩
    · exact .inl l
    · exact .inr ⟨k, c, e, cellK x c e _ z⟩
  · obtain ⟨v, z⟩ := I.cell x c e
    exact ⟨v, cellK x c e v z⟩
  · obtain ⟨m, ⟨o, _, _, ho, _⟩, _⟩ := I.loc
    exact free _ o (fun z => (hch _ z).2.1 rfl) ho I.free
  · obtain ⟨v, o, ho, hd⟩ := I.cell x c e
    exact free c o (fun z => (hch c z).2.2.1 x c e rfl) ho (I.freeC x c e)
  · obtain ⟨e, n, ne, nf, d⟩ := I.pin p hp
    have nch : p.1 ∉ ch := fun z => (hch p.1 z).2.2.2 p hp rfl
    exact ⟨keep p.1 p.2 ne nf nch e n, free p.1 p.2 nch e n, ne, nf, d⟩
theorem Inv.un {t' : Nat} (I : Inv X pins σ H s) (u : Un X.fs [] H H' s.heap h') (hok : HOk X.prog X.w H' h') : Inv X pins σ H' { s with heap := h', toks := t' } := by
  obtain ⟨m, ⟨o, es, ep, ho, r⟩, _⟩ := id I.loc
  obtain ⟨sl, hL⟩ := u.any ho I.free (by simp)
  exact I.step (g' := s.gens) (d' := s.drawn) (ch := []) (fun _ z => nomatch z) (fun b o _ hb _ e n => u.keep b o e n hb (by simp)) (fun b o _ hb _ e n => u.slot b o e n hb (by simp)) (fun b o _ e n => u.free b o e n (by simp)) (fun b o _ e => u.there b o e (by simp)) u.tups u.frzs u.tbls (fun m' hm => by
    obtain ⟨o', es', ep', ho', r'⟩ := hm
    rw [ho] at ho'; cases ho'
    exact ⟨_, es', ep', hL, r'⟩) hok I.bare
theorem Inv.call {g' : Array GenState} {t' : Nat} {d' : Drawn} {ch : List Addr} (I : Inv X pins σ H s) (u : Un (frs X.stack) ch H H' s.heap h') (hok : HOk X.prog X.w H' h') (hg : AllBare g')
    (hch : ∀ b ∈ ch, (b ∈ X.ex ∨ X.s₀.heap.objs.size ≤ b) ∧ b ≠ X.env.locals ∧ (∀ x c, X.env.cells.lookup x = some c → c ≠ b) ∧ ∀ p ∈ X.pn ++ pins, p.1 ≠ b) :
    Inv X pins σ H' { s with heap := h', gens := g', drawn := d', toks := t' } := by
  obtain ⟨m, ⟨o, es, ep, ho, r⟩, _⟩ := id I.loc
  obtain ⟨sl, hL⟩ := u.any ho I.free fun z => (hch _ z).2.1 rfl
  exact I.step (ch := ch) hch (fun b o hL hb hc e n => u.keep b o e n (fun z => (List.mem_cons.mp (I.stkSub b z)).elim hL hb) hc) (fun b o _ _ hc e n => u.any e n hc) (fun b o hc e n => u.free b o e n hc) (fun b o hc e => u.there b o e hc) u.tups u.frzs u.tbls (fun m' hm => by
    obtain ⟨o', es', ep', ho', r'⟩ := hm
    rw [ho] at ho'; cases ho'
    exact ⟨_, es', ep', hL, r'⟩) hok hg
theorem Inv.turned {t' : Nat} {it : Addr} (I : Inv X pins σ H s) (k : ∀ b o, b ≠ it → s.heap.get? b = some o → h'.get? b = some o) (hn : H it = none) (hL : it ≠ X.env.locals)
    (h1 : it ∈ X.ex ∨ X.s₀.heap.objs.size ≤ it) (h2 : ∀ x c, X.env.cells.lookup x = some c → c ≠ it) (h3 : ∀ p ∈ X.pn ++ pins, p.1 ≠ it) : Inv X pins σ H { s with heap := h', toks := t' } := by
  have nit : ∀ b u, H b = some u → b ≠ it := fun b u e z => by rw [z, hn] at e; cases e
  refine I.step (g' := s.gens) (d' := s.drawn) (ch := [it]) (fun b hb => ?_) (fun b o _ _ hc e _ => k b o (fun z => hc (by simp [z])) e) (fun b o _ _ hc e _ => ⟨o.slots, k b o (fun z => hc (by simp [z])) e⟩) (fun _ _ _ _ n => n)
    (fun b o hc e => ⟨o, k b o (fun z => hc (by simp [z])) e⟩) (fun _ _ e => e) (fun _ _ _ e => e) (fun b ps e => ⟨#[], by rw [e]; simp⟩) (fun m hm => ?_) (fun b u e => ?_) I.bare
  · have e : b = it := by simpa using hb
    subst e
    exact ⟨h1, hL, h2, h3⟩
  · obtain ⟨o, es, ep, ho, r⟩ := hm
    exact ⟨o, es, ep, k _ o (Ne.symm hL) ho, r⟩
  · refine (I.hok b u e).stay (fun c v hc q => k c v ?_ q) (fun _ q => q) fun _ _ q => q
    rcases hc with z | z
    · rw [z]; exact nit b u e
    · exact nit c _ z
theorem Inv.tok (I : Inv X pins σ H s) (t : Nat) : Inv X pins σ H { s with toks := t } := I.un (h' := s.heap) (t' := t) Un.refl I.hok
theorem Inv.kept {t' : Nat} (I : Inv X pins σ H s) (k : ∀ b u, s.heap.get? b = some u → h'.get? b = some u) : Inv X pins σ H { s with heap := h', toks := t' } := I.un (Un.kept k) (I.hok.kept k)
theorem Inv.laid {a : Addr} {o : HO} {t' : Nat} (I : Inv X pins σ H s) (k : ∀ b u, s.heap.get? b = some u → h'.get? b = some u) (hp : s.heap.objs.size ≤ a) (new : ObjOk X.prog X.w (upd H a o) h' a o) :
    Inv X pins σ (upd H a o) { s with heap := h', toks := t' } := I.un (Un.laid k hp (I.hok.fresh hp)) (I.hok.laid k hp new)
theorem Inv.write {x e : Addr} {o : HO} {t' : Nat} (I : Inv X pins σ H s) (mu : Mut (H x)) (he : e = x ∨ H e = some (.own x)) (k : ∀ b u, b ≠ e → s.heap.get? b = some u → h'.get? b = some u) (heo : ∃ u, h'.get? e = some u)
    (new : ObjOk X.prog X.w (upd H x o) h' x o) : Inv X pins σ (upd H x o) { s with heap := h', toks := t' } := I.un (Un.write mu he k heo) (I.hok.write mu he k heo new)
theorem Inv.pins_of {pins' : List (Addr × Obj)} (I : Inv X pins σ H s) (h : ∀ p ∈ pins', s.heap.get? p.1 = some p.2 ∧ H p.1 = none ∧ p.1 ≠ X.env.locals ∧ p.1 ∉ X.fs ∧ ∀ v, p.2.data ≠ .cell v) : Inv X pins' σ H s :=
  ⟨I.ok, I.os, I.bare, I.base, I.loc, I.cell, I.free, I.freeC, fun p hp => (List.mem_append.mp hp).elim (fun z => I.pin p (List.mem_append_left _ z)) (h p), I.hok, I.len⟩
theorem nodup_ix {N : List Str} (hN : N.Nodup) {i j : Nat} {x : Str} (a : N[i]? = some x) (b : N[j]? = some x) : i = j := by
  obtain ⟨h1, e1⟩ := List.getElem?_eq_some_iff.mp a
  obtain ⟨h2, e2⟩ := List.getElem?_eq_some_iff.mp b
  exact (List.getElem_inj hN).mp (e1.trans e2.symm)
theorem store_ok2 {M : Model} {A : Around} {E : Value → Shared → Prop} {i : Nat} {x : Str} {v : V} {u : Value} {Q : Unit → Shared → Prop} (I : Inv X pins σ H s) (hN : X.N.Nodup) (hi : X.N[i]? = some x) (hx : Loc X.env.scope x) (r : RelV v u)
    (h : ∀ s', Inv X pins (σ.set i (some v)) H s' → (∃ a, Heap.SameBut a s.heap s'.heap ∧ (a = X.env.locals ∨ X.env.cells.lookup x = some a)) → Q () s') (hf : X.fn x = true ∨ X.env.scope.names.lookup x = some .local := by first | exact .inl rfl | exact .inr rfl | assumption) : wpAny M A (storeName X.env x u) Q E s := by
  obtain ⟨m, hn, hl⟩ := id I.loc
  have hcls : (X.env.scope.kind == .class || (X.env.scope.kind == .module && X.env.locals != X.env.globals)) = false := by rw [I.ok.kind]; rfl
  have hiσ : i < σ.length := by rw [I.len]; exact (List.getElem?_eq_some_iff.mp hi).1
  have cne := I.cne
  have tracked : ∀ {a : Addr} {h' : Heap}, (∃ o, s.heap.get? a = some o ∧ H a = none) → Heap.SameBut a s.heap h' → HOk X.prog X.w H h' := fun {a h'} ha hs b ob e => by
    obtain ⟨_, _, hfree⟩ := ha
    refine (I.hok b ob e).stay (fun c w' hc q => (hs.2 c ?_).trans q) (fun _ q => q) fun _ _ q => q
    rintro rfl
    rcases hc with rfl | hc
    · rw [hfree] at e; cases e
    · rw [hfree] at hc; cases hc
  rcases hx with hk | hk
  · refine wpAny_storeName_local hk hn (fun h' hn' hs => ?_) hcls
    obtain ⟨oL, _, _, hoL, _⟩ := id hn
    refine h _ ⟨I.ok, I.os, I.bare, ⟨fun b o e n hb hx => ?_, fun b o e n hb hx => ?_, I.base.free, fun b o e hx => ?_, I.base.tups, I.base.frzs, I.base.tbls⟩, ⟨_, hn', fun j y v' e1 e2 e3 => ?_⟩, fun y c e => ?_, I.free, I.freeC, fun p hp => ?_, tracked ⟨oL, hoL, I.free⟩ hs, by simpa using I.len⟩ ⟨_, hs, .inl rfl⟩
    · exact (hs.2 b (Nat.ne_of_lt (Nat.lt_of_lt_of_le (Heap.lt_size e) I.ok.above))).trans (I.base.keep b o e n hb hx)
    · obtain ⟨sl, e1⟩ := I.base.slot b o e n hb hx
      exact ⟨sl, (hs.2 b (Nat.ne_of_lt (Nat.lt_of_lt_of_le (Heap.lt_size e) I.ok.above))).trans e1⟩
    · obtain ⟨o', e1⟩ := I.base.there b o e hx
      exact ⟨o', (hs.2 b (Nat.ne_of_lt (Nat.lt_of_lt_of_le (Heap.lt_size e) I.ok.above))).trans e1⟩
    · by_cases hj : j = i
      · subst hj
        rw [hi] at e1; cases e1
        rw [List.getElem?_set_self hiσ] at e2
        cases e2
        exact ⟨u, r, .inl ⟨hk, by simp⟩⟩
      · rw [List.getElem?_set_ne (Ne.symm hj)] at e2
        obtain ⟨u', r', q⟩ := hl j y v' e1 e2 e3
        refine ⟨u', r', ?_⟩
        rcases q with ⟨k, e⟩ | ⟨k, c, e, z⟩
        · refine .inl ⟨k, ?_⟩
          have : y ≠ x := fun e => hj (nodup_ix hN e1 (e ▸ hi))
          simp [this, e]
        · exact .inr ⟨k, c, e, z.sameBut hs (cne y c e)⟩
    · obtain ⟨w', z⟩ := I.cell y c e
      exact ⟨w', z.sameBut hs (cne y c e)⟩
    · obtain ⟨e, n, ne, nf, d⟩ := I.pin p hp
      exact ⟨(hs.2 p.1 ne).trans e, n, ne, nf, d⟩
  · have hfn : X.fn x = true := by
      rcases hf with z | z
      · exact z
      · rw [z] at hk; cases hk
    obtain ⟨c, hc⟩ := I.ok.has x (.inl hk)
    obtain ⟨w', z⟩ := I.cell x c hc
    refine wpAny_storeName_cell I.ok.kind hk hc z (fun h' hc' hs => ?_)
    obtain ⟨oc, hoc, hocd⟩ := id z
    refine h { s with heap := h' } ⟨I.ok, I.os, I.bare, ⟨fun b o e n hb hx => ?_, fun b o e n hb hx => ?_, I.base.free, fun b o e hx => ?_, I.base.tups, I.base.frzs, I.base.tbls⟩, ⟨m, hn.sameBut hs (Ne.symm (cne x c hc)), fun j y v' e1 e2 e3 => ?_⟩, fun y c' e => ?_, I.free, I.freeC, fun p hp => ?_, tracked ⟨oc, hoc, I.freeC x c hc⟩ hs, by simpa using I.len⟩ ⟨c, hs, .inr hc⟩
    · exact (hs.2 b (Nat.ne_of_lt (Nat.lt_of_lt_of_le (Heap.lt_size e) (I.ok.cab x c hfn hc)))).trans (I.base.keep b o e n hb hx)
    · obtain ⟨sl, e1⟩ := I.base.slot b o e n hb hx
      exact ⟨sl, (hs.2 b (Nat.ne_of_lt (Nat.lt_of_lt_of_le (Heap.lt_size e) (I.ok.cab x c hfn hc)))).trans e1⟩
    · obtain ⟨o', e1⟩ := I.base.there b o e hx
      exact ⟨o', (hs.2 b (Nat.ne_of_lt (Nat.lt_of_lt_of_le (Heap.lt_size e) (I.ok.cab x c hfn hc)))).trans e1⟩
    · by_cases hj : j = i
      · subst hj
        rw [hi] at e1; cases e1
        rw [List.getElem?_set_self hiσ] at e2
        cases e2
        exact ⟨u, r, .inr ⟨.inl hk, c, hc, hc'⟩⟩
      · rw [List.getElem?_set_ne (Ne.symm hj)] at e2
        obtain ⟨u', r', q⟩ := hl j y v' e1 e2 e3
        refine ⟨u', r', ?_⟩
        rcases q with q | ⟨k, c', e, z'⟩
        · exact .inl q
        · refine .inr ⟨k, c', e, z'.sameBut hs ?_⟩
          rintro rfl
          exact hj (nodup_ix hN e1 (I.ok.inj _ _ _ e hc ▸ hi))
    · by_cases hcc : c' = c
      · subst hcc; exact ⟨_, hc'⟩
      · obtain ⟨w2, z2⟩ := I.cell y c' e
        exact ⟨w2, z2.sameBut hs hcc⟩
    · obtain ⟨e, n, ne, nf, d⟩ := I.pin p hp
      refine ⟨(hs.2 p.1 ?_).trans e, n, ne, nf, d⟩
      intro q
      rw [q, hoc] at e
      have q' : oc = p.2 := Option.some.inj e
      exact d w' (by rw [← q']; exact hocd)
theorem store_ok {M : Model} {A : Around} {E : Value → Shared → Prop} {i : Nat} {x : Str} {v : V} {u : Value} {Q : Unit → Shared → Prop} (I : Inv X pins σ H s) (hN : X.N.Nodup) (hi : X.N[i]? = some x) (hx : Loc X.env.scope x) (r : RelV v u)
    (h : ∀ s', Inv X pins (σ.set i (some v)) H s' → Q () s') (hf : X.fn x = true ∨ X.env.scope.names.lookup x = some .local := by first | exact .inl rfl | exact .inr rfl | assumption) : wpAny M A (storeName X.env x u) Q E s :=
  store_ok2 I hN hi hx r (fun s' I' _ => h s' I') hf
theorem Inv.call' {s' : Shared} {ch : List Addr} (I : Inv X pins σ H s) (ho : s'.os = s.os) (u : Un (frs X.stack) ch H H' s.heap s'.heap) (hok : HOk X.prog X.w H' s'.heap) (hg : AllBare s'.gens)
    (hch : ∀ b ∈ ch, (b ∈ X.ex ∨ X.s₀.heap.objs.size ≤ b) ∧ b ≠ X.env.locals ∧ (∀ x c, X.env.cells.lookup x = some c → c ≠ b) ∧ ∀ p ∈ X.pn ++ pins, p.1 ≠ b) : Inv X pins σ H' s' := by
  obtain ⟨h', g', d', t', o'⟩ := s'
  have e : o' = s.os := ho
  subst e
  exact I.call (g' := g') (t' := t') (d' := d') u hok hg hch
end
abbrev XK := Value → Option Addr → Hp → Prop
abbrev St := List (Option V)
abbrev VK := V → Hp → Prop
abbrev TE := St → Hp → VK → Prop
abbrev TT := St → Hp → (Bool → Hp → Prop) → Prop
abbrev TA := St → Hp → (List V → Hp → Prop) → Prop
structure Ends where
  nx : St → Hp → Prop
  rt : VK
  bk : St → Hp → Prop := fun _ _ => False
  ct : St → Hp → Prop := fun _ _ => False
abbrev TS := Ends → St → Hp → Prop
def EP (X : Cx) (pins : List (Addr × Obj)) (σ : St) (Q : VK) (u : Value) (s' : Shared) : Prop := ∃ v H', Inv X pins σ H' s' ∧ RelV v u ∧ Q v H'
def TP (X : Cx) (pins : List (Addr × Obj)) (σ : St) (Q : Bool → Hp → Prop) (b : Bool) (s' : Shared) : Prop := ∃ H', Inv X pins σ H' s' ∧ Q b H'
def AP (X : Cx) (pins : List (Addr × Obj)) (σ : St) (Q : List V → Hp → Prop) (us : List Value) (s' : Shared) : Prop := ∃ vs H', Inv X pins σ H' s' ∧ Vals vs us ∧ Q vs H'
def SP (X : Cx) (pins : List (Addr × Obj)) (D : Ends) (f : Flow) (s' : Shared) : Prop :=
  match f with
  | .next => ∃ σ' H', Inv X pins σ' H' s' ∧ D.nx σ' H'
  | .brk => ∃ σ' H', Inv X pins σ' H' s' ∧ D.bk σ' H'
  | .cont => ∃ σ' H', Inv X pins σ' H' s' ∧ D.ct σ' H'
  | .ret u => ∃ v σ' H', Inv X pins σ' H' s' ∧ RelV v u ∧ D.rt v H'
def PE (X : Cx) (e : Expr) (t : TE) : Prop :=
  ∀ (pins : List (Addr × Obj)) (s : Shared) (σ : St) (H : Hp) (Q : VK), Inv X pins σ H s → t σ H Q → wpAny (model X.prog X.w) X.A (eval e X.env) (EP X pins σ Q) X.xe s
def PT (X : Cx) (e : Expr) (t : TT) : Prop :=
  ∀ (pins : List (Addr × Obj)) (s : Shared) (σ : St) (H : Hp) (Q : Bool → Hp → Prop), Inv X pins σ H s → t σ H Q → wpAny (model X.prog X.w) X.A (isTrue e X.env (eval e X.env)) (TP X pins σ Q) X.xe s
def PW (X : Cx) (e : Expr) (t : TT) : Prop :=
  ∀ (whole : Sem Value) (pins : List (Addr × Obj)) (s : Shared) (σ : St) (H : Hp) (Q : Bool → Hp → Prop), Inv X pins σ H s → t σ H Q → wpAny (model X.prog X.w) X.A (isTrue e X.env whole) (TP X pins σ Q) X.xe s
def PA (X : Cx) (es : List Expr) (t : TA) : Prop :=
  ∀ (pos : Pos) (pins : List (Addr × Obj)) (s : Shared) (σ : St) (H : Hp) (Q : List V → Hp → Prop), Inv X pins σ H s → t σ H Q → wpAny (model X.prog X.w) X.A (spliced (backTo pos (starEach es X.env))) (AP X pins σ Q) X.xe s
def PS (X : Cx) (st : Stmt) (t : TS) : Prop :=
  ∀ (pins : List (Addr × Obj)) (s : Shared) (σ : St) (H : Hp) (D : Ends), Inv X pins σ H s → t D σ H → wpAny (model X.prog X.w) X.A (exec st X.env) (SP X pins D) X.xe s
def PSs (X : Cx) (st : List Stmt) (t : TS) : Prop :=
  ∀ (pins : List (Addr × Obj)) (s : Shared) (σ : St) (H : Hp) (D : Ends), Inv X pins σ H s → t D σ H → wpAny (model X.prog X.w) X.A (execs st X.env) (SP X pins D) X.xe s
theorem thn {α : Type} {t : Sem α} {Q Q' : α → Shared → Prop} {M : Model} {A : Around} {E : Value → Shared → Prop} {s : Shared} (h : wpAny M A t Q E s) (hQ : ∀ a s, Q a s → Q' a s) : wpAny M A t Q' E s := wpAny_mono h hQ fun _ _ x => x
end L2
namespace L2
open PySem PySem.Spec PyProof.Rows
section
variable {X : Cx}
def tVar (i : Nat) : TE := fun σ H Q => ∃ v, σ[i]? = some (some v) ∧ Q v H
def tC (v : V) : TE := fun _ H Q => Q v H
theorem pe_var {i : Nat} {x : Str} {pos : Pos} (hN : X.N[i]? = some x) (hv : Vis X.env.scope x) (hd : (x == ("__debug__" : Str)) = false := by decide) (hcd : (x == ("__classdict__" : Str)) = false := by decide) : PE X (.Name x pos) (tVar i) := by
  intro pins s σ H Q I h
  obtain ⟨v, e, h⟩ := h
  obtain ⟨m, hn, hl⟩ := I.loc
  obtain ⟨u, r, l⟩ := hl i x v hN e hv
  have fin : EP X pins σ Q u s := ⟨v, H, I, r, h⟩
  rcases l with ⟨hk, hm⟩ | ⟨hk, c, hc, hcell⟩
  · exact wpAny_Name (wpAny_loadName_local I.ok.kind hk hn hm fin) hd
  · rcases hk with hk | hk
    · exact wpAny_Name (wpAny_loadName_cell I.ok.kind hk hc hcell fin) hd
    · exact wpAny_Name (wpAny_loadName_free I.ok.kind hk hc hcell fin hcd) hd
theorem pe_int {i j pos} : PE X (.Constant (.int i) j pos) (tC (.int i)) := fun _ _ _ H _ I h => wpAny_Constant_int ⟨.int i, H, I.tok _, ⟨_, rfl⟩, h⟩
theorem pe_bl {b j pos} : PE X (.Constant (.bool b) j pos) (tC (.bl b)) := fun _ _ _ H _ I h => Constant_bool ⟨.bl b, H, I, rfl, h⟩
theorem pe_non {j pos} : PE X (.Constant .none j pos) (tC .non) := fun _ _ _ H _ I h => Constant_none ⟨.non, H, I, rfl, h⟩
theorem pe_str {x j pos} : PE X (.Constant (.str x) j pos) (tC (.str x)) := fun _ _ _ H _ I h => Calls.Constant_str ⟨.str x, H, I.tok _, ⟨_, rfl⟩, h⟩
def Gl (X : Cx) (x : Str) : Prop := X.env.kindOf x = some .globalImplicit
theorem ld_glob {E : Value → Shared → Prop} {pins : List (Addr × Obj)} {s : Shared} {σ : St} {H : Hp} {x : Str} {u : Value} {pos : Pos} {Q : Value → Shared → Prop} (I : Inv X pins σ H s) (hg : Gl X x) (hm : X.mg x = some u) (h : Q u s)
    (hd : (x == ("__debug__" : Str)) = false := by decide) : wpAny (model X.prog X.w) X.A (eval (.Name x pos) X.env) Q E s :=
  Calls.Name_function_global I.ok.kind hg (Calls.loadGlobal_global (by rw [I.ok.glob]; exact I.mod.glob.keeps I.bk) hm h) hd
theorem ld_blt {E : Value → Shared → Prop} {pins : List (Addr × Obj)} {s : Shared} {σ : St} {H : Hp} {x : Str} {u : Value} {pos : Pos} {Q : Value → Shared → Prop} (I : Inv X pins σ H s) (hg : Gl X x) (hm : X.mg x = none) (hv : bootBuiltins x = some u) (h : Q u s)
    (hn : x ≠ "__name__" := by decide) (hd : (x == ("__debug__" : Str)) = false := by decide) : wpAny (model X.prog X.w) X.A (eval (.Name x pos) X.env) Q E s := by
  obtain ⟨mb, h1, h2⟩ := I.mod.blt
  exact Calls.Name_function_global I.ok.kind hg (Calls.loadGlobal_builtin (by rw [I.ok.glob]; exact I.mod.glob.keeps I.bk) hm (by rw [I.ok.blt]; exact h1.keeps I.bk) ((h2 x hn).trans hv) h) hd
theorem pe_bltn {x : Str} {v : V} {u : Value} {pos : Pos} (hg : Gl X x) (hm : X.mg x = none) (hv : bootBuiltins x = some u) (r : RelV v u) (hn : x ≠ "__name__" := by decide) (hd : (x == ("__debug__" : Str)) = false := by decide) : PE X (.Name x pos) (tC v) :=
  fun _ _ _ H _ I h => ld_blt I hg hm hv ⟨v, H, I, r, h⟩ hn hd
variable {a b : Expr} {ta tb : TE} {pos : Pos}
def tB (t : TE) : TT := fun σ H Q => t σ H fun x H1 => ∃ c, x = .bl c ∧ Q c H1
theorem pt_val {e : Expr} {t : TE} (h : PE X e t) (he : ∀ whole, isTrue e X.env whole = (do let v ← whole; standAt e.pos; holding [v] (truthy v)) := by intro _; rfl) : PT X e (tB t) := by
  intro pins s σ H Q I hw
  refine isTrue_plain (thn (h pins s σ H _ I hw) fun v s1 ⟨x, H1, I1, r1, q1⟩ => ?_) (he _)
  obtain ⟨d, rfl, q⟩ := q1
  cases r1
  exact wpAny_truthy_bool ⟨H1, I1, q⟩
variable {tA tB' : TT} {rest : List Expr}
def tAnd (t u : TT) : TT := fun σ H Q => t σ H fun c H1 => if c = true then u σ H1 Q else Q false H1
def tOr (t u : TT) : TT := fun σ H Q => t σ H fun c H1 => if c = true then Q true H1 else u σ H1 Q
def tNot (t : TT) : TT := fun σ H Q => t σ H fun c H1 => Q (!c) H1
theorem pw_and1 (ha : PT X a tA) : PW X (.BoolOp .And [a] pos) tA := by
  intro wh pins s σ H Q I h
  refine isTrue_and (thn (ha pins s σ H Q I h) fun c s1 e => ?_)
  cases c with
  | true => exact isTrue_and_nil e
  | false => exact e
theorem pw_or1 (ha : PT X a tA) : PW X (.BoolOp .Or [a] pos) tA := by
  intro wh pins s σ H Q I h
  refine isTrue_or (thn (ha pins s σ H Q I h) fun c s1 e => ?_)
  cases c with
  | false => exact isTrue_or_nil e
  | true => exact e
theorem pw_and (ha : PT X a tA) (hb : PW X (.BoolOp .And (b :: rest) pos) tB') : PW X (.BoolOp .And (a :: b :: rest) pos) (tAnd tA tB') := by
  intro wh pins s σ H Q I h
  refine isTrue_and (thn (ha pins s σ H _ I h) fun c s1 ⟨H1, I1, q1⟩ => ?_)
  cases c with
  | true => exact hb wh pins s1 σ H1 Q I1 q1
  | false => exact ⟨H1, I1, q1⟩
theorem pw_or (ha : PT X a tA) (hb : PW X (.BoolOp .Or (b :: rest) pos) tB') : PW X (.BoolOp .Or (a :: b :: rest) pos) (tOr tA tB') := by
  intro wh pins s σ H Q I h
  refine isTrue_or (thn (ha pins s σ H _ I h) fun c s1 ⟨H1, I1, q1⟩ => ?_)
  cases c with
  | true => exact ⟨H1, I1, q1⟩
  | false => exact hb wh pins s1 σ H1 Q I1 q1
theorem pt_not (ha : PT X a tA) : PT X (.UnaryOp .Not a pos) (tNot tA) := by
  intro pins s σ H Q I h
  exact isTrue_not (ha pins s σ H (fun c H1 => Q (!c) H1) I h)
end
end L2
namespace L2
open PySem PySem.Spec PyProof.Rows
def SqL (K : PySem.W.Frag) (H : Hp) (a : Addr) (xs : List V) : Prop :=
  Rd H a (.lst xs) ∨
    ∃ (o : Obj) (its : Array Value) (n : Nat), K.lookup a = some o ∧ o.cls = .type "list" ∧ o.dict = none ∧ o.data = .seq its n ∧ its.size ≤ sizeLine ∧ Vals xs its.toList
def SqT (K : PySem.W.Frag) (H : Hp) (a : Addr) (xs : List V) : Prop :=
  Rd H a (.tup xs) ∨
    ∃ (o : Obj) (its : Array Value) (n : Nat), K.lookup a = some o ∧ o.cls = .type "tuple" ∧ o.data = .seq its n ∧ its.size ≤ sizeLine ∧ Vals xs its.toList ∧ o.dict = none
def absV : Value → Option V
  | .none => some .non
  | .bool b => some (.bl b)
  | .int i _ => some (.int i)
  | .str x _ => some (.str x)
  | .bytes b _ => some (.byt b)
  | .float b _ => some (.flt b)
  | .ref a => some (.ref a)
  | .type n => some (.ty n)
  | _ => none
theorem RelV.abs {x : V} {u : Value} (r : RelV x u) : absV u = some x := by
  cases x with
  | non => cases r; rfl
  | bl _ => cases r; rfl
  | int _ => obtain ⟨t, rfl⟩ := r; rfl
  | str _ => obtain ⟨t, rfl⟩ := r; rfl
  | byt _ => obtain ⟨t, rfl⟩ := r; rfl
  | flt _ => obtain ⟨t, rfl⟩ := r; rfl
  | ref _ => cases r; rfl
  | ty _ => cases r; rfl
theorem RelV.inj {x y : V} {u : Value} (r : RelV x u) (q : RelV y u) : x = y := Option.some.inj (r.abs.symm.trans q.abs)
theorem Vals.inj : ∀ {xs ys : List V} {us : List Value}, Vals xs us → Vals ys us → xs = ys
  | _, _, _, .nil, .nil => rfl
  | _, _, _, .cons r t, .cons r' t' => by rw [r.inj r', Vals.inj t t']
section
variable {X : Cx} {pins : List (Addr × Obj)} {σ : St} {H : Hp} {s : Shared} {a : Addr} {xs ys : List V}
theorem SqL.of {K : PySem.W.Frag} (h : H a = some (.lst xs)) : SqL K H a xs := .inl (.inl h)
theorem SqT.of {K : PySem.W.Frag} (h : H a = some (.tup xs)) : SqT K H a xs := .inl (.inl h)
theorem Inv.list (I : Inv X pins σ H s) (h : SqL X.K H a xs) : ∃ its : List Value, Vals xs its ∧ PlainL s.heap a its.toArray ∧ xs.length ≤ sizeLine := by
  rcases h with h | ⟨o, its, n, hk, hc, hd, hs, hz, r⟩
  · obtain ⟨z, its, n, r, e⟩ := h.ok I.hok
    exact ⟨its, r, ⟨_, n, e, rfl, rfl, rfl⟩, z⟩
  · refine ⟨its.toList, r, ⟨o, n, I.kIn a o hk, hc, hd, by simpa using hs⟩, ?_⟩
    have e := r.length
    simp only [Array.length_toList] at e
    omega
theorem Inv.tuple (I : Inv X pins σ H s) (h : SqT X.K H a xs) : ∃ its : List Value, Vals xs its ∧ IsTup s.heap a its.toArray ∧ xs.length ≤ sizeLine := by
  rcases h with h | ⟨o, its, n, hk, hc, hs, hz, r, _⟩
  · obtain ⟨z, its, r, p⟩ := h.ok I.hok
    exact ⟨its, r, p.tup, z⟩
  · refine ⟨its.toList, r, ⟨o, I.kIn a o hk, hc, n, by simpa using hs⟩, ?_⟩
    have e := r.length
    simp only [Array.length_toList] at e
    omega
theorem Inv.list_inj (I : Inv X pins σ H s) (h : SqL X.K H a xs) (h' : SqL X.K H a ys) : xs = ys := by
  obtain ⟨its, r, ⟨o, n, e, _, _, d⟩, _⟩ := I.list h
  obtain ⟨its', r', ⟨o', n', e', _, _, d'⟩, _⟩ := I.list h'
  rw [e] at e'; cases e'
  rw [d] at d'
  injection d' with d1 _
  have : its = its' := by simpa using congrArg Array.toList d1
  subst this
  exact r.inj r'
theorem Inv.tuple_inj (I : Inv X pins σ H s) (h : SqT X.K H a xs) (h' : SqT X.K H a ys) : xs = ys := by
  obtain ⟨its, r, ⟨o, e, _, n, d⟩, _⟩ := I.tuple h
  obtain ⟨its', r', ⟨o', e', _, n', d'⟩, _⟩ := I.tuple h'
  rw [e] at e'; cases e'
  rw [d] at d'
  injection d' with d1 _
  have : its = its' := by simpa using congrArg Array.toList d1
  subst this
  exact r.inj r'
end
abbrev Cx.wish (X : Cx) (E : Value → Shared → Prop) : Cx := { X with xe := E }
abbrev Cx.nox (X : Cx) : Cx := X.wish fun _ _ => False
theorem Cx.Ok.wish {X : Cx} (ok : X.Ok) (E : Value → Shared → Prop) : (X.wish E).Ok :=
  ⟨ok.mod, ok.kind, ok.glob, ok.blt, ok.above, ok.inj, ok.has, ok.cab, ok.hd, ok.frames, ok.stk, ok.exf, ok.bs, ok.bsz, ok.noex, ok.exfs, ok.funs, ok.frf⟩
theorem Cx.Ok.unwish {X : Cx} {E : Value → Shared → Prop} (ok : (X.wish E).Ok) : X.Ok :=
  ⟨ok.mod, ok.kind, ok.glob, ok.blt, ok.above, ok.inj, ok.has, ok.cab, ok.hd, ok.frames, ok.stk, ok.exf, ok.bs, ok.bsz, ok.noex, ok.exfs, ok.funs, ok.frf⟩
section
variable {X : Cx} {pins : List (Addr × Obj)} {σ : St} {H : Hp} {s : Shared} {E : Value → Shared → Prop}
theorem Inv.wish (I : Inv X pins σ H s) (E : Value → Shared → Prop) : Inv (X.wish E) pins σ H s := ⟨I.ok.wish E, I.os, I.bare, I.base, I.loc, I.cell, I.free, I.freeC, I.pin, I.hok, I.len⟩
theorem Inv.unwish (I : Inv (X.wish E) pins σ H s) : Inv X pins σ H s := ⟨I.ok.unwish, I.os, I.bare, I.base, I.loc, I.cell, I.free, I.freeC, I.pin, I.hok, I.len⟩
theorem SP.unwish {D : Ends} {f : Flow} {s' : Shared} (h : SP (X.wish E) pins D f s') : SP X pins D f s' := by
  cases f with
  | next => obtain ⟨σ', H', I, q⟩ := h; exact ⟨σ', H', I.unwish, q⟩
  | brk => obtain ⟨σ', H', I, q⟩ := h; exact ⟨σ', H', I.unwish, q⟩
  | cont => obtain ⟨σ', H', I, q⟩ := h; exact ⟨σ', H', I.unwish, q⟩
  | ret u => obtain ⟨v, σ', H', I, r, q⟩ := h; exact ⟨v, σ', H', I.unwish, r, q⟩
theorem PSs.nox {st : List Stmt} {t : TS} (h : PSs X.nox st t) : PSs X st t := fun pins s σ H D I hw =>
  wpAny_mono (h pins s σ H D (I.wish _) hw) (fun _ _ q => q.unwish) fun _ _ z => False.elim z
end
section
variable {X : Cx} {st : Stmt} {rest : List Stmt} {t u : TS} {e : Expr} {te : TE} {pos : Pos}
def tNext : TS := fun D σ H => D.nx σ H
def tSeq (t u : TS) : TS := fun D σ H => t { D with nx := u D } σ H
theorem pss_nil : PSs X [] tNext := fun _ _ σ H _ I h => wpAny_execs_nil ⟨σ, H, I, h⟩
theorem pss_cons (h1 : PS X st t) (h2 : PSs X rest u) : PSs X (st :: rest) (tSeq t u) := by
  intro pins s σ H D I h
  refine wpAny_execs_cons (thn (h1 pins s σ H { D with nx := u D } I h) fun f s1 q => ?_)
  cases f with
  | next =>
    obtain ⟨σ', H', I', q⟩ := q
    exact h2 pins s1 σ' H' D I' q
  | ret v => exact q
  | brk => exact q
  | cont => exact q
theorem pss_one (h1 : PS X st t) : PSs X [st] t := by
  intro pins s σ H D I h
  refine wpAny_execs_cons (thn (h1 pins s σ H D I h) fun f s1 q => ?_)
  cases f with
  | next => exact wpAny_execs_nil q
  | ret v => exact q
  | brk => exact q
  | cont => exact q
def tBreak : TS := fun D σ H => D.bk σ H
theorem ps_break : PS X (.Break pos) tBreak := fun _ _ σ H _ I h => wpAny_Break ⟨σ, H, I, h⟩
theorem Inv.quiet {pins : List (Addr × Obj)} {σ : St} {H : Hp} {s : Shared} (I : Inv X pins σ H s) : interactive X.env = false := by simp [interactive, I.ok.kind]
def tDrop (te : TE) : TS := fun D σ H => te σ H fun _ H1 => D.nx σ H1
theorem ps_expr (he : PE X e te) (hs : swapsWith e none pos.line X.env = pure false := by rfl) : PS X (.Expr e pos) (tDrop te) := by
  intro pins s σ H D I h
  exact wpAny_Expr_any (thn (he pins s σ H _ I h) fun v s1 ⟨x, H1, I1, r1, q1⟩ => ⟨σ, H1, I1, q1⟩) I.quiet hs
def tRet (te : TE) : TS := fun D σ H => te σ H D.rt
theorem ps_ret (he : PE X e te) : PS X (.Return (some e) pos) (tRet te) := by
  intro pins s σ H D I h
  exact wpAny_Return_some (thn (he pins s σ H _ I h) fun v s1 ⟨x, H1, I1, r1, q1⟩ => ⟨x, σ, H1, I1, r1, q1⟩)
def tIfS (c : TT) (t u : TS) : TS := fun D σ H => c σ H fun b H1 => if b = true then t D σ H1 else u D σ H1
theorem ps_if {c : Expr} {a b : List Stmt} {tc : TT} (hc : PT X c tc) (ha : PSs X a t) (hb : PSs X b u) : PS X (.If c a b pos) (tIfS tc t u) := by
  intro pins s σ H D I h
  refine wpAny_If (thn (hc pins s σ H _ I h) fun d s1 ⟨H1, I1, q1⟩ => ?_)
  cases d with
  | true => exact ha pins s1 σ H1 D I1 q1
  | false => exact hb pins s1 σ H1 D I1 q1
end
abbrev TG := V → St → Hp → (St → Hp → Prop) → Prop
abbrev TGs := List V → St → Hp → (St → Hp → Prop) → Prop
def PG (X : Cx) (target : Expr) (t : TG) : Prop :=
  ∀ (pins : List (Addr × Obj)) (s : Shared) (σ : St) (H : Hp) (v : V) (u : Value) (Q : St → Hp → Prop), Inv X pins σ H s → RelV v u → t v σ H Q →
    wpAny (model X.prog X.w) X.A (assign target X.env u) (fun _ s' => ∃ σ' H', Inv X pins σ' H' s' ∧ Q σ' H') X.xe s
def PGs (X : Cx) (ts : List Expr) (t : TGs) : Prop :=
  ∀ (pins : List (Addr × Obj)) (s : Shared) (σ : St) (H : Hp) (vs : List V) (us : List Value) (Q : St → Hp → Prop), Inv X pins σ H s → Vals vs us → t vs σ H Q →
    wpAny (model X.prog X.w) X.A (assignInOrder ((assignEach ts X.env).map (·.2)) us) (fun _ s' => ∃ σ' H', Inv X pins σ' H' s' ∧ Q σ' H') X.xe s
abbrev TSet := V → V → V → Hp → (Hp → Prop) → Prop
def PSet (X : Cx) (t : TSet) : Prop :=
  ∀ (pins : List (Addr × Obj)) (s : Shared) (σ : St) (H : Hp) (o i v : V) (ov iv u : Value) (Q : Hp → Prop), Inv X pins σ H s → RelV o ov → RelV i iv → RelV v u → t o i v H Q →
    wpAny (model X.prog X.w) X.A (setItem ov iv u) (fun _ s' => ∃ H', Inv X pins σ H' s' ∧ Q H') X.xe s
section
variable {X : Cx} {pos : Pos}
def gName (i : Nat) : TG := fun v σ H Q => Q (σ.set i (some v)) H
theorem pg_name {i : Nat} {x : Str} (hN : X.N.Nodup) (hi : X.N[i]? = some x) (hx : Loc X.env.scope x) (hf : X.fn x = true ∨ X.env.scope.names.lookup x = some .local := by first | exact .inl rfl | exact .inr rfl | assumption) : PG X (.Name x pos) (gName i) := by
  intro pins s σ H v u Q I r h
  exact wpAny_assign_Name (store_ok I hN hi hx r (fun s' I' => ⟨_, H, I', h⟩) hf)
def gNil : TGs := fun vs σ H Q => vs = [] ∧ Q σ H
def gCons (t : TG) (u : TGs) : TGs := fun vs σ H Q => ∃ v r, vs = v :: r ∧ t v σ H fun σ' H' => u r σ' H' Q
theorem pgs_nil : PGs X [] gNil := by
  intro pins s σ H vs us Q I r h
  obtain ⟨e, h⟩ := h
  subst e
  cases r
  exact assignInOrder_nil ⟨σ, H, I, h⟩
theorem pgs_cons {e : Expr} {es : List Expr} {t : TG} {u : TGs} (h1 : PG X e t) (h2 : PGs X es u)
    (hs : (assignEach (e :: es) X.env).map (·.2) = assign e X.env :: (assignEach es X.env).map (·.2) := by rfl) : PGs X (e :: es) (gCons t u) := by
  intro pins s σ H vs us Q I r h
  obtain ⟨v, vr, e1, h⟩ := h
  subst e1
  cases r with
  | cons r rr =>
    rw [hs]
    refine assignInOrder_cons (thn (h1 pins s σ H _ _ _ I r h) fun _ s1 ⟨σ1, H1, I1, q1⟩ => ?_)
    exact h2 pins s1 σ1 H1 _ _ Q I1 rr q1
def gTup (K : PySem.W.Frag) (n : Nat) (t : TGs) : TG := fun v σ H Q => ∃ a xs, v = .ref a ∧ SqT K H a xs ∧ xs.length = n ∧ t xs σ H Q
theorem pg_tup {es : List Expr} {k : Nat} {t : TGs} {n : Nat} (hc : X.calm = true) (h : PGs X es t)
    (hn : (assignEach es X.env).length = n := by rfl) (hst : (assignEach es X.env).findIdx? (·.1) = none := by rfl) : PG X (.Tuple es k pos) (gTup X.K n t) := by
  intro pins s σ H v u Q I r hw
  obtain ⟨a, xs, e1, hq, hl, hw⟩ := hw
  subst e1
  cases r
  obtain ⟨its, rv, ht, hz⟩ := I.tuple hq
  refine assign_Tuple_tuple (I.ok.hd hc) ht (by simp [hn, ← hl, rv.length]) hst fun h' hx => ?_
  have I1 : Inv X pins σ H { s with heap := h' } := I.kept (t' := s.toks) fun b o e => hx b o (Nat.ne_of_lt (Heap.lt_size e)) e
  exact h pins _ σ H xs _ Q I1 (by simpa using rv) hw
def gSub (to ti : TE) (t : TSet) : TG := fun v σ H Q => to σ H fun o H1 => ti σ H1 fun i H2 => t o i v H2 fun H3 => Q σ H3
theorem pg_sub {o i : Expr} {to ti : TE} {t : TSet} (ho : PE X o to) (hi : PE X i ti) (hs : PSet X t)
    (ha : ∀ v, assign (.Subscript o i pos) X.env v = (do
      let ov ← holding [v] (eval o X.env)
      let iv ← holding [v, ov] (eval i X.env)
      standAt pos
      holding [v, ov, iv] (setItem ov iv v)
      release [v, ov, iv] []) := by intro _; rfl) : PG X (.Subscript o i pos) (gSub to ti t) := by
  intro pins s σ H v u Q I r h
  rw [ha]
  refine wpAny_bind (wpAny_holding (thn (ho pins s σ H _ I h) fun ov s1 ⟨x, H1, I1, r1, q1⟩ => ?_))
  refine wpAny_bind (wpAny_holding (thn (hi pins s1 σ H1 _ I1 q1) fun iv s2 ⟨y, H2, I2, r2, q2⟩ => ?_))
  refine wpAny_bind (wpAny_standAt (wpAny_bind (wpAny_holding (thn (hs pins s2 σ H2 x y v ov iv u _ I2 r1 r2 r q2) fun _ s3 ⟨H3, I3, q3⟩ => ?_))))
  exact wpAny_release ⟨σ, H3, I3, q3⟩
def tAsg (te : TE) (g : TG) : TS := fun D σ H => te σ H fun x H1 => g x σ H1 D.nx
theorem ps_asg {tg e : Expr} {te : TE} {g : TG} (he : PE X e te) (hg : PG X tg g) (hs : swapsWithSole [tg] e pos.line X.env = pure false := by rfl) (hw : swappedStores [tg] e X.env = pure none := by rfl)
    (h1 : (assignEach [tg] X.env).map (·.2) = [assign tg X.env] := by rfl) : PS X (.Assign [tg] e pos) (tAsg te g) := by
  intro pins s σ H D I h
  refine wpAny_Assign_stores (thn (he pins s σ H _ I h) fun v s1 ⟨x, H1, I1, r1, q1⟩ => ?_) hs hw
  rw [h1]
  exact thn (hg pins s1 σ H1 x v _ I1 r1 q1) fun _ s2 q => q
theorem ps_set {i : Nat} {x : Str} {e : Expr} {te : TE} {pos' : Pos} (hN : X.N.Nodup) (hi : X.N[i]? = some x) (hx : Loc X.env.scope x) (he : PE X e te) (hs : swapsWith e (some (.Name x pos')) pos.line X.env = pure false := by rfl) (hf : X.fn x = true ∨ X.env.scope.names.lookup x = some .local := by first | exact .inl rfl | exact .inr rfl | assumption) :
    PS X (.Assign [.Name x pos'] e pos) (tAsg te (gName i)) := by
  intro pins s σ H D I h
  refine wpAny_Assign_Name (thn (he pins s σ H _ I h) fun v s1 ⟨y, H1, I1, r1, q1⟩ => ?_) hs
  exact store_ok I1 hN hi hx r1 (fun s2 I2 => ⟨_, H1, I2, q1⟩) hf
end
section
variable {X : Cx} {pos : Pos}
def tWhile (c : TT) (tb : TS) : TS := fun D σ H => ∃ W : Nat → St → Hp → Prop, (∃ m, W m σ H) ∧ ∀ m σ H, W m σ H →
  c σ H fun b H1 => if b = true then ∃ N : St → Hp → Prop, (∀ σ' H', N σ' H' → ∃ m', m' < m ∧ W m' σ' H') ∧ tb { D with nx := N, ct := N, bk := D.nx } σ H1 else D.nx σ H1
theorem ps_while {c : Expr} {body : List Stmt} {tc : TT} {tb : TS} (hp : PassesOwn (model X.prog X.w) X.A X.env X.xe) (hc : PT X c tc) (hb : PSs X body tb) : PS X (.While c body [] pos) (tWhile tc tb) := by
  intro pins s σ H D I h
  obtain ⟨W, ⟨m0, w0⟩, turn⟩ := h
  refine wpAny_While (codeAny_whileLoop (fun n s' => ∃ σ' H', Inv X pins σ' H' s' ∧ W n σ' H') ?_ m0 ⟨σ, H, I, w0⟩)
  rintro n s1 ⟨σ1, H1, I1, w1⟩
  refine wpAny_passesOwn hp (thn (hc pins s1 σ1 H1 _ I1 (turn n σ1 H1 w1)) fun b s2 ⟨H2, I2, q2⟩ => ?_)
  cases b with
  | true =>
    obtain ⟨N, hN, q2⟩ := q2
    rw [if_pos rfl]
    refine wpAny_passesOwn hp (thn (hb pins s2 σ1 H2 _ I2 q2) fun f s3 q3 => ?_)
    cases f with
    | next =>
      obtain ⟨σ3, H3, I3, n3⟩ := q3
      obtain ⟨m', hm, w3⟩ := hN σ3 H3 n3
      exact ⟨m', hm, σ3, H3, I3, w3⟩
    | cont =>
      obtain ⟨σ3, H3, I3, n3⟩ := q3
      obtain ⟨m', hm, w3⟩ := hN σ3 H3 n3
      exact ⟨m', hm, σ3, H3, I3, w3⟩
    | brk => exact q3
    | ret v => exact q3
  | false =>
    rw [if_neg Bool.false_ne_true]
    exact wpAny_execs_nil ⟨σ1, H2, I2, q2⟩
end
structure It where
  go : Nat → Hp → Prop
  yld : Nat → Hp → V → Hp → Prop
  stop : Nat → Hp → Prop
def FpOk (X : Cx) (pins : List (Addr × Obj)) (H : Hp) (b : Addr) : Prop :=
  H b = none ∧ b ≠ X.env.locals ∧ b ∉ X.fs ∧ (b ∈ X.ex ∨ X.s₀.heap.objs.size ≤ b) ∧ (∀ x c, X.env.cells.lookup x = some c → c ≠ b) ∧ ∀ p ∈ X.pn ++ pins, p.1 ≠ b
theorem Inv.fpOk {X : Cx} {pins : List (Addr × Obj)} {σ : St} {H H' : Hp} {s : Shared} {b : Addr} (I : Inv X pins σ H s) (hb : s.heap.objs.size ≤ b) (hn : H' b = none) : FpOk X pins H' b := by
  refine ⟨hn, Nat.ne_of_gt (Nat.lt_of_lt_of_le I.lt hb), I.nofs hb, .inr (Nat.le_trans I.sz hb), fun x c e z => ?_, fun p hp z => ?_⟩
  · obtain ⟨v, q⟩ := I.cell x c e
    exact absurd (Nat.lt_of_lt_of_le q.lt (by rw [z]; exact hb)) (Nat.lt_irrefl _)
  · exact absurd (Nat.lt_of_lt_of_le (Heap.lt_size (I.pin p hp).1) (by rw [z]; exact hb)) (Nat.lt_irrefl _)
structure Turn (P : Program) (w : World) (K : PySem.W.Frag) (tg : Expr) (J : It) (fp : List Addr) (it : Addr) (tn : Nat → Heap → Prop) : Prop where
  mem : it ∈ fp
  obj : ∀ i h, tn i h → ∀ b ∈ fp, ∃ o, h.get? b = some o ∧ ∀ v, o.data ≠ .cell v
  keep : ∀ i h h', tn i h → (∀ b ∈ fp, ∀ o, h.get? b = some o → h'.get? b = some o) → tn i h'
  item : ∀ (X : Cx), X.prog = P → X.w = w → X.K = K → X.calm = true → ∀ (i : Nat) (pins : List (Addr × Obj)) (s : Shared) (σ : St) (H : Hp) (E : Value → Shared → Prop), Inv X pins σ H s → (∀ b ∈ fp, FpOk X pins H b) → tn i s.heap → J.go i H →
    wpAny (model P w) X.A (pyNext (.ref it)) (fun r s1 => ∃ u, r = some u ∧
      wpAny (model P w) X.A (letOwnedTupleGo tg (.ref it) u) (fun _ s2 => ∃ x H', Inv X pins σ H' s2 ∧ RelV x u ∧ J.yld i H x H' ∧ tn (i + 1) s2.heap ∧ ∀ b ∈ fp, H' b = none) E s1) E s
  done : ∀ (X : Cx), X.prog = P → X.w = w → X.K = K → X.calm = true → ∀ (i : Nat) (pins : List (Addr × Obj)) (s : Shared) (σ : St) (H : Hp) (E : Value → Shared → Prop), Inv X pins σ H s → (∀ b ∈ fp, FpOk X pins H b) → tn i s.heap → J.stop i H →
    wpAny (model P w) X.A (pyNext (.ref it)) (fun r s1 => r = none ∧ Inv X pins σ H s1) E s
  self : ∀ (A : Around) (i : Nat) (s : Shared) (Q : Value → Shared → Prop) (E : Value → Shared → Prop), tn i s.heap → Q (.ref it) s → wpAny (model P w) A (pyIter (.ref it)) Q E s
abbrev TI := St → Hp → (It → Hp → Prop) → Prop
def PIE (X : Cx) (pins : List (Addr × Obj)) (σ : St) (tg : Expr) (R : It → Hp → Prop) (itv : Value) (s2 : Shared) : Prop :=
  ∃ (it : Addr) (fp : List Addr) (tn : Nat → Heap → Prop) (J : It) (H' : Hp), itv = .ref it ∧ Inv X pins σ H' s2 ∧ Turn X.prog X.w X.K tg J fp it tn ∧ tn 0 s2.heap ∧ (∀ b ∈ fp, FpOk X pins H' b) ∧ R J H'
def PI (X : Cx) (tg iter : Expr) (wi : TI) : Prop :=
  ∀ (pins : List (Addr × Obj)) (s : Shared) (σ : St) (H : Hp) (R : It → Hp → Prop), Inv X pins σ H s → wi σ H R →
    wpAny (model X.prog X.w) X.A (eval iter X.env) (fun v s1 => wpAny (model X.prog X.w) X.A (pyIter v) (PIE X pins σ tg R) X.xe s1) X.xe s
theorem go_of {M : Model} {A : Around} {E : Value → Shared → Prop} {s : Shared} {tg : Expr} {it : Addr} {u : Value} {o : Obj} {n : String} {vs : Array Value} {Q : Unit → Shared → Prop} (ho : s.heap.get? it = some o) (hc : o.cls = .type n) (hd : o.data = .fields vs)
    (hn : ["enumerate", "zip", "dict_itemiterator", "dict_reverseitemiterator", "odict_iterator", "itertools.zip_longest", "itertools.pairwise"].contains n = false) (hQ : Q () s) : wpAny M A (letOwnedTupleGo tg (.ref it) u) Q E s := by
  unfold letOwnedTupleGo
  cases tg <;> first
    | exact wpAny_pure hQ
    | (cases u <;> first
        | exact wpAny_pure hQ
        | (refine wpAny_bind (wpAny_load ho ?_)
           rw [hc, hd]
           show wpAny M A (if (["enumerate", "zip", "dict_itemiterator", "dict_reverseitemiterator", "odict_iterator", "itertools.zip_longest", "itertools.pairwise"].contains n && vs[0]? == some (rawInt _)) = true then _ else _) Q E s
           rw [if_neg (by intro h; rw [hn, Bool.false_and] at h; cases h)]
           exact wpAny_pure hQ))
def Itl (K : PySem.W.Frag) (a : Addr) : It :=
  ⟨fun i H => ∃ xs x, SqL K H a xs ∧ xs[i]? = some x, fun i H x H' => H' = H ∧ ∀ xs, SqL K H a xs → xs[i]? = some x, fun i H => ∃ xs, SqL K H a xs ∧ xs.length ≤ i⟩
def Itt (K : PySem.W.Frag) (a : Addr) : It :=
  ⟨fun i H => ∃ xs x, SqT K H a xs ∧ xs[i]? = some x, fun i H x H' => H' = H ∧ ∀ xs, SqT K H a xs → xs[i]? = some x, fun i H => ∃ xs, SqT K H a xs ∧ xs.length ≤ i⟩
def Itr (lo : Int) (n : Nat) : It := ⟨fun i _ => i < n, fun i H x H' => H' = H ∧ x = .int (lo + i), fun i _ => n ≤ i⟩
theorem turn_list {P : Program} {w : World} {K : PySem.W.Frag} {tg : Expr} (a it : Addr) : Turn P w K tg (Itl K a) [it] it (fun i h => h.IsListIter it a i) where
  mem := by simp
  obj := fun i h st b hb => by
    have e : b = it := by simpa using hb
    subst e
    obtain ⟨o, e, c, d⟩ := st
    exact ⟨o, e, fun v z => by rw [d] at z; cases z⟩
  keep := fun i h h' st k => st.at fun o e => k it (by simp) o e
  item := by
    intro X hP hw hK hc i pins s σ H E I hf st hg
    subst hP hw hK
    obtain ⟨xs, x, hq, hx⟩ := hg
    obtain ⟨its, rv, p, hz⟩ := I.list hq
    obtain ⟨u, hu, ru⟩ := rv.get hx
    obtain ⟨f0, f1, f2, f3, f4, f5⟩ := hf it (by simp)
    refine wpAny_pyNext_list_item st p.isList (x := u) (by simpa using hu) fun h' st' sb => ?_
    have I1 : Inv X pins σ H { s with heap := h' } := I.turned (t' := s.toks) (fun b o hb e => (sb.2 b hb).trans e) f0 f1 f3 f4 f5
    obtain ⟨o, e, c, d⟩ := id st'
    exact ⟨u, rfl, go_of (s := { s with heap := h' }) e c d (by decide) ⟨x, H, I1, ru, ⟨rfl, fun ys hy => by rw [I.list_inj hy hq]; exact hx⟩, st', fun b hb => (hf b hb).1⟩⟩
  done := by
    intro X hP hw hK hc i pins s σ H E I hf st hg
    subst hP hw hK
    obtain ⟨xs, hq, hx⟩ := hg
    obtain ⟨its, rv, p, hz⟩ := I.list hq
    obtain ⟨f0, f1, f2, f3, f4, f5⟩ := hf it (by simp)
    have hl := rv.length
    exact wpAny_pyNext_list_end (I.ok.hd hc) st p.isList (by simp; omega) fun h' eb => ⟨rfl, I.turned (t' := s.toks) (fun b o hb e => eb b o hb e) f0 f1 f3 f4 f5⟩
  self := fun _ _ _ _ _ st h => wpAny_pyIter_listiter st h
theorem turn_tuple {P : Program} {w : World} {K : PySem.W.Frag} {tg : Expr} (a it : Addr) : Turn P w K tg (Itt K a) [it] it (fun i h => h.IsTupleIter it a i) where
  mem := by simp
  obj := fun i h st b hb => by
    have e : b = it := by simpa using hb
    subst e
    obtain ⟨o, e, c, d⟩ := st
    exact ⟨o, e, fun v z => by rw [d] at z; cases z⟩
  keep := fun i h h' st k => st.at fun o e => k it (by simp) o e
  item := by
    intro X hP hw hK hc i pins s σ H E I hf st hg
    subst hP hw hK
    obtain ⟨xs, x, hq, hx⟩ := hg
    obtain ⟨its, rv, p, hz⟩ := I.tuple hq
    obtain ⟨u, hu, ru⟩ := rv.get hx
    obtain ⟨f0, f1, f2, f3, f4, f5⟩ := hf it (by simp)
    refine wpAny_pyNext_tuple_item st (show s.heap.IsTuple a its.toArray from p) (x := u) (by simpa using hu) fun h' st' sb => ?_
    have I1 : Inv X pins σ H { s with heap := h' } := I.turned (t' := s.toks) (fun b o hb e => (sb.2 b hb).trans e) f0 f1 f3 f4 f5
    obtain ⟨o, e, c, d⟩ := id st'
    exact ⟨u, rfl, go_of (s := { s with heap := h' }) e c d (by decide) ⟨x, H, I1, ru, ⟨rfl, fun ys hy => by rw [I.tuple_inj hy hq]; exact hx⟩, st', fun b hb => (hf b hb).1⟩⟩
  done := by
    intro X hP hw hK hc i pins s σ H E I hf st hg
    subst hP hw hK
    obtain ⟨xs, hq, hx⟩ := hg
    obtain ⟨its, rv, p, hz⟩ := I.tuple hq
    obtain ⟨f0, f1, f2, f3, f4, f5⟩ := hf it (by simp)
    have hl := rv.length
    exact wpAny_pyNext_tuple_end (I.ok.hd hc) st (show s.heap.IsTuple a its.toArray from p) (by simp; omega) fun h' eb => ⟨rfl, I.turned (t' := s.toks) (fun b o hb e => eb b o hb e) f0 f1 f3 f4 f5⟩
  self := fun _ _ _ _ _ st h => wpAny_pyIter_tupleiter st h
theorem turn_range {P : Program} {w : World} {K : PySem.W.Frag} {tg : Expr} (it : Addr) (lo : Int) (n : Nat) : Turn P w K tg (Itr lo n) [it] it (fun i h => IsRangeIter h it (lo + (i : Nat) * 1) ((n : Int) - (i : Nat)) 1) where
  mem := by simp
  obj := fun i h st b hb => by
    have e : b = it := by simpa using hb
    subst e
    exact ⟨_, st, fun v z => by
      have z' : Data.fields _ = Data.cell v := z
      cases z'⟩
  keep := fun i h h' st k => k it (by simp) _ st
  item := by
    intro X hP hw hK hc i pins s σ H E I hf st hg
    subst hP hw hK
    obtain ⟨f0, f1, f2, f3, f4, f5⟩ := hf it (by simp)
    have W := Walks.range (prog := X.prog) (w := X.w) (I.ok.hd hc) it lo 1 n
    refine W.item i s _ _ hg st fun v h' tk hv st' kk => ?_
    obtain ⟨t, rfl⟩ := hv
    have I1 : Inv X pins σ H { s with heap := h', toks := tk } := I.turned (fun b o hb e => kk b o (by simpa using hb) e) f0 f1 f3 f4 f5
    refine ⟨_, rfl, go_of (s := { s with heap := h', toks := tk }) (n := "range_iterator") st' rfl rfl (by decide) ⟨.int (lo + i), H, I1, ⟨t, ?_⟩, ⟨rfl, rfl⟩, st', fun b hb => (hf b hb).1⟩⟩
    rw [Int.mul_one]
  done := by
    intro X hP hw hK hc i pins s σ H E I hf st hg
    subst hP hw hK
    obtain ⟨f0, f1, f2, f3, f4, f5⟩ := hf it (by simp)
    exact wpAny_pyNext_range_end (I.ok.hd hc) st (by have : n ≤ i := hg; omega) fun h' eb => ⟨rfl, I.turned (t' := s.toks) (fun b o hb e => eb b o hb e) f0 f1 f3 f4 f5⟩
  self := fun _ _ _ _ _ st h => wpAny_pyIter_rangeiter st h
end L2
namespace L2
open PySem PySem.Spec PyProof.Rows
section
variable {X : Cx} {tg : Expr}
theorem range_it {pins : List (Addr × Obj)} {σ : St} {H : Hp} {s : Shared} {R : It → Hp → Prop} {E : Value → Shared → Prop} {lo hi : Int} {t u v : Tok} {tk : Nat} (I : Inv X pins σ H s) (h1 : -(2 ^ 62) ≤ lo) (h2 : lo < 2 ^ 62) (h3 : -(2 ^ 62) ≤ hi) (h4 : hi < 2 ^ 62)
    (q : R (Itr lo (hi - lo).toNat) H) : wpAny (model X.prog X.w) X.A (pyIter (.ref s.heap.objs.size)) (PIE X pins σ tg R) E { s with heap := s.heap.push { cls := .type "range", data := .fields #[.int lo t, .int hi u, .int 1 v] }, toks := tk } := by
  refine wpAny_pyIter_range (IsRange.new ..) (small_one h1 h2 h3 h4) ?_
  have I1 : Inv X pins σ H { s with heap := s.heap.push { cls := .type "range", data := .fields #[.int lo t, .int hi u, .int 1 v] }, toks := tk } := I.kept fun b o e => Heap.get?_push_of_some _ e
  refine ⟨(s.heap.push { cls := .type "range", data := .fields #[.int lo t, .int hi u, .int 1 v] }).objs.size, [(s.heap.push { cls := .type "range", data := .fields #[.int lo t, .int hi u, .int 1 v] }).objs.size], _, _, H, rfl,
    I1.kept (t' := tk) fun b o e => Heap.get?_push_of_some _ e, turn_range _ lo (hi - lo).toNat, ?_, fun b hb => ?_, q⟩
  · have e1 : lo + ((0 : Nat) : Int) * 1 = lo := by simp
    have e2 : (((hi - lo).toNat : Nat) : Int) - ((0 : Nat) : Int) = Builtin.Range.rangeSize lo hi 1 := by rw [rangeSize_one]; split <;> omega
    show IsRangeIter _ _ (lo + ((0 : Nat) : Int) * 1) ((((hi - lo).toNat : Nat) : Int) - ((0 : Nat) : Int)) 1
    rw [e1, e2]
    exact Heap.get?_push_size _ rfl
  · have e : b = (s.heap.push { cls := .type "range", data := .fields #[.int lo t, .int hi u, .int 1 v] }).objs.size := by simpa using hb
    subst e
    exact I1.fpOk (Nat.le_refl _) (I1.hok.fresh (Nat.le_refl _))
def iRng1 (ta : TA) : TI := fun σ H R => ta σ H fun vs H1 => ∃ j : Int, vs = [.int j] ∧ -(2 ^ 62) ≤ j ∧ j < 2 ^ 62 ∧ R (Itr 0 j.toNat) H1
def iRng2 (ta : TA) : TI := fun σ H R => ta σ H fun vs H1 => ∃ i j : Int, vs = [.int i, .int j] ∧ (-(2 ^ 62) ≤ i ∧ i < 2 ^ 62 ∧ -(2 ^ 62) ≤ j ∧ j < 2 ^ 62) ∧ R (Itr i (j - i).toNat) H1
theorem pi_range1 {a : Expr} {ta : TA} {p pos : Pos} (hg : Gl X "range") (hm : X.mg "range" = none) (ha : PA X [a] ta) (hs : starEach [a] X.env = [(false, eval a X.env)] := by rfl) : PI X tg (.Call (.Name "range" p) [a] [] pos) (iRng1 ta) := by
  intro pins s σ H R I h
  refine Call_ (ld_blt I hg hm boot_range (PyProof.Rows.callWith_type1 (thn (ha pos pins s σ H _ I h) fun us s1 ⟨vs, H1, I1, r1, q1⟩ => ?_) hs rfl))
  obtain ⟨j, e, q1, q2, q⟩ := q1
  subst e
  cases r1 with
  | cons r rr =>
    cases rr
    obtain ⟨t, rfl⟩ := r
    exact call_range_1 (range_it I1 (by omega) (by omega) q1 q2 (by simpa using q))
theorem pi_range2 {a b : Expr} {ta : TA} {p pos : Pos} (hg : Gl X "range") (hm : X.mg "range" = none) (ha : PA X [a, b] ta) (hs : starEach [a, b] X.env = [(false, eval a X.env), (false, eval b X.env)] := by rfl) (hs2 : starEach [b] X.env = [(false, eval b X.env)] := by rfl) :
    PI X tg (.Call (.Name "range" p) [a, b] [] pos) (iRng2 ta) := by
  intro pins s σ H R I h
  refine Call_ (ld_blt I hg hm boot_range (PyProof.Rows.callWith_type1 (thn (ha pos pins s σ H _ I h) fun us s1 ⟨vs, H1, I1, r1, q1⟩ => ?_) (by rw [hs, hs2]) (by rw [hs2]; rfl)))
  obtain ⟨i, j, e, ⟨q1, q2, q3, q4⟩, q⟩ := q1
  subst e
  cases r1 with
  | cons r rr =>
    cases rr with
    | cons r' rr =>
      cases rr
      obtain ⟨t, rfl⟩ := r
      obtain ⟨t', rfl⟩ := r'
      exact call_range_2 (range_it I1 q1 q2 q3 q4 q)
def tFor (wi : TI) (g : TG) (tb : TS) : TS := fun D σ H => wi σ H fun J H1 => ∃ W : Nat → Nat → St → Hp → Prop, (∃ m, W 0 m σ H1) ∧ ∀ i m σ H, W i m σ H →
  (J.stop i H ∧ D.nx σ H) ∨ (J.go i H ∧ ∃ N : St → Hp → Prop, (∀ σ' H', N σ' H' → ∃ m', m' < m ∧ W (i + 1) m' σ' H') ∧ ∀ x H', J.yld i H x H' → g x σ H' fun σ2 H2 => tb { D with nx := N, ct := N, bk := D.nx } σ2 H2)
def pinsAt (fp : List Addr) (h : Heap) : List (Addr × Obj) := fp.filterMap fun b => (h.get? b).map fun o => (b, o)
theorem mem_pinsAt {fp : List Addr} {h : Heap} {b : Addr} {o : Obj} (hb : b ∈ fp) (e : h.get? b = some o) : (b, o) ∈ pinsAt fp h := List.mem_filterMap.mpr ⟨b, hb, by rw [e]; rfl⟩
theorem of_pinsAt {fp : List Addr} {h : Heap} {p : Addr × Obj} (hp : p ∈ pinsAt fp h) : p.1 ∈ fp ∧ h.get? p.1 = some p.2 := by
  obtain ⟨b, hb, e⟩ := List.mem_filterMap.mp hp
  cases q : h.get? b with
  | none => rw [q] at e; cases e
  | some o =>
    rw [q] at e
    have e' : (b, o) = p := Option.some.inj e
    subst e'
    exact ⟨hb, q⟩
theorem Inv.pinned {pins : List (Addr × Obj)} {σ : St} {H : Hp} {s : Shared} {fp : List Addr} (I : Inv X pins σ H s) (hf : ∀ b ∈ fp, FpOk X pins H b) (ho : ∀ b ∈ fp, ∃ o, s.heap.get? b = some o ∧ ∀ v, o.data ≠ .cell v) : Inv X (pins ++ pinsAt fp s.heap) σ H s :=
  I.pins_of fun p hp => (List.mem_append.mp hp).elim (fun z => I.pin p (List.mem_append_right _ z)) fun z => by
    obtain ⟨hb, e⟩ := of_pinsAt z
    obtain ⟨f0, f1, f2, _⟩ := hf p.1 hb
    obtain ⟨o, e', d⟩ := ho p.1 hb
    rw [e] at e'; cases e'
    exact ⟨e, f0, f1, f2, d⟩
theorem Inv.unpinned {pins pl : List (Addr × Obj)} {σ : St} {H : Hp} {s : Shared} (I : Inv X (pins ++ pl) σ H s) : Inv X pins σ H s := I.pins_of fun p hp => I.pin p (List.mem_append_right _ (List.mem_append_left _ hp))
theorem ps_for {iter : Expr} {body : List Stmt} {wi : TI} {g : TG} {tb : TS} {pos : Pos} (hp : PassesOwn (model X.prog X.w) X.A X.env X.xe) (hc : X.calm = true) (hi : PI X tg iter wi) (hg : PG X tg g) (hb : PSs X body tb)
    (hs : ∀ x, foldedSetIterable iter X.env x = pure x := by intro _; rfl) : PS X (.For tg iter body [] pos) (tFor wi g tb) := by
  intro pins s σ H D I h
  refine wpAny_For (thn (hi pins s σ H _ I h) fun v s1 h1 => thn h1 fun itv s2 h2 => ?_) hs
  obtain ⟨it, fp, tn, J, H2, e, I2, T, st2, f2, W, ⟨m0, w0⟩, turn⟩ := h2
  subst e
  have stat : ∀ {H' : Hp}, (∀ b ∈ fp, H' b = none) → ∀ b ∈ fp, FpOk X pins H' b := fun hn b hb => ⟨hn b hb, (f2 b hb).2⟩
  refine codeAny_forLoop_any (fun n s' => ∃ i σ' H', Inv X pins σ' H' s' ∧ tn i s'.heap ∧ (∀ b ∈ fp, H' b = none) ∧ W i n σ' H') ?_ m0 ⟨0, σ, H2, I2, st2, fun b hb => (f2 b hb).1, w0⟩
  rintro n s3 ⟨i, σ3, H3, I3, st3, fr3, w3⟩
  rcases turn i n σ3 H3 w3 with ⟨stop, qn⟩ | ⟨go, N, hN, step⟩
  · refine wpAny_passesOwn hp (thn (T.done X rfl rfl rfl hc i pins s3 σ3 H3 X.xe I3 (stat fr3) st3 stop) fun r s4 ⟨hr, I4⟩ => ?_)
    subst hr
    exact wpAny_execs_nil ⟨σ3, H3, I4, qn⟩
  · refine wpAny_passesOwn hp (thn (T.item X rfl rfl rfl hc i pins s3 σ3 H3 X.xe I3 (stat fr3) st3 go) fun r s4 ⟨u, hr, h4⟩ => ?_)
    subst hr
    refine wpAny_passesOwn hp (thn h4 fun _ s5 ⟨x, H5, I5, r5, y5, st5, fr5⟩ => ?_)
    have I5' := I5.pinned (stat fr5) (T.obj _ _ st5)
    refine wpAny_passesOwn hp (thn (hg _ s5 σ3 H5 x u _ I5' r5 (step x H5 y5)) fun _ s6 ⟨σ6, H6, I6, q6⟩ => ?_)
    refine wpAny_passesOwn hp (thn (hb _ s6 σ6 H6 _ I6 q6) fun f s7 q7 => ?_)
    have again : ∀ {σ7 : St} {H7 : Hp}, Inv X (pins ++ pinsAt fp s5.heap) σ7 H7 s7 → N σ7 H7 → ∃ m, m < n ∧ ∃ i σ' H', Inv X pins σ' H' s7 ∧ tn i s7.heap ∧ (∀ b ∈ fp, H' b = none) ∧ W i m σ' H' := fun {σ7 H7} I7 n7 => by
      obtain ⟨m', hm, w7⟩ := hN σ7 H7 n7
      refine ⟨m', hm, i + 1, σ7, H7, I7.unpinned, T.keep _ _ _ st5 fun b hb o e => (I7.pin (b, o) (List.mem_append_right _ (List.mem_append_right _ (mem_pinsAt hb e)))).1, fun b hb => ?_, w7⟩
      obtain ⟨o, e, d⟩ := T.obj _ _ st5 b hb
      exact (I7.pin (b, o) (List.mem_append_right _ (List.mem_append_right _ (mem_pinsAt hb e)))).2.1
    cases f with
    | next => obtain ⟨σ7, H7, I7, n7⟩ := q7; exact again I7 n7
    | cont => obtain ⟨σ7, H7, I7, n7⟩ := q7; exact again I7 n7
    | brk => obtain ⟨σ7, H7, I7, q7⟩ := q7; exact ⟨σ7, H7, I7.unpinned, q7⟩
    | ret v => obtain ⟨x7, σ7, H7, I7, r7, q7⟩ := q7; exact ⟨x7, σ7, H7, I7.unpinned, r7, q7⟩
end
end L2
namespace L2
open PySem PySem.Spec PyProof.Rows
abbrev R2 := V → V → Hp → VK → Prop
def OpR (X : Cx) (f : Value → Value → Sem Value) (r : R2) : Prop :=
  ∀ (pins : List (Addr × Obj)) (s : Shared) (σ : St) (H : Hp) (x y : V) (v u : Value) (Q : VK), Inv X pins σ H s → RelV x v → RelV y u → r x y H Q →
    wpAny (model X.prog X.w) X.A (f v u) (EP X pins σ Q) X.xe s
def UnR (X : Cx) (f : Value → Sem Value) (r : V → Hp → VK → Prop) : Prop :=
  ∀ (pins : List (Addr × Obj)) (s : Shared) (σ : St) (H : Hp) (x : V) (v : Value) (Q : VK), Inv X pins σ H s → RelV x v → r x H Q →
    wpAny (model X.prog X.w) X.A (f v) (EP X pins σ Q) X.xe s
def CallR (X : Cx) (f : Value) (r : List V → Hp → VK → Prop) : Prop :=
  ∀ (pins : List (Addr × Obj)) (s : Shared) (σ : St) (H : Hp) (xs : List V) (us : List Value) (Q : VK), Inv X pins σ H s → Vals xs us → r xs H Q →
    wpAny (model X.prog X.w) X.A (call f us) (EP X pins σ Q) X.xe s
def tOp (r : R2) (ta tb : TE) : TE := fun σ H Q => ta σ H fun x H1 => tb σ H1 fun y H2 => r x y H2 Q
def tUn (r : V → Hp → VK → Prop) (ta : TE) : TE := fun σ H Q => ta σ H fun x H1 => r x H1 Q
def rI (C : Int → Int → Prop) (g : Int → Int → V) : R2 := fun x y H Q => ∃ i j, x = .int i ∧ y = .int j ∧ C i j ∧ Q (g i j) H
def rI0 (g : Int → Int → V) : R2 := fun x y H Q => ∃ i j, x = .int i ∧ y = .int j ∧ Q (g i j) H
def rU (g : Int → V) : V → Hp → VK → Prop := fun x H Q => ∃ i, x = .int i ∧ Q (g i) H
section
variable {X : Cx} {a b c : Expr} {ta tb tc : TE} {pos : Pos}
theorem binT (ha : PE X a ta) (hb : PE X b tb) {pins : List (Addr × Obj)} {s : Shared} {σ : St} {H : Hp} {R : V → V → Hp → Prop} (I : Inv X pins σ H s)
    (h : ta σ H fun x H1 => tb σ H1 fun y H2 => R x y H2) {Q : Value → Shared → Prop} {f : Value → Value → Sem Value}
    (hf : ∀ v u s2 x y H2, Inv X pins σ H2 s2 → RelV x v → RelV y u → R x y H2 → wpAny (model X.prog X.w) X.A (f v u) Q X.xe s2) :
    wpAny (model X.prog X.w) X.A (eval a X.env) (fun v s₁ => wpAny (model X.prog X.w) X.A (eval b X.env) (fun u s₂ => wpAny (model X.prog X.w) X.A (f v u) Q X.xe s₂) X.xe s₁) X.xe s := by
  refine thn (ha pins s σ H _ I h) fun v s1 ⟨x, H1, I1, r1, q1⟩ => ?_
  refine thn (hb pins s1 σ H1 _ I1 q1) fun u s2 ⟨y, H2, I2, r2, q2⟩ => ?_
  exact hf v u s2 x y H2 I2 r1 r2 q2
theorem pe_op {op : Operator} {r : R2} (ho : OpR X (binaryOp op) r) (ha : PE X a ta) (hb : PE X b tb) : PE X (.BinOp a op b pos) (tOp r ta tb) := by
  intro pins s σ H Q I h
  exact wpAny_BinOp (binT ha hb I h fun v u s2 x y H2 I2 rx ry q => ho pins s2 σ H2 x y v u Q I2 rx ry q)
theorem pe_un {op : UnaryOp} {r : V → Hp → VK → Prop} (ho : UnR X (unaryOp op) r) (ha : PE X a ta) : PE X (.UnaryOp op a pos) (tUn r ta) := by
  intro pins s σ H Q I h
  exact UnaryOp_ (thn (ha pins s σ H _ I h) fun v s1 ⟨x, H1, I1, r1, q1⟩ => ho pins s1 σ H1 x v Q I1 r1 q1)
theorem opI {f : Value → Value → Sem Value} {C : Int → Int → Prop} {g : Int → Int → Int}
    (rule : ∀ (i j : Int) (t u : Tok) (s : Shared) (Q : Value → Shared → Prop) (E : Value → Shared → Prop), C i j → Q (.int (g i j) s.toks) { s with toks := s.toks + 1 } → wpAny (model X.prog X.w) X.A (f (.int i t) (.int j u)) Q E s) :
    OpR X f (rI C fun i j => .int (g i j)) := by
  intro pins s σ H x y v u Q I rx ry h
  obtain ⟨i, j, rfl, rfl, hc, q⟩ := h
  obtain ⟨t, rfl⟩ := rx
  obtain ⟨t', rfl⟩ := ry
  exact rule i j t t' s _ _ hc ⟨.int (g i j), H, I.tok _, ⟨_, rfl⟩, q⟩
theorem opI0 {f : Value → Value → Sem Value} {g : Int → Int → Int}
    (rule : ∀ (i j : Int) (t u : Tok) (s : Shared) (Q : Value → Shared → Prop) (E : Value → Shared → Prop), Q (.int (g i j) s.toks) { s with toks := s.toks + 1 } → wpAny (model X.prog X.w) X.A (f (.int i t) (.int j u)) Q E s) :
    OpR X f (rI0 fun i j => .int (g i j)) := by
  intro pins s σ H x y v u Q I rx ry h
  obtain ⟨i, j, rfl, rfl, q⟩ := h
  obtain ⟨t, rfl⟩ := rx
  obtain ⟨t', rfl⟩ := ry
  exact rule i j t t' s _ _ ⟨.int (g i j), H, I.tok _, ⟨_, rfl⟩, q⟩
theorem opB0 {f : Value → Value → Sem Value} {g : Int → Int → Bool}
    (rule : ∀ (i j : Int) (t u : Tok) (s : Shared) (Q : Value → Shared → Prop) (E : Value → Shared → Prop), Q (.bool (g i j)) s → wpAny (model X.prog X.w) X.A (f (.int i t) (.int j u)) Q E s) :
    OpR X f (rI0 fun i j => .bl (g i j)) := by
  intro pins s σ H x y v u Q I rx ry h
  obtain ⟨i, j, rfl, rfl, q⟩ := h
  obtain ⟨t, rfl⟩ := rx
  obtain ⟨t', rfl⟩ := ry
  exact rule i j t t' s _ _ ⟨.bl (g i j), H, I, rfl, q⟩
def CPow (i j : Int) : Prop := 0 ≤ j ∧ j ≤ 1000000 ∧ i.natAbs < 2 ^ 64
theorem op_add : OpR X (binaryOp .Add) (rI0 fun i j => .int (i + j)) := opI0 fun _ _ _ _ _ _ _ q => add_int q
theorem op_sub : OpR X (binaryOp .Sub) (rI0 fun i j => .int (i - j)) := opI0 fun _ _ _ _ _ _ _ q => sub_int q
theorem op_modN : OpR X (binaryOp .Mod) (rI (fun _ j => j ≠ 0) fun i j => .int (i.fmod j)) := opI fun _ _ _ _ _ _ _ hc q => mod_int' hc q
theorem op_pow : OpR X (binaryOp .Pow) (rI CPow fun i j => .int (i ^ j.toNat)) := opI fun _ _ _ _ _ _ _ hc q => pow_int_small hc.1 hc.2.1 hc.2.2 q
theorem unI {f : Value → Sem Value} {g : Int → Int}
    (rule : ∀ (i : Int) (t : Tok) (s : Shared) (Q : Value → Shared → Prop) (E : Value → Shared → Prop), Q (.int (g i) s.toks) { s with toks := s.toks + 1 } → wpAny (model X.prog X.w) X.A (f (.int i t)) Q E s) :
    UnR X f (rU fun i => .int (g i)) := by
  intro pins s σ H x v Q I rx h
  obtain ⟨i, rfl, q⟩ := h
  obtain ⟨t, rfl⟩ := rx
  exact rule i t s _ _ ⟨.int (g i), H, I.tok _, ⟨_, rfl⟩, q⟩
theorem un_neg : UnR X (unaryOp .USub) (rU fun i => .int (-i)) := unI fun _ _ _ _ _ q => neg_int q
end
section
variable {X : Cx} {a b c : Expr} {ta tb tc : TE} {pos : Pos}
theorem fin_bl {pins : List (Addr × Obj)} {σ : St} {H : Hp} {s : Shared} {Q : VK} {k k' : Bool} (I : Inv X pins σ H s) (q : Q (.bl k) H) (e : k = k') : EP X pins σ Q (.bool k') s := by
  subst e
  exact ⟨.bl k, H, I, rfl, q⟩
theorem op_lt : OpR X (compareOp .Lt) (rI0 fun i j => .bl (decide (i < j))) := opB0 fun _ _ _ _ _ _ _ q => lt_int q
theorem op_gt : OpR X (compareOp .Gt) (rI0 fun i j => .bl (decide (j < i))) := opB0 fun _ _ _ _ _ _ _ q => gt_int q
theorem op_ge : OpR X (compareOp .GtE) (rI0 fun i j => .bl (decide (j ≤ i))) := opB0 fun _ _ _ _ _ _ _ q => ge_int q
theorem op_notN : OpR X (compareOp .IsNot) (fun x y H Q => y = .non ∧ Q (.bl (!decide (x = .non))) H) := by
  intro pins s σ H x y v u Q I rx ry h
  obtain ⟨rfl, q⟩ := h
  cases ry
  refine isnot_none_gen (fin_bl I q ?_)
  cases x <;> first
    | (cases rx; rfl)
    | (obtain ⟨t, rfl⟩ := rx; rfl)
theorem OpR.or {f : Value → Value → Sem Value} {r r' : R2} (h : OpR X f r) (h' : OpR X f r') : OpR X f (fun x y H Q => r x y H Q ∨ r' x y H Q) := by
  intro pins s σ H x y v u Q I rx ry q
  rcases q with q | q
  · exact h pins s σ H x y v u Q I rx ry q
  · exact h' pins s σ H x y v u Q I rx ry q
theorem nomark (b : Expr) {op : CmpOp} (h : op ≠ .In := by decide) (h2 : op ≠ .NotIn := by decide) : behindInMarks op b = false := by
  have e1 : (op == CmpOp.In) = false := by cases op <;> first | rfl | exact absurd rfl h
  have e2 : (op == CmpOp.NotIn) = false := by cases op <;> first | rfl | exact absurd rfl h2
  cases b <;> simp [behindInMarks, e1, e2]
theorem pe_cmpR {op : CmpOp} {r : R2} (ho : OpR X (compareOp op) r) (ha : PE X a ta) (hb : PE X b tb) (hm : behindInMarks op b = false) : PE X (.Compare a [op] [b] pos) (tOp r ta tb) := by
  intro pins s σ H Q I h
  exact wpAny_Compare1 (binT ha hb I h fun v u s2 x y H2 I2 rx ry q => ho pins s2 σ H2 x y v u Q I2 rx ry q) hm
def tTest (t : TE) : TT := fun σ H Q => t σ H fun x H' => ∃ k, x = .bl k ∧ Q k H'
theorem pt_cmpR {op : CmpOp} {r : R2} (ho : OpR X (compareOp op) r) (ha : PE X a ta) (hb : PE X b tb) (hm : behindInMarks op b = false) : PT X (.Compare a [op] [b] pos) (tTest (tOp r ta tb)) := by
  intro pins s σ H Q I h
  refine wpAny_isTrue_Compare1 (thn (ha pins s σ H _ I h) fun v s1 ⟨x, H1, I1, r1, q1⟩ => thn (hb pins s1 σ H1 _ I1 q1) fun u s2 ⟨y, H2, I2, r2, q2⟩ =>
    thn (ho pins s2 σ H2 x y v u _ I2 r1 r2 q2) fun c s3 ⟨z, H3, I3, r3, k, e, q3⟩ => ?_) hm
  subst e
  cases r3
  exact wpAny_truthy_bool ⟨H3, I3, q3⟩
theorem line63 : (sizeLine : Nat) < 2 ^ 63 := by rw [sizeLine_eq]; decide
theorem op_add_str : OpR X (binaryOp .Add) (fun x y H Q => ∃ i j, x = .str i ∧ y = .str j ∧ i.length + j.length ≤ sizeLine ∧ Q (.str (i ++ j)) H) := by
  intro pins s σ H x y v u Q I rx ry h
  obtain ⟨i, j, rfl, rfl, hz, q⟩ := h
  obtain ⟨t, rfl⟩ := rx
  obtain ⟨t', rfl⟩ := ry
  exact add_str (fun t' tk => ⟨.str (i ++ j), H, I.tok _, ⟨_, rfl⟩, q⟩) hz
theorem vals1 {x : V} {us : List Value} (r : Vals [x] us) : ∃ u, us = [u] ∧ RelV x u := by
  cases r with
  | cons r1 r2 => cases r2; exact ⟨_, rfl, r1⟩
theorem vals2 {x y : V} {us : List Value} (r : Vals [x, y] us) : ∃ u w', us = [u, w'] ∧ RelV x u ∧ RelV y w' := by
  cases r with
  | cons r1 r2 =>
    cases r2 with
    | cons r3 r4 => cases r4; exact ⟨_, _, rfl, r1, r3⟩
theorem call_abs : CallR X (.builtin "abs") (fun xs H Q => ∃ i, xs = [.int i] ∧ Q (.int (if i < 0 then -i else i)) H) := by
  intro pins s σ H xs us Q I r h
  obtain ⟨i, rfl, q⟩ := h
  obtain ⟨u, rfl, t, rfl⟩ := vals1 r
  exact call_abs_int fun u tk => ⟨.int (if i < 0 then -i else i), H, I.tok _, ⟨_, rfl⟩, q⟩
theorem call_max2 (hc : X.calm = true) : CallR X (.builtin "max") (fun xs H Q => ∃ i j, xs = [.int i, .int j] ∧ Q (.int (if j > i then j else i)) H) := by
  intro pins s σ H xs us Q I r h
  obtain ⟨i, j, rfl, q⟩ := h
  obtain ⟨u, w', rfl, ⟨t, rfl⟩, ⟨t', rfl⟩⟩ := vals2 r
  refine max_two_ints (I.ok.hd hc) fun h' tk k => ⟨_, H, I.kept k, ?_, q⟩
  by_cases hj : j > i
  · rw [if_pos hj, if_pos hj]; exact ⟨_, rfl⟩
  · rw [if_neg hj, if_neg hj]; exact ⟨_, rfl⟩
theorem call_min2 (hc : X.calm = true) : CallR X (.builtin "min") (fun xs H Q => ∃ i j, xs = [.int i, .int j] ∧ Q (.int (if j < i then j else i)) H) := by
  intro pins s σ H xs us Q I r h
  obtain ⟨i, j, rfl, q⟩ := h
  obtain ⟨u, w', rfl, ⟨t, rfl⟩, ⟨t', rfl⟩⟩ := vals2 r
  refine min_two_ints (I.ok.hd hc) fun h' tk k => ⟨_, H, I.kept k, ?_, q⟩
  by_cases hj : j < i
  · rw [if_pos hj, if_pos hj]; exact ⟨_, rfl⟩
  · rw [if_neg hj, if_neg hj]; exact ⟨_, rfl⟩
theorem call_int1 : CallR X (.type "int") (fun xs H Q => (∃ i, xs = [.int i] ∧ Q (.int i) H) ∨ ∃ k, xs = [.bl k] ∧ Q (.int (if k then 1 else 0)) H) := by
  intro pins s σ H xs us Q I r h
  rcases h with ⟨i, rfl, q⟩ | ⟨k, rfl, q⟩
  · obtain ⟨u, rfl, t, rfl⟩ := vals1 r
    exact call_int_int ⟨.int i, H, I, ⟨_, rfl⟩, q⟩
  · obtain ⟨u, rfl, r1⟩ := vals1 r
    cases r1
    exact call_int_bool ⟨.int (if k then 1 else 0), H, I.tok _, ⟨_, rfl⟩, q⟩
end
end L2
namespace L2
open PySem PySem.Spec PyProof.Rows
section
variable {P : Program} {w : World} {H H' : Hp} {h h' : Heap} {a C dx : Addr} {fs fs' : List (Str × V)}
end
end L2
namespace L2
open PySem PySem.Spec PyProof.Rows
structure Room (k : Nat) (A : Around) : Prop where
  hd : A.handled = none
  dp : A.depth + 3 * k + 5 < recursionLimit
  un : A.units + 16 * k + 200 < cLine
theorem Room.mono {j k : Nat} {A : Around} (r : Room k A) (h : j ≤ k) : Room j A := ⟨r.hd, by have := r.dp; omega, by have := r.un; omega⟩
theorem Room.deeper {k : Nat} {A : Around} (r : Room (k + 1) A) (env : Env) : Room k (A.deeper env) :=
  ⟨r.hd, by have := r.dp; show A.depth + 1 + 3 * k + 5 < _; omega, by have := r.un; show A.units + 3 + 16 * k + 200 < _; omega⟩
theorem Room.depth {k : Nat} {A : Around} (r : Room k A) : A.depth < recursionLimit := by have := r.dp; omega
theorem Room.units {k : Nat} {A : Around} (r : Room k A) : A.units + 64 < cLine := by have := r.un; omega
def tNil : TA := fun _ H Q => Q [] H
def tCons (ta : TE) (tr : TA) : TA := fun σ H Q => ta σ H fun x H1 => tr σ H1 fun xs H2 => Q (x :: xs) H2
section
variable {X : Cx} {e : Expr} {es : List Expr} {te : TE} {t : TA} {pos : Pos}
theorem pa_nil : PA X [] tNil := fun _ _ _ _ H Q I h => Calls.spliced_nil ⟨[], H, I, .nil, h⟩
theorem pa_cons (ha : PE X e te) (hr : PA X es t) (hs : starEach (e :: es) X.env = (false, eval e X.env) :: starEach es X.env := by rfl) : PA X (e :: es) (tCons te t) := by
  intro pos pins s σ H Q I h
  rw [hs]
  show wpAny _ _ (spliced ((false, eval e X.env) :: backTo pos (starEach es X.env))) _ _ s
  refine Calls.spliced_cons (thn (ha pins s σ H _ I h) fun u s1 ⟨x, H1, I1, r1, q1⟩ => ?_)
  exact thn (hr pos pins s1 σ H1 _ I1 q1) fun us s2 ⟨xs, H2, I2, r2, q2⟩ => ⟨x :: xs, H2, I2, .cons r1 r2, q2⟩
def tTup (t : TA) : TE := fun σ H Q => t σ H fun xs H1 => xs.length ≤ sizeLine ∧ ∀ p, H1 p = none → Q (.ref p) (upd H1 p (.tup xs))
def tLst (t : TA) : TE := fun σ H Q => t σ H fun xs H1 => xs.length ≤ sizeLine ∧ ∀ p, H1 p = none → Q (.ref p) (upd H1 p (.lst xs))
theorem pe_tup {x1} (h : PA X es t) : PE X (.Tuple es x1 pos) (tTup t) := by
  intro pins s σ H Q I hq
  refine wpAny_Tuple_spliced (thn (h pos pins s σ H _ I hq) fun us s1 ⟨xs, H1, I1, r, z, q⟩ => ⟨by rw [← r.length]; exact z, ?_⟩)
  have hf : H1 s1.heap.objs.size = none := I1.hok.fresh (Nat.le_refl _)
  refine ⟨.ref s1.heap.objs.size, upd H1 s1.heap.objs.size (.tup xs), I1.laid (t' := s1.toks) (fun b u e => Heap.get?_push_of_some _ e) (Nat.le_refl _) ?_, rfl, q _ hf⟩
  exact ⟨z, us, r, ⟨_, Heap.get?_push_size _ rfl, rfl, ⟨_, rfl⟩, rfl⟩⟩
theorem pe_lst (h : PA X es t) : PE X (.List es pos) (tLst t) := by
  intro pins s σ H Q I hq
  refine wpAny_List_spliced (thn (h pos pins s σ H _ I hq) fun us s1 ⟨xs, H1, I1, r, z, q⟩ => ⟨by rw [← r.length]; exact z, ?_⟩)
  have hf : H1 s1.heap.objs.size = none := I1.hok.fresh (Nat.le_refl _)
  refine ⟨.ref s1.heap.objs.size, upd H1 s1.heap.objs.size (.lst xs), I1.laid (t' := s1.toks) (fun b u e => Heap.get?_push_of_some _ e) (Nat.le_refl _) ?_, rfl, q _ hf⟩
  exact ⟨z, us, 0, r, Heap.get?_push_size _ rfl⟩
end
abbrev Sp := List V → Hp → VK → XK → Prop
abbrev CXT := List Env → Hp → Shared → XK → Value → Shared → Prop
structure Env0 (P : Program) (w : World) (K : PySem.W.Frag) (mg : Str → Option Value) (base : Heap) (A : Around) (outer : List Env) (s : Shared) (H : Hp) : Prop where
  frames : A.frames = some outer
  mod : Mod K mg base
  bs : ∀ b o, base.get? b = some o → s.heap.get? b = some o ∧ H b = none
  bsz : base.objs.size ≤ s.heap.objs.size
  funs : s.heap.FunFrames base outer
  frf : ∀ b ∈ frs outer, H b = none
  hok : HOk P w H s.heap
  bare : AllBare s.gens
def CE (outer : List Env) (P : Program) (w : World) (H : Hp) (s : Shared) (Q : VK) (u : Value) (s' : Shared) : Prop :=
  ∃ v H', s'.os = s.os ∧ AllBare s'.gens ∧ Un (frs outer) [] H H' s.heap s'.heap ∧ HOk P w H' s'.heap ∧ RelV v u ∧ Q v H'
def CR (CX : CXT) (outer : List Env) (P : Program) (w : World) (H : Hp) (s : Shared) (Q : VK) (E : XK) (r : Result) (s' : Shared) : Prop :=
  match r with
  | .ok (.ret u) => CE outer P w H s Q u s'
  | .ok _ => False
  | .error e => CX outer H s E e s'
structure FnOk (P : Program) (w : World) (K : PySem.W.Frag) (mg : Str → Option Value) (base : Heap) (CX : CXT) (k : Nat) (f : Addr) (fd : FuncData) (ps : List Str) (sp : Sp) : Prop where
  len : ∀ vs H Q E, sp vs H Q E → vs.length = ps.length
  run : ∀ (A : Around) (outer : List Env) (s : Shared) (H : Hp) (args : Args) (us : List Value) (vs : List V) (Q : VK) (E : XK), Room k A → Env0 P w K mg base A outer s H → BindsTo s fd args (ps.zip us) → Vals vs us → sp vs H Q E →
    codeAny (model P w) A (.call (.ref f) args) (CR CX outer P w H s Q E) s
section
variable {X : Cx} {pins : List (Addr × Obj)} {σ : St} {H : Hp} {s s' : Shared}
theorem Inv.env0 (I : Inv X pins σ H s) : Env0 X.prog X.w X.K X.mg X.base X.A X.stack s H :=
  ⟨I.ok.frames, I.ok.mod, I.bs, Nat.le_trans I.ok.bsz I.sz, I.stack, I.stkFree, I.hok, I.bare⟩
theorem Inv.after {Q : VK} {u : Value} (I : Inv X pins σ H s) (h : CE X.stack X.prog X.w H s Q u s') : EP X pins σ Q u s' := by
  obtain ⟨v, H', os, bare, un, hok, r, q⟩ := h
  obtain ⟨hh, g, d, t, os'⟩ := s'
  obtain rfl : os' = s.os := os
  exact ⟨v, H', I.call (h' := hh) (g' := g) (d' := d) (t' := t) (ch := []) un hok bare (fun b z => absurd z (by simp)), r, q⟩
end
def tCall (sp : Sp) (dvs : List V) (E : XK) (t : TA) : TE := fun σ H Q => t σ H fun vs H1 => sp (vs ++ dvs) H1 Q E
def Binds (K : PySem.W.Frag) (fd : FuncData) (ps : List Str) (ds : List Value) : Prop :=
  ∀ (s : Shared) (us : List Value), K.In s.heap → (us ++ ds).length = ps.length → BindsTo s fd ⟨us, []⟩ (ps.zip (us ++ ds))
theorem Binds.all {K : PySem.W.Frag} {fd : FuncData} {ps : List Str} (h : ∀ us : List Value, us.length = ps.length → bindArgs fd ⟨us, []⟩ = pure (ps.zip us)) : Binds K fd ps [] := fun s us _ hl => by
  rw [List.append_nil] at hl ⊢
  exact .of_eq (h us hl)
def Passes (CX : CXT) (X : Cx) (E : XK) : Prop := ∀ (pins : List (Addr × Obj)) (σ : St) (H : Hp) (s : Shared) (e : Value) (s' : Shared), Inv X pins σ H s → CX X.stack H s E e s' → X.xe e s'
section
variable {X : Cx} {CX : CXT} {k : Nat} {f C : Addr} {fd : FuncData} {ps : List Str} {sp : Sp} {dvs : List V} {ds : List Value} {E : XK} {x m : Str} {p pos apos : Pos} {e o : Expr} {es : List Expr} {ta : TE} {t : TA}
theorem run_fn {pins : List (Addr × Obj)} {σ : St} {H : Hp} {s : Shared} {Q : VK} {us : List Value} {vs : List V} (F : FnOk X.prog X.w X.K X.mg X.base CX k f fd ps sp) (hr : Room k X.A) (hb : Binds X.K fd ps ds) (hd : Vals dvs ds) (hx : Passes CX X E)
    (I : Inv X pins σ H s) (r : Vals vs us) (h : sp (vs ++ dvs) H Q E) : wpAny (model X.prog X.w) X.A (call (.ref f) us) (EP X pins σ Q) X.xe s := by
  have r2 : Vals (vs ++ dvs) (us ++ ds) := r.append hd
  have hl : (us ++ ds).length = ps.length := by rw [← r2.length]; exact F.len _ _ _ _ h
  refine wpAny_call (codeAny_mono (F.run X.A X.stack s H ⟨us, []⟩ (us ++ ds) (vs ++ dvs) Q E hr I.env0 (hb s us I.kIn hl) r2 h) fun r s' hq => ?_)
  cases r with
  | error e => exact hx pins σ H s e s' I hq
  | ok fl =>
    cases fl with
    | ret u => exact I.after hq
    | next => exact False.elim hq
    | brk => exact False.elim hq
    | cont => exact False.elim hq
theorem pe_call (F : FnOk X.prog X.w X.K X.mg X.base CX k f fd ps sp) (hr : Room k X.A) (hg : Gl X x) (hm : X.mg x = some (.ref f)) (hk : PySem.W.keepIn X.K (.ref f) = true) (hb : Binds X.K fd ps ds) (hd : Vals dvs ds) (hx : Passes CX X E)
    (ha : PA X (e :: es) t) (hdb : (x == ("__debug__" : Str)) = false := by decide) (he : starEach (e :: es) X.env = (false, eval e X.env) :: starEach es X.env := by rfl) (hpl : (backTo pos (starEach es X.env)).any (·.1) = false := by rfl) :
    PE X (.Call (.Name x p) (e :: es) [] pos) (tCall sp dvs E t) := by
  intro pins s σ H Q I h
  refine wpAny_Call_Name_kw (ld_glob I hg hm ?_ hdb)
  refine PySem.W.callWith_K (h₀ := X.base) I.ok.mod.kin hk (thn (ha pos pins s σ H _ I h) fun us s1 ⟨vs, H1, I1, r, q⟩ => ⟨I1.kIn, ?_⟩) he hpl
  exact run_fn F hr hb hd hx I1 r q
end
structure FnScope (N P : List Str) (sc : Scope) : Prop where
  kind : sc.kind = .function
  co : sc.isCoroutine = false
  gen : sc.isGenerator = false
  nd : N.Nodup
  pre : N.take P.length = P
  par : ∀ x ∈ P, sc.names.lookup x = some .local ∨ sc.names.lookup x = some .cell
  nofree : ∀ y ∈ sc.names, y.2 ≠ .free
theorem bindL_out {kindOf : Str → Option NameKind} {x : Str} : ∀ {binds : List (Str × Value)} {m : Str → Option Value}, (∀ v, (x, v) ∉ binds) → bindL kindOf binds m x = m x
  | [], _, _ => rfl
  | (n, v) :: r, m, h => by
    unfold bindL
    rw [bindL_out fun w hw => h w (List.mem_cons_of_mem _ hw)]
    split
    · have : x ≠ n := by rintro rfl; exact h v List.mem_cons_self
      simp [this]
    · rfl
theorem bindC_out {kindOf : Str → Option NameKind} {x : Str} : ∀ {binds : List (Str × Value)} {m : Str → Option Value}, (∀ v, (x, v) ∉ binds) → bindC kindOf binds m x = m x
  | [], _, _ => rfl
  | (n, v) :: r, m, h => by
    unfold bindC
    rw [bindC_out fun w hw => h w (List.mem_cons_of_mem _ hw)]
    split
    · rfl
    · have : x ≠ n := by rintro rfl; exact h v List.mem_cons_self
      simp [this]
theorem bindL_get {kindOf : Str → Option NameKind} {x : Str} {v : Value} : ∀ {P : List Str} {vs : List Value} {i : Nat} {m : Str → Option Value}, P.Nodup → P[i]? = some x → vs[i]? = some v → kindOf x = some .local →
    bindL kindOf (P.zip vs) m x = some v
  | [], _, _, _, _, h, _, _ => by simp at h
  | _ :: _, [], _, _, _, _, h, _ => by simp at h
  | p :: P, w :: vs, 0, m, nd, h1, h2, hk => by
    simp at h1 h2; subst h1; subst h2
    show bindL kindOf ((p, w) :: P.zip vs) m p = _
    unfold bindL
    rw [bindL_out fun v hv => (List.nodup_cons.mp nd).1 (List.of_mem_zip hv).1, if_pos hk]
    simp
  | p :: P, w :: vs, i + 1, m, nd, h1, h2, hk => by
    show bindL kindOf ((p, w) :: P.zip vs) m x = _
    unfold bindL
    exact bindL_get (i := i) (List.nodup_cons.mp nd).2 (by simpa using h1) (by simpa using h2) hk
theorem bindC_get {kindOf : Str → Option NameKind} {x : Str} {v : Value} : ∀ {P : List Str} {vs : List Value} {i : Nat} {m : Str → Option Value}, P.Nodup → P[i]? = some x → vs[i]? = some v → kindOf x ≠ some .local →
    bindC kindOf (P.zip vs) m x = some v
  | [], _, _, _, _, h, _, _ => by simp at h
  | _ :: _, [], _, _, _, _, h, _ => by simp at h
  | p :: P, w :: vs, 0, m, nd, h1, h2, hk => by
    simp at h1 h2; subst h1; subst h2
    show bindC kindOf ((p, w) :: P.zip vs) m p = _
    unfold bindC
    rw [bindC_out fun v hv => (List.nodup_cons.mp nd).1 (List.of_mem_zip hv).1, if_neg hk]
    simp
  | p :: P, w :: vs, i + 1, m, nd, h1, h2, hk => by
    show bindC kindOf ((p, w) :: P.zip vs) m x = _
    unfold bindC
    exact bindC_get (i := i) (List.nodup_cons.mp nd).2 (by simpa using h1) (by simpa using h2) hk
def start (N : List Str) (vs : List V) : St := vs.map some ++ List.replicate (N.length - vs.length) none
def cxOf (CX : CXT) (P : Program) (w : World) (K : PySem.W.Frag) (mg : Str → Option Value) (base : Heap) (N : List Str) (qual : Str) (scope : Scope) (f : Addr) (cd : Value) (A : Around) (outer : List Env) (s : Shared) (H : Hp) (E : XK) : Cx where
  prog := P
  w := w
  K := K
  mg := mg
  base := base
  A := A.deeper (envOfC qual scope s.heap.objs.size f cd)
  N := N
  s₀ := s
  H₀ := H
  env := envOfC qual scope s.heap.objs.size f cd
  outer := outer
  stack := envOfC qual scope s.heap.objs.size f cd :: outer
  ex := []
  calm := true
  fn := fun _ => true
  pn := []
  xe := fun e s' => wpAny (model P w) (A.deeper (envOfC qual scope s.heap.objs.size f cd)) (leaving (envOfC qual scope s.heap.objs.size f cd) e) (fun _ s'' => CX outer H s E e s'') (fun e' s'' => CX outer H s E e' s'') s'
theorem cell_has {sc : Scope} {n : Nat} {x : Str} (h : sc.names.lookup x = some .cell) : ∃ c, (cellsFrom n sc.names []).lookup x = some c := by
  have q := PySem.W.cellsFrom_some sc.names n [] (.inl h)
  exact Option.isSome_iff_exists.mp q
theorem inv_start {CX : CXT} {P : Program} {w : World} {K : PySem.W.Frag} {mg : Str → Option Value} {base : Heap} {N ps : List Str} {qual : Str} {scope : Scope} {f : Addr} {cd : Value} {A : Around} {outer : List Env} {s s1 : Shared} {H : Hp} {E : XK} {us : List Value} {vs : List V}
    (S : FnScope N ps scope) (hd : A.handled = none) (e0 : Env0 P w K mg base A outer s H) (hl : vs.length = ps.length) (r : Vals vs us)
    (x : InCallC s s.heap.objs.size (bindL (envOfC qual scope s.heap.objs.size f cd).kindOf (ps.zip us) fun _ => none) (cellsFrom (s.heap.objs.size + 1) scope.names []) (bindC (envOfC qual scope s.heap.objs.size f cd).kindOf (ps.zip us) fun _ => none) s1) :
    Inv (cxOf CX P w K mg base N qual scope f cd A outer s H E) [] (start N vs) H s1 := by
  have hpl : ps.length ≤ N.length := by have := congrArg List.length S.pre; rw [List.length_take] at this; omega
  obtain ⟨h1, tk, rfl, hk⟩ := x.done
  have noA : ∀ b : Addr, b ∉ (cxOf CX P w K mg base N qual scope f cd A outer s H E).ex := fun b z => absurd (show b ∈ ([] : List Addr) from z) (by simp)
  refine ⟨⟨e0.mod, S.kind, rfl, rfl, Nat.le_refl _, fun y z c h1 h2 => ?_, fun y hy => ?_, fun y c _ h => ?_, fun _ => hd, Around.frames_deeper e0.frames, .inr ⟨rfl, rfl⟩, fun b z => absurd z (noA b), e0.bs, e0.bsz, fun b _ _ => noA b, fun b z => absurd z (noA b), e0.funs, e0.frf⟩,
    rfl, e0.bare, Un.kept hk, ⟨_, x.toInCall.ns, fun i y v h1 h2 h3 => ?_⟩, fun y c h => ⟨_, x.cell y c h⟩, e0.hok.fresh (Nat.le_refl _), fun y c h => ?_, fun p hp => absurd (show p ∈ ([] : List (Addr × Obj)) from hp) (by simp), e0.hok.kept hk, ?_⟩
  · exact name_of_addr x.apart (PySem.mem_of_lookup h1) (PySem.mem_of_lookup h2)
  · have hy : scope.names.lookup y = some .cell ∨ scope.names.lookup y = some .free := hy
    rcases hy with hy | hy
    · exact cell_has hy
    · exact absurd rfl (S.nofree _ (PySem.mem_of_lookup hy))
  · exact Nat.le_of_lt (x.above y c (PySem.mem_of_lookup h))
  · have hi : i < vs.length := by
      unfold start at h2
      by_cases hi : i < vs.length
      · exact hi
      · rw [List.getElem?_append_right (by simpa using hi)] at h2
        rw [List.getElem?_replicate] at h2
        split at h2 <;> cases h2
    have ha : vs[i]? = some v := by
      unfold start at h2
      rw [List.getElem?_append_left (by simpa using hi), List.getElem?_map] at h2
      cases e : vs[i]? with
      | none => rw [e] at h2; cases h2
      | some a => rw [e] at h2; cases h2; rfl
    obtain ⟨u, hu, rv⟩ := r.get ha
    have hp : ps[i]? = some y := by
      rw [← S.pre, List.getElem?_take_of_lt (by omega)]; exact h1
    have ndP : ps.Nodup := by rw [← S.pre]; exact S.nd.sublist (List.take_sublist _ _)
    refine ⟨u, rv, ?_⟩
    rcases S.par y (List.mem_of_getElem? hp) with k | k
    · exact .inl ⟨k, bindL_get ndP hp hu k⟩
    · obtain ⟨c, e⟩ := cell_has (n := s.heap.objs.size + 1) k
      refine .inr ⟨.inl k, c, e, ?_⟩
      have q := x.cell y c e
      rw [bindC_get ndP hp hu (by show scope.names.lookup y ≠ _; rw [k]; decide)] at q
      exact q
  · exact e0.hok.fresh (Nat.le_of_lt (x.above y c (PySem.mem_of_lookup h)))
  · unfold start
    show _ = N.length
    rw [List.length_append, List.length_map, List.length_replicate]
    omega
theorem fn_of {CX : CXT} {P : Program} {w : World} {K : PySem.W.Frag} {mg : Str → Option Value} {base : Heap} {k : Nat} {f : Addr} {name qual : Str} {params : Arguments} {body : List Stmt} {scope : Scope} {dV kV doc pm cdv ct oc : Value} {an od : Option Addr}
    {osl : Array (Option Value)} {N ps : List Str} {sp : Sp} (lk : K.lookup f = some ⟨oc, od, .func (PySem.W.fnOf name qual params body scope dV kV doc pm an cdv ct), osl⟩) (hcd : PySem.W.codeIn K cdv qual = true) (S : FnScope N ps scope)
    (len : ∀ vs H Q E, sp vs H Q E → vs.length = ps.length)
    (hbody : ∀ (A : Around) (outer : List Env) (s : Shared) (H : Hp) (vs : List V) (Q : VK) (E : XK), Room k (A.deeper (envOfC qual scope s.heap.objs.size f cdv)) → sp vs H Q E →
      ∃ t, PSs (cxOf CX P w K mg base N qual scope f cdv A outer s H E) body t ∧ t { nx := fun _ H' => Q .non H', rt := Q } (start N vs) H) :
    FnOk P w K mg base CX (k + 1) f (PySem.W.fnOf name qual params body scope dV kV doc pm an cdv ct) ps sp := by
  refine ⟨len, fun A outer s H args us vs Q E hr e0 hb r hsp => ?_⟩
  have hl := len _ _ _ _ hsp
  have KX : K.In s.heap := e0.mod.kin.keeps fun b o e => (e0.bs b o e).1
  have lim : s.heap.NoLimit := e0.mod.nolimit.keeps fun b o e => (e0.bs b o e).1
  have hkind : ∀ y ∈ ps.zip us, scope.names.lookup y.1 = some .local ∨ (scope.names.lookup y.1 = some .cell ∧ ((cellsFrom (s.heap.objs.size + 1) scope.names []).lookup y.1).isSome = true) := fun ⟨n, v⟩ hy => by
    rcases S.par n (List.of_mem_zip hy).1 with q | q
    · exact .inl q
    · exact .inr ⟨q, PySem.W.cellsFrom_some _ _ _ (.inl q)⟩
  refine codeAny_call_function hr.depth (KX _ _ lk) rfl S.co S.gen rfl (PySem.W.codeRec_of KX hcd) (hb _ _ _ _ ?_)
  refine wpAny_newFunctionEnv_cells S.kind hkind fun env he s1 x => ?_
  subst he
  refine ⟨lim.keeps x.toInCall.keep, codeAny_func ?_⟩
  obtain ⟨t, ht, hq⟩ := hbody A outer s H vs Q E (hr.deeper _) hsp
  have I : Inv (cxOf CX P w K mg base N qual scope f cdv A outer s H E) [] (start N vs) H s1 := inv_start S hr.hd e0 hl r x
  refine wpAny_mono (ht [] s1 (start N vs) H _ I hq) (fun fl s' hs => ?_) fun e s' hs => hs
  have fin : ∀ {σ' : St} {H' : Hp} {v : V} {u : Value}, Inv (cxOf CX P w K mg base N qual scope f cdv A outer s H E) [] σ' H' s' → RelV v u → Q v H' → CE outer P w H s Q u s' :=
    fun {σ' H' v u} J rv q => ⟨v, H', J.os, J.bare, J.base, J.hok, rv, q⟩
  cases fl with
  | ret u =>
    obtain ⟨v, σ', H', J, rv, q⟩ := hs
    exact fin J rv q
  | next =>
    obtain ⟨σ', H', J, q⟩ := hs
    exact fin (v := V.non) (u := Value.none) J rfl q
  | brk =>
    obtain ⟨_, _, _, q⟩ := hs
    exact False.elim q
  | cont =>
    obtain ⟨_, _, _, q⟩ := hs
    exact False.elim q
end L2
namespace L2
open PySem PySem.Spec PyProof.Rows
section
variable {X : Cx} {x : Str} {p pos : Pos} {e : Expr} {es : List Expr} {t : TA} {id T : String} {r : List V → Hp → VK → Prop}
def tCB (r : List V → Hp → VK → Prop) (t : TA) : TE := fun σ H Q => t σ H fun vs H1 => r vs H1 Q
theorem pe_callB (hc : CallR X (.builtin id) r) (hg : Gl X x) (hm : X.mg x = none) (hv : bootBuiltins x = some (.builtin id)) (ha : PA X (e :: es) t) (hn : x ≠ "__name__" := by decide) (hdb : (x == ("__debug__" : Str)) = false := by decide)
    (he : starEach (e :: es) X.env = (false, eval e X.env) :: starEach es X.env := by rfl) (hpl : (backTo pos (starEach es X.env)).any (·.1) = false := by rfl) : PE X (.Call (.Name x p) (e :: es) [] pos) (tCB r t) := by
  intro pins s σ H Q I h
  refine wpAny_Call_Name_kw (ld_blt I hg hm hv ?_ hn hdb)
  exact PyProof.Rows.callWith_builtin1 (thn (ha pos pins s σ H _ I h) fun us s1 ⟨vs, H1, I1, r1, q1⟩ => hc pins s1 σ H1 vs us Q I1 r1 q1) he hpl
theorem pe_callTy (hc : CallR X (.type T) r) (hg : Gl X x) (hm : X.mg x = none) (hv : bootBuiltins x = some (.type T)) (ha : PA X (e :: es) t) (hn : x ≠ "__name__" := by decide) (hdb : (x == ("__debug__" : Str)) = false := by decide)
    (he : starEach (e :: es) X.env = (false, eval e X.env) :: starEach es X.env := by rfl) (hpl : (backTo pos (starEach es X.env)).any (·.1) = false := by rfl) : PE X (.Call (.Name x p) (e :: es) [] pos) (tCB r t) := by
  intro pins s σ H Q I h
  refine wpAny_Call_Name_kw (ld_blt I hg hm hv ?_ hn hdb)
  exact PyProof.Rows.callWith_type1 (thn (ha pos pins s σ H _ I h) fun us s1 ⟨vs, H1, I1, r1, q1⟩ => hc pins s1 σ H1 vs us Q I1 r1 q1) he hpl
end
end L2
namespace HT
open PySem PyProof.Rows
section
variable {prog : Program} {w : World} {A : Around} {E : Value → Shared → Prop} {s : Shared}
theorem cat_tup {t b : Addr} {vs ws : List Value} {Q : Value → Shared → Prop} (ht : IsTup s.heap t vs.toArray) (hb : IsTup s.heap b ws.toArray) (hv : vs ≠ [])
    (h1 : ws = [] → Q (.ref t) s) (h2 : ws ≠ [] → Q (.ref s.heap.objs.size) { s with heap := s.heap.push { cls := .type "tuple", data := .seq (vs ++ ws).toArray } })
    (hsz : vs.length + ws.length ≤ sizeLine) : wpAny (model prog w) A (binaryOp .Add (.ref t) (.ref b)) Q E s := by
  obtain ⟨⟨cls, dd, data, sl⟩, ho, hc, n, hd⟩ := id ht
  obtain ⟨⟨cls2, dd2, data2, sl2⟩, ho2, hc2, n2, hd2⟩ := id hb
  simp only at hc hd hc2 hd2
  subst hc hd hc2 hd2
  have e : vs.toArray ++ ws.toArray = (vs ++ ws).toArray := by simp
  by_cases hw : ws = []
  · exact concat_meets ⟨_, ho, rfl⟩ ⟨_, ho2, rfl⟩ noFill_tuple_add seq_tuple_add PySem.F.slot_tuple_add PySem.F.entry_tuple_add (PySem.F.args_tuple_add_2 _ _)
      (tuple_addW1 t b vs.toArray ws.toArray n n2 dd dd2 sl sl2 (by simpa using hv) (by simp [hw])) ⟨ho, ho2, h1 hw⟩
  · refine concat_meets ⟨_, ho, rfl⟩ ⟨_, ho2, rfl⟩ noFill_tuple_add seq_tuple_add PySem.F.slot_tuple_add PySem.F.entry_tuple_add (PySem.F.args_tuple_add_2 _ _)
      (tuple_addW2 t b vs.toArray ws.toArray n n2 dd dd2 sl sl2 (by simpa using hv) (by simpa using hw) (by rw [List.size_toArray, List.size_toArray]; exact hsz)) ⟨ho, ho2, ?_⟩
    rw [e]
    exact h2 hw
def sIx (n d : Nat) : Option Int → Nat
  | none => d
  | some v => if v < 0 then (v + (n : Int)).toNat else min v.toNat n
theorem sIx_nat (n d k : Nat) : sIx n d (some (k : Int)) = min k n := by
  show (if (k : Int) < 0 then ((k : Int) + (n : Int)).toNat else min (k : Int).toNat n) = min k n
  rw [if_neg (by omega), Int.toNat_natCast]
theorem sIx_le (n d : Nat) (hd : d ≤ n) (o : Option Int) : sIx n d o ≤ n := by
  cases o with
  | none => exact hd
  | some v =>
    show (if v < 0 then (v + (n : Int)).toNat else min v.toNat n) ≤ n
    by_cases hv : v < 0
    · rw [if_pos hv]; omega
    · rw [if_neg hv]; exact Nat.min_le_right _ _
theorem clip_eq (v : Int) (n d : Nat) : (if v < 0 then max (v + (n : Int)) 0 else min v (n : Int)) = ((sIx n d (some v) : Nat) : Int) := by
  show (if v < 0 then max (v + (n : Int)) 0 else min v (n : Int)) = (((if v < 0 then (v + (n : Int)).toNat else min v.toNat n) : Nat) : Int)
  by_cases hv : v < 0
  · simp only [if_pos hv]; omega
  · simp only [if_neg hv]; omega
theorem adjust_gen (lo hi : Option Int) (n : Nat) : Builtin.Slice.sliceAdjust lo hi 1 (n : Int) = (((sIx n 0 lo : Nat) : Int), ((sIx n n hi : Nat) : Int)) := by
  have h1 : ¬ ((1 : Int) < 0) := by omega
  unfold Builtin.Slice.sliceAdjust
  simp only [h1, if_false]
  refine Prod.ext ?_ ?_
  · cases lo with
    | none => rfl
    | some v => exact clip_eq v n 0
  · cases hi with
    | none => rfl
    | some v => exact clip_eq v n n
theorem places_gen (i j : Nat) : Builtin.Slice.slicePlaces (i : Int) (j : Int) 1 = j - i := by
  unfold Builtin.Slice.slicePlaces
  have h1 : (1 : Int) > 0 := by omega
  simp only [h1, if_true, Int.ediv_one]
  split <;> omega
theorem slicePart_ {v : Value} {o : Option Int} {Q : Option Int → Shared → Prop} (p : IsPart v o) (h : Q o s) : wpAny (model prog w) A (Builtin.Slice.slicePartIndex v) Q E s := by
  cases p with
  | none => exact slicePart_none h
  | int i t => exact slicePart_int h
theorem sliceApplied_gen {sl : Addr} {vl vu : Value} {lo hi : Option Int} {n : Nat} {Q : Int × Int × Nat → Shared → Prop} (hs : s.heap.IsSliceOf sl vl vu .none) (pl : IsPart vl lo) (pu : IsPart vu hi)
    (h : Q (((sIx n 0 lo : Nat) : Int), 1, sIx n n hi - sIx n 0 lo) s) : wpAny (model prog w) A (Builtin.Slice.sliceApplied (.ref sl) (pure (n : Int))) Q E s := by
  obtain ⟨os, hos, hcs, hds⟩ := id hs
  unfold Builtin.Slice.sliceApplied Builtin.Slice.sliceFields
  refine wpAny_bind (wpAny_bind (wpAny_field hos hds (x := vl) rfl (wpAny_bind (wpAny_field hos hds (x := vu) rfl (wpAny_bind (wpAny_field hos hds (x := .none) rfl (wpAny_pure ?_)))))))
  refine wpAny_bind (slicePart_none ?_)
  show wpAny _ _ (if ((1 : Int) == 0) = true then _ else _) _ _ s
  rw [if_neg (by decide)]
  refine wpAny_bind (slicePart_ pl (wpAny_bind (slicePart_ pu (wpAny_bind (wpAny_pure ?_)))))
  show wpAny _ _ (match Builtin.Slice.sliceAdjust lo hi 1 (n : Int) with | (lo, hi) => pure (lo, (1 : Int), Builtin.Slice.slicePlaces lo hi 1)) _ _ s
  rw [adjust_gen lo hi n]
  show wpAny _ _ (pure (((sIx n 0 lo : Nat) : Int), (1 : Int), Builtin.Slice.slicePlaces ((sIx n 0 lo : Nat) : Int) ((sIx n n hi : Nat) : Int) 1)) _ _ s
  rw [places_gen]
  exact wpAny_pure h
theorem pick_gen (xs : Array Value) (i k : Nat) : ((List.range k).filterMap fun (m : Nat) => xs[((i : Int) + (m : Int) * 1).toNat]?).toArray = ((xs.toList.drop i).take k).toArray := by
  have e : (fun (m : Nat) => xs[((i : Int) + (m : Int) * 1).toNat]?) = fun m => xs[i + m]? := by
    funext m
    have : ((i : Int) + (m : Int) * 1).toNat = i + m := by omega
    rw [this]
  rw [e]
  have := pick_run xs i k
  rw [List.filterMap_map] at this
  have e2 : ((fun x => xs[x]?) ∘ fun x => i + x) = fun m => xs[i + m]? := rfl
  rw [e2] at this
  rw [this]
theorem getItem_tuple_cut {t sl : Addr} {items : Array Value} {vl vu : Value} {lo hi : Option Int} {Q : Value → Shared → Prop} (ht : IsTup s.heap t items) (hs : s.heap.IsSliceOf sl vl vu .none) (pl : IsPart vl lo) (pu : IsPart vu hi)
    (hw : ¬ (sIx items.size 0 lo = 0 ∧ sIx items.size items.size hi = items.size))
    (h : Q (.ref s.heap.objs.size) { s with heap := s.heap.push { cls := .type "tuple", data := .seq ((items.toList.drop (sIx items.size 0 lo)).take (sIx items.size items.size hi - sIx items.size 0 lo)).toArray } })
    (hsz : items.size ≤ sizeLine) : wpAny (model prog w) A (getItem (.ref t) (.ref sl)) Q E s := by
  have htake : sizeOk (.seq ((items.toList.drop (sIx items.size 0 lo)).take (sIx items.size items.size hi - sIx items.size 0 lo)).toArray) := by
    show ((items.toList.drop (sIx items.size 0 lo)).take (sIx items.size items.size hi - sIx items.size 0 lo)).toArray.size ≤ sizeLine
    rw [List.size_toArray, List.length_take, List.length_drop, Array.length_toList]
    omega
  have hj : sIx items.size items.size hi ≤ items.size := sIx_le _ _ (Nat.le_refl _) hi
  obtain ⟨os, hos, hcs, hds⟩ := id hs
  have hTs : s.TypeIs (.ref sl) "slice" := ⟨os, hos, hcs⟩
  unfold getItem
  try with_reducible refine wpAny_holding ?_
  first | refine wpAny_bind (wpAny_pure ?_) | skip
  refine wpAny_bind (wpAny_sequenceKey ht.typeIs (by decide) ?_)
  refine wpAny_bind (wpAny_callSpecial?_slot (name := Str.ofString "__getitem__") ht.typeIs PyProof.Rows.slot_tuple_getitem
    (wpAny_call_entry PyProof.Rows.slot_tuple_getitem ht.typeIs entry_tuple_getitem ?_ (args_tuple_getitem _ _)))
  show wpAny _ _ (Builtin.Tuple.tupleItemsOf (.ref t) >>= _) _ _ s
  refine wpAny_bind (tupleItemsOf_ ht ?_)
  refine wpAny_bind (wpAny_typeOf hTs ?_)
  rw [if_pos (by decide)]
  refine wpAny_bind (sliceApplied_gen hs pl pu ?_)
  have hno : ¬ ((((sIx items.size 0 lo : Nat) : Int) == 0 && (1 : Int) == 1 && (sIx items.size items.size hi - sIx items.size 0 lo) == items.size) = true) := by
    intro q
    rw [Bool.and_eq_true, Bool.and_eq_true] at q
    have q1 : ((sIx items.size 0 lo : Nat) : Int) = 0 := eq_of_beq q.1.1
    have q2 : sIx items.size items.size hi - sIx items.size 0 lo = items.size := eq_of_beq q.2
    exact hw ⟨by omega, by omega⟩
  show wpAny _ _ (if (((sIx items.size 0 lo : Nat) : Int) == 0 && (1 : Int) == 1 && (sIx items.size items.size hi - sIx items.size 0 lo) == items.size) = true then _ else _) _ _ s
  rw [if_neg hno, pick_gen]
  first
    | exact wpAny_bind (m := Builtin.Tuple.tupleExact _) (wpAny_newObj_type (wpAny_pure ⟨_, rfl, wpAny_pure h⟩) htake)
    | exact wpAny_bind (m := Builtin.Tuple.tupleExact _) (wpAny_newObj_type (wpAny_bind (wpAny_pure (wpAny_pure ⟨_, rfl, wpAny_pure h⟩))) htake)
    | exact wpAny_bind (wpAny_bind (m := Builtin.Tuple.tupleExact _) (wpAny_newObj_type (wpAny_pure (wpAny_pure ⟨_, rfl, wpAny_pure h⟩)) htake))
    | exact wpAny_bind (wpAny_bind (m := Builtin.Tuple.tupleExact _) (wpAny_newObj_type (wpAny_pure ⟨_, rfl, wpAny_pure h⟩) htake))
end
end HT
namespace L2
open PySem PySem.Spec PyProof.Rows
abbrev TO := St → Hp → (Option Int → Hp → Prop) → Prop
def PO (X : Cx) (e : Option Expr) (t : TO) : Prop :=
  ∀ (pins : List (Addr × Obj)) (s : Shared) (σ : St) (H : Hp) (Q : Option Int → Hp → Prop), Inv X pins σ H s → t σ H Q →
    wpAny (model X.prog X.w) X.A (evalPart e X.env) (fun u s' => ∃ o H', Inv X pins σ H' s' ∧ IsPart u o ∧ Q o H') X.xe s
def tPart (t : TE) : TO := fun σ H Q => t σ H fun x H1 => ∃ i, x = .int i ∧ Q (some i) H1
section
variable {X : Cx} {e : Expr} {te : TE} {lo hi : Option Expr} {tl th : TO} {pos p2 : Pos}
theorem po_some (h : PE X e te) : PO X (some e) (tPart te) := by
  intro pins s σ H Q I hw
  rw [evalPart_some]
  refine thn (h pins s σ H _ I hw) fun u s1 ⟨x, H1, I1, r1, q1⟩ => ?_
  obtain ⟨i, rfl, q⟩ := q1
  obtain ⟨t, rfl⟩ := r1
  exact ⟨some i, H1, I1, .int i t, q⟩
def SlR (X : Cx) (r : V → Option Int → Option Int → Hp → VK → Prop) : Prop :=
  ∀ (pins : List (Addr × Obj)) (s : Shared) (σ : St) (H : Hp) (x : V) (v vl vu : Value) (lo hi : Option Int) (sl : Addr) (Q : VK), Inv X pins σ H s → RelV x v → s.heap.IsSliceOf sl vl vu .none → IsPart vl lo → IsPart vu hi → r x lo hi H Q →
    ∃ T id, typeLookup (.type T) "__getitem__" = pure (some (.builtin id)) ∧ s.TypeIs v T ∧ wpAny (model X.prog X.w) X.A (getItem v (.ref sl)) (EP X pins σ Q) X.xe s
theorem SlR.or {r r' : V → Option Int → Option Int → Hp → VK → Prop} (h : SlR X r) (h' : SlR X r') : SlR X (fun x lo hi H Q => r x lo hi H Q ∨ r' x lo hi H Q) := by
  intro pins s σ H x v vl vu lo hi sl Q I rx hs pl pu q
  rcases q with q | q
  · exact h pins s σ H x v vl vu lo hi sl Q I rx hs pl pu q
  · exact h' pins s σ H x v vl vu lo hi sl Q I rx hs pl pu q
def tSl (r : V → Option Int → Option Int → Hp → VK → Prop) (te : TE) (tl th : TO) : TE := fun σ H Q => te σ H fun x H1 => tl σ H1 fun l H2 => th σ H2 fun u H3 => r x l u H3 Q
theorem pe_slice {r : V → Option Int → Option Int → Hp → VK → Prop} (hr : SlR X r) (he : PE X e te) (hl : PO X lo tl) (hu : PO X hi th) : PE X (.Subscript e (.Slice lo hi none p2) pos) (tSl r te tl th) := by
  intro pins s σ H Q I h
  refine Subscript_ (thn (he pins s σ H _ I h) fun v s1 ⟨x, H1, I1, r1, q1⟩ => ?_)
  refine wpAny_Slice (thn (hl pins s1 σ H1 _ I1 q1) fun vl s2 ⟨l, H2, I2, pl, q2⟩ => thn (hu pins s2 σ H2 _ I2 q2) fun vu s3 ⟨u, H3, I3, pu, q3⟩ => ?_)
  rw [evalPart_none]
  refine wpAny_pure ?_
  have I4 : Inv X pins σ H3 { s3 with heap := s3.heap.push { cls := .type "slice", data := .fields #[vl, vu, .none] } } := I3.kept (t' := s3.toks) fun b ob q => Heap.get?_push_of_some _ q
  obtain ⟨T, id, hT, ht, hg⟩ := hr pins { s3 with heap := s3.heap.push { cls := .type "slice", data := .fields #[vl, vu, .none] } } σ H3 x v vl vu l u s3.heap.objs.size Q I4 r1 (Heap.IsSliceOf.new ..) pl pu q3
  show wpAny (model X.prog X.w) X.A (subscriptTail e (.Slice lo hi none p2) v (.ref s3.heap.objs.size)) (EP X pins σ Q) X.xe { s3 with heap := s3.heap.push { cls := .type "slice", data := .fields #[vl, vu, .none] } }
  exact tail_any (ops := [.ref s3.heap.objs.size, v]) ht hT hg (by with_unfolding_all rfl)
def cutV (xs : List V) (lo hi : Option Int) : List V := (xs.drop (HT.sIx xs.length 0 lo)).take (HT.sIx xs.length xs.length hi - HT.sIx xs.length 0 lo)
theorem cutV_length (xs : List V) (lo hi : Option Int) : (cutV xs lo hi).length ≤ xs.length := by
  unfold cutV
  rw [List.length_take, List.length_drop]
  omega
def rSlT (K : PySem.W.Frag) : V → Option Int → Option Int → Hp → VK → Prop := fun x lo hi H Q => ∃ a xs, x = .ref a ∧ SqT K H a xs ∧
  ¬ (HT.sIx xs.length 0 lo = 0 ∧ HT.sIx xs.length xs.length hi = xs.length) ∧ ∀ p, H p = none → Q (.ref p) (upd H p (.tup (cutV xs lo hi)))
theorem sl_tup : SlR X (rSlT X.K) := by
  intro pins s σ H x v vl vu lo hi sl Q I rx hs pl pu h
  obtain ⟨a, xs, rfl, hx, hw, q⟩ := h
  cases rx
  obtain ⟨its, r, ht, hz⟩ := I.tuple hx
  have hlen : its.toArray.size = xs.length := by rw [List.size_toArray]; exact r.length.symm
  refine ⟨"tuple", _, PyProof.Rows.slot_tuple_getitem.lookup, ht.typeIs, ?_⟩
  refine HT.getItem_tuple_cut ht hs pl pu (by rw [hlen]; exact hw) ?_ (by rw [hlen]; exact hz)
  rw [hlen]
  refine ⟨.ref s.heap.objs.size, _, I.laid (t' := s.toks) (o := .tup (cutV xs lo hi)) (fun b ob q => Heap.get?_push_of_some _ q) (Nat.le_refl _) ?_, rfl, q _ (I.hok.fresh (Nat.le_refl _))⟩
  exact ⟨Nat.le_trans (cutV_length xs lo hi) hz, _, (r.drop (HT.sIx xs.length 0 lo)).take (HT.sIx xs.length xs.length hi - HT.sIx xs.length 0 lo), TupN.new _ _⟩
def rCatT (K : PySem.W.Frag) : R2 := fun x y H Q => ∃ a b xs ys, x = .ref a ∧ y = .ref b ∧ SqT K H a xs ∧ SqT K H b ys ∧ xs ≠ [] ∧ xs.length + ys.length ≤ sizeLine ∧
  (ys = [] → Q (.ref a) H) ∧ (ys ≠ [] → ∀ p, H p = none → Q (.ref p) (upd H p (.tup (xs ++ ys))))
theorem Vals.nil_iff {xs : List V} {us : List Value} (r : Vals xs us) : us = [] ↔ xs = [] := by
  cases r with
  | nil => simp
  | cons _ _ => simp
theorem op_catT : OpR X (binaryOp .Add) (rCatT X.K) := by
  intro pins s σ H x y v u Q I rx ry h
  obtain ⟨a, b, xs, ys, rfl, rfl, ha, hb, hx, hz, q1, q2⟩ := h
  cases rx
  cases ry
  obtain ⟨its, r1, p1, _⟩ := I.tuple ha
  obtain ⟨its2, r2, p2, _⟩ := I.tuple hb
  refine HT.cat_tup p1 p2 (fun z => hx (r1.nil_iff.mp z)) (fun z => ⟨.ref a, H, I, rfl, q1 (r2.nil_iff.mp z)⟩) (fun z => ?_) (by rw [← r1.length, ← r2.length]; exact hz)
  refine ⟨.ref s.heap.objs.size, _, I.laid (t' := s.toks) (o := .tup (xs ++ ys)) (fun b ob q => Heap.get?_push_of_some _ q) (Nat.le_refl _) ?_, rfl, q2 (fun w => z (r2.nil_iff.mpr w)) _ (I.hok.fresh (Nat.le_refl _))⟩
  exact ⟨by rw [List.length_append]; exact hz, _, r1.append r2, TupN.new _ _⟩
end
end L2
namespace L2
open PySem PySem.Spec PyProof.Rows
def ixN (n : Nat) (i : Int) : Option Nat := if 0 ≤ i then (if i < n then some i.toNat else none) else if -(n : Int) ≤ i then some (i + n).toNat else none
def atI {α : Type} (xs : List α) (i : Int) : Option α := (ixN xs.length i).bind fun j => xs[j]?
theorem ixN_seq {n : Nat} {i : Int} {j : Nat} (h : ixN n i = some j) : seqIndex? i n = some j ∧ j < n ∧ -(n : Int) ≤ i ∧ i < n := by
  unfold ixN at h
  by_cases h0 : 0 ≤ i
  · rw [if_pos h0] at h
    by_cases h1 : i < n
    · rw [if_pos h1] at h
      have e : i.toNat = j := Option.some.inj h
      exact ⟨by rw [seqIndex_of h0 h1, e], by omega, by omega, h1⟩
    · rw [if_neg h1] at h; cases h
  · rw [if_neg h0] at h
    by_cases h1 : -(n : Int) ≤ i
    · rw [if_pos h1] at h
      have e : (i + n).toNat = j := Option.some.inj h
      exact ⟨by rw [seqIndex_neg (by omega) h1, e], by omega, h1, by omega⟩
    · rw [if_neg h1] at h; cases h
theorem atI_get {α : Type} {xs : List α} {i : Int} {v : α} (h : atI xs i = some v) : ∃ j, seqIndex? i xs.length = some j ∧ xs[j]? = some v ∧ j < xs.length ∧ -(xs.length : Int) ≤ i ∧ i < xs.length := by
  unfold atI at h
  cases e : ixN xs.length i with
  | none => rw [e] at h; cases h
  | some j =>
    rw [e] at h
    obtain ⟨h1, h2, h3, h4⟩ := ixN_seq e
    exact ⟨j, h1, h, h2, h3, h4⟩
def PlainIx (b : Expr) : Prop := ∀ o i, subscripted b false o i = operate [o, i] (getItem o i)
def IxR (X : Cx) (r : R2) : Prop :=
  ∀ (value slice : Expr) (pins : List (Addr × Obj)) (s : Shared) (σ : St) (H : Hp) (x y : V) (v u : Value) (Q : VK), Inv X pins σ H s → RelV x v → RelV y u → r x y H Q →
    subscripted slice false v u = operate [v, u] (getItem v u) → wpAny (model X.prog X.w) X.A (subscriptTail value slice v u) (EP X pins σ Q) X.xe s
def MtR (X : Cx) (id : String) (r : V → List V → Hp → VK → Prop) : Prop :=
  ∀ (pins : List (Addr × Obj)) (s : Shared) (σ : St) (H : Hp) (x : V) (xs : List V) (v : Value) (us : List Value) (Q : VK), Inv X pins σ H s → RelV x v → Vals xs us → r x xs H Q →
    wpAny (model X.prog X.w) X.A (call (.builtin id) (v :: us)) (EP X pins σ Q) X.xe s
section
variable {X : Cx} {a b : Expr} {ta tb : TE} {pos : Pos}
theorem IxR.or {r r' : R2} (h : IxR X r) (h' : IxR X r') : IxR X (fun x y H Q => r x y H Q ∨ r' x y H Q) := by
  intro value slice pins s σ H x y v u Q I rx ry q hs
  rcases q with q | q
  · exact h value slice pins s σ H x y v u Q I rx ry q hs
  · exact h' value slice pins s σ H x y v u Q I rx ry q hs
theorem pe_ix {r : R2} (hr : IxR X r) (ha : PE X a ta) (hb : PE X b tb) (hs : PlainIx b) : PE X (.Subscript a b pos) (tOp r ta tb) := by
  intro pins s σ H Q I h
  exact Subscript_ (binT ha hb I h fun v u s2 x y H2 I2 rx ry q => hr a b pins s2 σ H2 x y v u Q I2 rx ry q (hs _ _))
def rIxL (K : PySem.W.Frag) : R2 := fun x y H Q => ∃ p xs i v, x = .ref p ∧ y = .int i ∧ SqL K H p xs ∧ atI xs i = some v ∧ Q v H
def rIxT (K : PySem.W.Frag) : R2 := fun x y H Q => ∃ p xs i v, x = .ref p ∧ y = .int i ∧ SqT K H p xs ∧ atI xs i = some v ∧ Q v H
def rIxS : R2 := fun x y H Q => ∃ z i c, x = .str z ∧ y = .int i ∧ z.length ≤ sizeLine ∧ atI z.cps.toList i = some c ∧ Q (.str ⟨#[c]⟩) H
theorem ix_list : IxR X (rIxL X.K) := by
  intro value slice pins s σ H x y v u Q I rx ry h hs
  obtain ⟨p, xs, i, z, rfl, rfl, hq, he, q⟩ := h
  cases rx
  obtain ⟨t, rfl⟩ := ry
  obtain ⟨its, r, pl, hz⟩ := I.list hq
  obtain ⟨j, h1, h2, h3, h4, h5⟩ := atI_get he
  obtain ⟨w, ew, rw'⟩ := r.get h2
  have hl := r.length
  have hn := line63
  have fin : EP X pins σ Q w s := ⟨z, H, I, rw', q⟩
  by_cases h0 : 0 ≤ i
  · have hj : i.toNat = j := by
      rw [seqIndex_of h0 h5] at h1
      exact Option.some.inj h1
    exact item_listR pl.isList h0 (by omega) (by rw [hj]; simpa using ew) fin hs
  · have hj : (i + (its.toArray.size : Int)).toNat = j := by
      rw [seqIndex_neg (by omega) h4] at h1
      rw [List.size_toArray, ← hl]
      exact Option.some.inj h1
    exact subscriptTail_builtinR (x := w) pl.isList.typeIs slot_list_getitem.lookup
      (wpAny_getItem_list_neg (Q := fun r s' => r = w ∧ EP X pins σ Q r s') pl.isList (by omega) (by rw [List.size_toArray] <;> omega) (by omega) (by rw [hj]; simpa using ew) ⟨rfl, fin⟩) hs
theorem ix_tup : IxR X (rIxT X.K) := by
  intro value slice pins s σ H x y v u Q I rx ry h hs
  obtain ⟨p, xs, i, z, rfl, rfl, hq, he, q⟩ := h
  cases rx
  obtain ⟨t, rfl⟩ := ry
  obtain ⟨its, r, pl, hz⟩ := I.tuple hq
  obtain ⟨j, h1, h2, h3, h4, h5⟩ := atI_get he
  obtain ⟨w, ew, rw'⟩ := r.get h2
  have hl := r.length
  have hn := line63
  have fin : EP X pins σ Q w s := ⟨z, H, I, rw', q⟩
  exact subscriptTail_builtinR (x := w) pl.typeIs slot_tuple_getitem.lookup
    (getItem_tuple (j := j) (Q := fun r s' => r = w ∧ EP X pins σ Q r s') pl (by omega) (by omega) (by rw [List.size_toArray, ← hl]; exact h1) (by simpa using ew) ⟨rfl, fin⟩) hs
theorem ix_str : IxR X rIxS := by
  intro value slice pins s σ H x y v u Q I rx ry h hs
  obtain ⟨z, i, c, rfl, rfl, hz, he, q⟩ := h
  obtain ⟨t, rfl⟩ := rx
  obtain ⟨t', rfl⟩ := ry
  obtain ⟨j, h1, h2, h3, h4, h5⟩ := atI_get he
  have hl : z.cps.toList.length = z.length := by simp [Str.length]
  rw [hl] at h1 h4 h5
  have hn := line63
  exact tail_any (typeIs_str s z t) slot_str_getitem.lookup (getItem_str (c := c) (by
    have e1 : decide (i < -(2 ^ 63 : Int)) = false := decide_eq_false (by omega)
    have e2 : decide (i ≥ 2 ^ 63) = false := decide_eq_false (by omega)
    rw [e1, e2, Bool.or_false]) (by rw [h1]; simpa using h2) ⟨.str ⟨#[c]⟩, H, I.tok _, ⟨_, rfl⟩, q⟩) hs
def rIx (K : PySem.W.Frag) : R2 := fun x y H Q => rIxL K x y H Q ∨ rIxT K x y H Q ∨ rIxS x y H Q
theorem ix_seq : IxR X (rIx X.K) := ix_list.or (ix_tup.or ix_str)
theorem mapSeq_set (its : List Value) (n j : Nat) (u : Value) : Obj.mapSeq (·.setIfInBounds j u) { cls := .type "list", data := .seq its.toArray n } = { cls := .type "list", data := .seq (its.set j u).toArray n } := by
  simp [Obj.mapSeq]
theorem Inv.lst {pins : List (Addr × Obj)} {σ : St} {H : Hp} {s : Shared} {p : Addr} {xs : List V} (I : Inv X pins σ H s) (h : H p = some (.lst xs)) :
    ∃ (its : List Value) (n : Nat), Vals xs its ∧ s.heap.get? p = some { cls := .type "list", data := .seq its.toArray n } ∧ xs.length ≤ sizeLine := by
  obtain ⟨z, its, n, r, e⟩ := I.hok p _ h
  exact ⟨its, n, r, e, z⟩
theorem Inv.lstUpd {pins : List (Addr × Obj)} {σ : St} {H : Hp} {s : Shared} {p : Addr} {xs ys : List V} {its its' : List Value} {n n' : Nat} {f : Obj → Obj} (I : Inv X pins σ H s) (h : H p = some (.lst xs))
    (ho : s.heap.get? p = some { cls := .type "list", data := .seq its.toArray n }) (hf : f { cls := .type "list", data := .seq its.toArray n } = { cls := .type "list", data := .seq its'.toArray n' }) (r : Vals ys its') (hz : ys.length ≤ sizeLine) (t : Nat) :
    Inv X pins σ (upd H p (.lst ys)) { s with heap := s.heap.update p f, toks := t } := by
  have e : (s.heap.update p f).get? p = some { cls := .type "list", data := .seq its'.toArray n' } := by
    rw [Heap.get?_update_self f ho (by rw [hf] <;> rfl), hf]
  refine I.write (x := p) (e := p) (by rw [h]; trivial) (.inl rfl) (fun b u hb q => (Heap.get?_update_other _ _ (Ne.symm hb)).trans q) ⟨_, e⟩ ?_
  exact ⟨hz, its', n', r, e⟩
def rSetL : V → V → V → Hp → (Hp → Prop) → Prop := fun o i v H Q => ∃ p xs k j, o = .ref p ∧ i = .int k ∧ H p = some (.lst xs) ∧ ixN xs.length k = some j ∧ Q (upd H p (.lst (xs.set j v)))
theorem set_list : PSet X rSetL := by
  intro pins s σ H o i v ov iv u Q I ro ri rv h
  obtain ⟨p, xs, k, j, rfl, rfl, hp, hj, q⟩ := h
  cases ro
  obtain ⟨t, rfl⟩ := ri
  obtain ⟨its, n, r, ho, hz⟩ := I.lst hp
  obtain ⟨h1, h2, h3, h4⟩ := ixN_seq hj
  have hl := r.length
  have hn := line63
  have I' : Inv X pins σ (upd H p (.lst (xs.set j v))) { s with heap := s.heap.update p (Obj.mapSeq (·.setIfInBounds j u)) } :=
    I.lstUpd hp ho (mapSeq_set its n j u) (r.set rv j) (by rw [List.length_set]; exact hz) s.toks
  by_cases h0 : 0 ≤ k
  · have hk : k.toNat = j := by
      rw [seqIndex_of h0 h4] at h1
      exact Option.some.inj h1
    exact PySem.W.ki_setAt ho h0 (by omega) (by rw [List.size_toArray, ← hl]; exact h4) (by rw [hk]; exact ⟨_, I', q⟩)
  · have hk : (k + (its.toArray.size : Int)).toNat = j := by
      rw [seqIndex_neg (by omega) h3] at h1
      rw [List.size_toArray, ← hl]
      exact Option.some.inj h1
    exact PySem.W.ki_setBack ho (by omega) (by rw [List.size_toArray, ← hl]; exact h3) (by omega) (by rw [hk]; exact ⟨_, I', q⟩)
theorem slice_bounds (lo hi : Option Int) (n : Nat) : (sliceBounds lo hi none n).1 = ((HT.sIx n 0 lo : Nat) : Int) ∧ (sliceBounds lo hi none n).2.1 = ((HT.sIx n n hi : Nat) : Int) ∧ (sliceBounds lo hi none n).2.2 = 1 := by
  refine ⟨?_, ?_, rfl⟩
  · cases lo with
    | none => simp [sliceBounds, HT.sIx]
    | some i =>
      simp only [sliceBounds, HT.sIx, Option.getD_none, show (1 : Int) > 0 by decide, if_true]
      by_cases h : i < 0
      · simp only [h, if_true] <;> omega
      · simp only [h, if_false] <;> omega
  · cases hi with
    | none => simp [sliceBounds, HT.sIx]
    | some i =>
      simp only [sliceBounds, HT.sIx, Option.getD_none, show (1 : Int) > 0 by decide, if_true]
      by_cases h : i < 0
      · simp only [h, if_true] <;> omega
      · simp only [h, if_false] <;> omega
theorem slicePick_cut (its : List Value) (lo hi : Option Int) : slicePick its.toArray lo hi none = ((its.drop (HT.sIx its.length 0 lo)).take (HT.sIx its.length its.length hi - HT.sIx its.length 0 lo)).toArray := by
  obtain ⟨h1, h2, h3⟩ := slice_bounds lo hi its.toArray.size
  unfold slicePick
  rw [h1, h2, h3]
  simp only [sliceRange_one, pick_run, List.size_toArray] <;> rfl
def rSlL (K : PySem.W.Frag) : V → Option Int → Option Int → Hp → VK → Prop := fun x lo hi H Q => ∃ a xs, x = .ref a ∧ SqL K H a xs ∧ ∀ p, H p = none → Q (.ref p) (upd H p (.lst (cutV xs lo hi)))
theorem sl_list : SlR X (rSlL X.K) := by
  intro pins s σ H x v vl vu lo hi sl Q I rx hs pl pu h
  obtain ⟨a, xs, rfl, hx, q⟩ := h
  cases rx
  obtain ⟨its, r, ht, hz⟩ := I.list hx
  have hlen := r.length
  refine ⟨"list", _, slot_list_getitem.lookup, ht.isList.typeIs, ?_⟩
  refine wpAny_getItem_list_slice ht.isList hs pl pu .none (by simp) ?_ (by rw [List.size_toArray] <;> omega)
  rw [slicePick_cut, ← hlen]
  refine ⟨.ref s.heap.objs.size, _, I.laid (t' := s.toks) (o := .lst (cutV xs lo hi)) (fun b ob q => Heap.get?_push_of_some _ q) (Nat.le_refl _) ?_, rfl, q _ (I.hok.fresh (Nat.le_refl _))⟩
  exact ⟨Nat.le_trans (cutV_length xs lo hi) hz, _, 0, (r.drop (HT.sIx xs.length 0 lo)).take (HT.sIx xs.length xs.length hi - HT.sIx xs.length 0 lo), Heap.get?_push_size _ rfl⟩
theorem call_len_seq : CallR X (.builtin "len") (fun xs H Q => ∃ p ys, xs = [.ref p] ∧ (SqL X.K H p ys ∨ SqT X.K H p ys) ∧ Q (.int ys.length) H) := by
  intro pins s σ H xs us Q I r h
  obtain ⟨p, ys, rfl, hq, q⟩ := h
  obtain ⟨u, rfl, rx⟩ := vals1 r
  cases rx
  have hn := line63
  rcases hq with hq | hq
  · obtain ⟨its, r', pl, hz⟩ := I.list hq
    have hlen := r'.length
    exact Calls.call_len_list pl.isList (by simp only [List.size_toArray] <;> omega) ⟨.int ys.length, H, I.tok _, ⟨s.toks + 1, by rw [List.size_toArray, hlen]⟩, q⟩
  · obtain ⟨its, r', pl, hz⟩ := I.tuple hq
    have hlen := r'.length
    exact len_tuple pl (by simp only [List.size_toArray] <;> omega) ⟨.int ys.length, H, I.tok _, ⟨s.toks + 1, by rw [List.size_toArray, hlen]⟩, q⟩
theorem call_len_str : CallR X (.builtin "len") (fun xs H Q => ∃ z, xs = [.str z] ∧ z.length ≤ sizeLine ∧ Q (.int z.length) H) := by
  intro pins s σ H xs us Q I r h
  obtain ⟨z, rfl, hz, q⟩ := h
  obtain ⟨u, rfl, t, rfl⟩ := vals1 r
  have hn := line63
  exact len_str (by omega) ⟨.int z.length, H, I.tok _, ⟨_, rfl⟩, q⟩
theorem CallR.or {f : Value} {r r' : List V → Hp → VK → Prop} (h : CallR X f r) (h' : CallR X f r') : CallR X f (fun xs H Q => r xs H Q ∨ r' xs H Q) := by
  intro pins s σ H xs us Q I rs q
  rcases q with q | q
  · exact h pins s σ H xs us Q I rs q
  · exact h' pins s σ H xs us Q I rs q
theorem call_list_of : CallR X (.type "list") (fun xs H Q => ∃ p ys, xs = [.ref p] ∧ (SqL X.K H p ys ∨ SqT X.K H p ys) ∧ ∀ l, H l = none → Q (.ref l) (upd H l (.lst ys))) := by
  intro pins s σ H xs us Q I r h
  obtain ⟨p, ys, rfl, hq, q⟩ := h
  obtain ⟨u, rfl, rx⟩ := vals1 r
  cases rx
  have fin : ∀ (its : List Value), Vals ys its → ys.length ≤ sizeLine → ∀ (h' : Heap) (c' : Nat), (∀ b o', s.heap.get? b = some o' → h'.get? b = some o') →
      h'.get? s.heap.objs.size = some { cls := .type "list", dict := none, data := .seq its.toArray c', slots := #[] } → EP X pins σ Q (.ref s.heap.objs.size) { s with heap := h' } := fun its r' hz h' c' kp e =>
    ⟨.ref s.heap.objs.size, _, I.laid (t' := s.toks) kp (Nat.le_refl _) (show ObjOk X.prog X.w _ h' _ (.lst ys) from ⟨hz, its, c', r', e⟩), rfl, q _ (I.hok.fresh (Nat.le_refl _))⟩
  rcases hq with hq | hq
  · obtain ⟨its, r', pl, hz⟩ := I.list hq
    have hlen := r'.length
    obtain ⟨o, ho, hc, n, hd⟩ := pl.isList
    exact call_list_seq p (.inl rfl) ho hc hd (fun h' c' kp e => fin its r' hz h' c' kp e) (by simp only [List.size_toArray] <;> omega)
  · obtain ⟨its, r', pl, hz⟩ := I.tuple hq
    have hlen := r'.length
    obtain ⟨o, ho, hc, n, hd⟩ := pl
    exact call_list_seq p (.inr rfl) ho hc hd (fun h' c' kp e => fin its r' hz h' c' kp e) (by simp only [List.size_toArray] <;> omega)
theorem call_tuple_of : CallR X (.type "tuple") (fun xs H Q => ∃ p ys, xs = [.ref p] ∧ ((SqL X.K H p ys ∧ ∀ l, H l = none → Q (.ref l) (upd H l (.tup ys))) ∨ (SqT X.K H p ys ∧ Q (.ref p) H))) := by
  intro pins s σ H xs us Q I r h
  obtain ⟨p, ys, rfl, h⟩ := h
  obtain ⟨u, rfl, rx⟩ := vals1 r
  cases rx
  rcases h with ⟨hq, q⟩ | ⟨hq, q⟩
  · obtain ⟨its, r', pl, hz⟩ := I.list hq
    have hlen := r'.length
    refine call_tuple_list pl.isList (fun h' kp => ?_) (by simp only [List.size_toArray] <;> omega)
    have I1 : Inv X pins σ H { s with heap := h' } := I.kept (t' := s.toks) kp
    have I2 : Inv X pins σ (upd H h'.objs.size (.tup ys)) { s with heap := h'.push { cls := .type "tuple", data := .seq its.toArray } } :=
      I1.laid (t' := s.toks) (fun b o e => Heap.get?_push_of_some _ e) (Nat.le_refl _) (show ObjOk X.prog X.w _ _ _ (.tup ys) from ⟨hz, its, r', TupN.new _ _⟩)
    exact ⟨.ref h'.objs.size, _, I2, rfl, q _ (I1.hok.fresh (Nat.le_refl _))⟩
  · obtain ⟨its, r', pl, hz⟩ := I.tuple hq
    exact call_tuple_same pl ⟨.ref p, H, I, rfl, q⟩
def tyV (K : PySem.W.Frag) (T : String) (x : V) (H : Hp) : Prop := match x with
  | .str _ => T = "str"
  | .int _ => T = "int"
  | .ref p => (T = "list" ∧ ∃ xs, SqL K H p xs) ∨ (T = "tuple" ∧ ∃ o, K.lookup p = some o ∧ o.cls = .type "tuple" ∧ o.dict = none) ∨
      (T = "dict" ∧ ((∃ kvs, H p = some (.dK kvs)) ∨ ∃ kvs, H p = some (.dT kvs))) ∨ (T = "set" ∧ ∃ S n, H p = some (.set S n))
  | _ => False
theorem tyV_is {pins : List (Addr × Obj)} {σ : St} {H : Hp} {s : Shared} {T : String} {x : V} {v : Value} (I : Inv X pins σ H s) (r : RelV x v) (ty : tyV X.K T x H) :
    s.TypeIs v T ∧ ∀ a, v = .ref a → ∃ ob, s.heap.get? a = some ob ∧ ob.dict = none := by
  cases x with
  | str z =>
    obtain ⟨t, rfl⟩ := r
    cases (show T = "str" from ty)
    exact ⟨typeIs_str s z t, fun _ e => nomatch e⟩
  | int i =>
    obtain ⟨t, rfl⟩ := r
    cases (show T = "int" from ty)
    exact ⟨typeIs_int s i t, fun _ e => nomatch e⟩
  | ref p =>
    cases r
    rcases ty with ⟨rfl, xs, hq⟩ | ⟨rfl, o, hk, hc, hd⟩ | ⟨rfl, hk⟩ | ⟨rfl, S, n, hk⟩
    · obtain ⟨its, _, pl, _⟩ := I.list hq
      refine ⟨pl.isList.typeIs, fun a e => ?_⟩
      cases e
      obtain ⟨o, n, e, c, hd, _⟩ := pl
      exact ⟨o, e, hd⟩
    · refine ⟨⟨o, I.kIn p o hk, hc⟩, fun a e => ?_⟩
      cases e
      exact ⟨o, I.kIn _ o hk, hd⟩
    · have z : ∃ o, s.heap.get? p = some o ∧ o.ExactDict := by
        rcases hk with ⟨kvs, hk⟩ | ⟨kvs, hk⟩
        · obtain ⟨_, _, _, _, o, _, _, e, ex, _⟩ := I.hok p _ hk
          exact ⟨o, e, ex⟩
        · obtain ⟨_, _, _, _, o, _, _, e, ex, _⟩ := I.hok p _ hk
          exact ⟨o, e, ex⟩
      obtain ⟨o, e, ex⟩ := z
      refine ⟨⟨o, e, ex.1⟩, fun a e2 => ?_⟩
      cases e2
      exact ⟨o, e, ex.2.1⟩
    · obtain ⟨o, _, _, _, e, ex, _⟩ := I.hok p _ hk
      refine ⟨⟨o, e, ex.1⟩, fun a e2 => ?_⟩
      cases e2
      exact ⟨o, e, ex.2.1⟩
  | _ => exact False.elim ty
def tBM (K : PySem.W.Frag) (T : String) (r : V → List V → Hp → VK → Prop) (to : TE) (t : TA) : TE := fun σ H Q => to σ H fun x H1 => tyV K T x H1 ∧ t σ H1 fun xs H2 => r x xs H2 Q
variable {o e : Expr} {es : List Expr} {to : TE} {t : TA} {name : Str} {apos cpos : Pos} {T id : String} {r : V → List V → Hp → VK → Prop}
theorem pe_bm (pa : PlainAttrs T) (slot : Slot T name id) (hty : typeOf (.builtin id) = pure (.type "method_descriptor")) (hm : MtR X id r) (ho : PE X o to) (ha : PA X (e :: es) t)
    (hbase : attributeBase o name X.env (eval o X.env) = eval o X.env := by rfl)
    (hfew : ((backTo cpos (starEach (e :: es) X.env)).all (fun x => !x.1) && (backToKw cpos (keywordEach [] X.env)).all (fun x => x.1.isSome)
      && decide ((e :: es).length + ([] : List Keyword).length + (if ([] : List Keyword).isEmpty then 0 else 1) < 30)) = true := by rfl)
    (hline : (apos.endLine == cpos.line) = true := by rfl) (hs : starEach (e :: es) X.env = (false, eval e X.env) :: starEach es X.env := by rfl) (hplain : (backTo cpos (starEach es X.env)).any (·.1) = false := by rfl) :
    PE X (.Call (.Attribute o name apos) (e :: es) [] cpos) (tBM X.K T r to t) := by
  intro pins s σ H Q I h
  refine wpAny_Call_method_late hbase hfew hline rfl (thn (ho pins s σ H _ I h) fun v s1 ⟨x, H1, I1, r1, ty, q1⟩ => ?_)
  obtain ⟨h1, h2⟩ := tyV_is I1 r1 ty
  refine ⟨T, id, pa, slot, hty, h1, h2, ?_⟩
  have hA := ha cpos pins s1 σ H1 _ I1 q1
  rw [hs] at hA ⊢
  refine Calls.callWith_builtin (by show (false || (backTo cpos (starEach es X.env)).any (·.1)) = false; rw [hplain] <;> rfl) (Calls.evalArgs_plain ?_)
  exact thn hA fun us s2 ⟨vs, H2, I2, r2, q2⟩ => hm pins s2 σ H2 x vs v us Q I2 r1 r2 q2
end
end L2
namespace L2
open PySem PySem.Spec PyProof.Rows
def MtM (X : Cx) (id : String) (r : V → List V → Hp → VK → Prop) : Prop :=
  ∀ (pins : List (Addr × Obj)) (s : Shared) (σ : St) (H : Hp) (x : V) (xs : List V) (v : Value) (us : List Value) (Q : VK), Inv X pins σ H s → RelV x v → Vals xs us → r x xs H Q →
    wpAny (model X.prog X.w) X.A (call (.builtin id) (v :: us)) (EP X pins σ Q) X.xe s
theorem Vals.one : ∀ {x : V} {us : List Value}, Vals [x] us → ∃ u, us = [u] ∧ RelV x u
  | _, _, .cons r .nil => ⟨_, rfl, r⟩
theorem Vals.two : ∀ {x y : V} {us : List Value}, Vals [x, y] us → ∃ u v, us = [u, v] ∧ RelV x u ∧ RelV y v
  | _, _, _, .cons r (.cons q .nil) => ⟨_, _, rfl, r, q⟩
theorem Vals.eraseIdx : ∀ {xs : List V} {us : List Value} (i : Nat), Vals xs us → Vals (xs.eraseIdx i) (us.eraseIdx i)
  | _, _, _, .nil => .nil
  | _, _, 0, .cons _ t => t
  | _, _, i + 1, .cons r t => .cons r (Vals.eraseIdx i t)
theorem len_erase {α : Type} : ∀ (l : List α) (i : Nat), (l.eraseIdx i).length ≤ l.length
  | [], _ => Nat.le_refl _
  | _ :: _, 0 => Nat.le_succ _
  | _ :: r, i + 1 => Nat.succ_le_succ (len_erase r i)
section
variable {X : Cx} {pins : List (Addr × Obj)} {σ : St} {H : Hp} {s : Shared} {l b : Addr} {xs ys zs : List V}
theorem Inv.lset {its its' : List Value} {n : Nat} {f : Array Value → Array Value} {t' : Nat} (I : Inv X pins σ H s) (hH : H l = some (.lst xs))
    (e : s.heap.get? l = some { cls := .type "list", data := .seq its.toArray n }) (hf : f its.toArray = its'.toArray) (hv : Vals ys its') (hz : ys.length ≤ sizeLine) :
    Inv X pins σ (upd H l (.lst ys)) { s with heap := s.heap.update l (Obj.mapSeq f), toks := t' } := by
  have q := PySem.IsL.update e f
  rw [hf] at q
  refine I.write (x := l) (e := l) (by rw [hH]; exact trivial) (.inl rfl) (fun b' u hb hu => (Heap.get?_update_other s.heap (Obj.mapSeq f) (Ne.symm hb)).trans hu) ⟨_, q⟩ ?_
  exact ⟨hz, its', _, hv, q⟩
theorem Inv.lnew {its : List Value} {t' : Nat} (I : Inv X pins σ H s) (hv : Vals ys its) (hz : ys.length ≤ sizeLine) :
    Inv X pins σ (upd H s.heap.objs.size (.lst ys)) { s with heap := s.heap.push { cls := .type "list", data := .seq its.toArray }, toks := t' } :=
  I.laid (fun _ _ q => Heap.get?_push_of_some _ q) (Nat.le_refl _) ⟨hz, its, 0, hv, Heap.get?_push_size _ rfl⟩
theorem Inv.fresh (I : Inv X pins σ H s) : H s.heap.objs.size = none := I.hok.fresh (Nat.le_refl _)
theorem Inv.lstM (I : Inv X pins σ H s) (hH : H l = some (.lst xs)) : xs.length ≤ sizeLine ∧ ∃ (its : List Value) (n : Nat), Vals xs its ∧ xs.length = its.length ∧ s.heap.get? l = some { cls := .type "list", data := .seq its.toArray n } := by
  obtain ⟨z, its, n, r, e⟩ := I.hok l _ hH
  exact ⟨z, its, n, r, r.length, e⟩
end
section
variable {X : Cx}
def rAppend : V → List V → Hp → VK → Prop := fun x vs H Q => ∃ l xs y, x = .ref l ∧ vs = [y] ∧ H l = some (.lst xs) ∧ xs.length < sizeLine ∧ Q .non (upd H l (.lst (xs ++ [y])))
theorem mt_append : MtM X "list.append" rAppend := by
  intro pins s σ H x vs v us Q I rx rv h
  obtain ⟨l, xs, y, rfl, rfl, hH, hz, q⟩ := h
  cases rx
  obtain ⟨u, rfl, ru⟩ := rv.one
  obtain ⟨z, its, n, r, hl, e⟩ := I.lstM hH
  refine call_meets F.slot_list_append ⟨_, e, rfl⟩ F.entry_list_append (F.args_list_append_2 _ _) (PySem.list_append l its.toArray n u (by rw [List.size_toArray]; omega)) ⟨e, ?_⟩
  refine ⟨.non, _, I.lset (its' := its ++ [u]) hH e (by simp) (r.append (.cons ru .nil)) ?_, rfl, q⟩
  rw [List.length_append, List.length_singleton]
  omega
def rPopAt : V → List V → Hp → VK → Prop := fun x vs H Q => ∃ l xs i k y, x = .ref l ∧ vs = [.int i] ∧ H l = some (.lst xs) ∧ -(2 ^ 63) ≤ i ∧ i < 2 ^ 63 ∧ seqIndex? i xs.length = some k ∧ xs[k]? = some y ∧ Q y (upd H l (.lst (xs.eraseIdx k)))
theorem mt_popAt : MtM X "list.pop" rPopAt := by
  intro pins s σ H x vs v us Q I rx rv h
  obtain ⟨l, xs, i, k, y, rfl, rfl, hH, h1, h2, hk, hy, q⟩ := h
  cases rx
  obtain ⟨u, rfl, ru⟩ := rv.one
  obtain ⟨t, rfl⟩ := ru
  obtain ⟨z, its, n, r, hl, e⟩ := I.lstM hH
  obtain ⟨w, hw, rw'⟩ := r.get hy
  refine call_meets F.slot_list_pop ⟨_, e, rfl⟩ F.entry_list_pop (F.args_list_pop_2 _ _)
    (MeetsSeq.list_pop_at l its.toArray n i t k w (fitsIndex_both h1 h2) (by rw [List.size_toArray, ← hl]; exact hk) (by rw [← Array.getElem?_toList]; exact hw) (by rw [List.size_toArray]; omega)) ⟨e, ?_⟩
  refine ⟨y, _, I.lset (its' := its.eraseIdx k) hH e ?_ (r.eraseIdx k) ?_, rw', q⟩
  · show its.toArray.eraseIdxIfInBounds k = (its.eraseIdx k).toArray
    rw [List.eraseIdxIfInBounds_toArray]
  · have := len_erase xs k
    omega
end
end L2
namespace Att
open PySem PySem.W PySem.Calls PyProof.Rows
theorem ints_of_wellAll {P : Params} {h : Heap} : ∀ (ns : List Int) (vs : List Value), WellAll P h vs (ns.map WData.int) → IntsAre vs ns := by
  intro ns
  induction ns with
  | nil =>
    intro vs w
    rw [List.map_nil] at w
    cases w
    exact .nil
  | cons n ns ih =>
    intro vs w
    rw [List.map_cons] at w
    cases w with
    | cons a b =>
      cases a
      exact .cons _ _ (ih _ b)
theorem script_of {l : OpenLaw} {n : Nat} (hn : l.most = some n) {P : Params} {h : Heap} {args : List WData} {vals : List Value}
    (hpre : l.row.toRowW.claim.pre args = true) (hwl : WellAll P h vals args) :
    ∃ a vs ns, vals = [Value.ref a] ∧ args = [WData.list (ns.map WData.int)] ∧ h.get? a = some { cls := .type "list", data := .seq vs.toArray } ∧ IntsAre vs ns ∧ ns.length ≤ n := by
  have hsh : WShape.hasAll [] args [.list .int] = true := (pre_splitW hpre).1
  have hc : l.pre.holds [] { args := args } = true := (pre_splitW hpre).2
  obtain ⟨d, r, rfl, h1, h2⟩ := hasAllW_cons hsh
  obtain rfl := hasAllW_nil h2
  obtain ⟨xs, rfl, h3⟩ := hasW_list h1
  obtain ⟨ns, rfl⟩ := items_int h3
  have hlen : ns.length ≤ n := by
    unfold OpenLaw.pre at hc
    have h4 : (WTm.not (.lt (.lit (.int (n : Int))) (.len (.arg 0)))).holds [] { args := [.list (ns.map .int)] } = true := by
      have h4 := (holds_andW hc).1
      rw [hn] at h4
      exact h4
    have h5 := condW_of h4 (w_not (w_lt w_lit (w_len_list (w_arg rfl))))
    rw [List.length_map] at h5
    refine Nat.le_of_not_lt fun q => ?_
    have q' : (n : Int) < ((ns.length : Nat) : Int) := by omega
    first
      | (rw [decide_eq_true q'] at h5; exact absurd h5 (by decide))
      | (simp at h5; omega)
  cases hwl with
  | cons w1 w2 =>
    cases w2
    cases w1 with
    | list ho hall => exact ⟨_, _, ns, rfl, rfl, ho, ints_of_wellAll ns _ hall, hlen⟩
theorem post_true (l : OpenLaw) (args : List WData) : l.row.toRowW.claim.post args (.bool true) args = true :=
  postW_of (r := l.row.toRowW) (X := (true == true))
    (show WShape.has [] (.bool true) .bool = true by first | rfl | decide | simp [WShape.has, WShape.arms, WShape.armsAll])
    (show (WTm.eq .res (.lit (.bool true))).value [] { args := args, res := some (.bool true), after := args } = some (.bool (true == true)) from w_eq_bool (w_res rfl) w_lit) rfl
theorem attach_call {l : OpenLaw} {n : Nat} {q : Program} {loose : List Str} {XP : (Str → Option Value) → Heap → Prop} {YP : World → Heap → Prop} {d : DefRec}
    (hn : l.most = some n) (hdf : d.params.defaults = [])
    (call : ∀ (w : World) (s₀ s₁ : Shared) (mg mb : Str → Option Value) (fa : Addr) (o : Obj) (pm cd doc : Value) (a : Addr) (vs : List Value) (ns : List Int),
      Ground q loose [] XP w s₀ mg mb s₁.heap → YP w s₁.heap →
      s₁.heap.get? fa = some o → o.data = .func (docDef d.name d.params d.body d.scope pm cd doc) → s₁.heap.CodeRec cd d.name → mg d.name = some (.ref fa) →
      s₁.heap.get? a = some { cls := .type "list", data := .seq vs.toArray } → IntsAre vs ns → ns.length ≤ n → s₁.gens = #[] →
      codeAny (model l.prog w) callerA (.call (.ref fa) ⟨[.ref a], []⟩) (fun r s' => r = .ok (.ret (.bool true)) ∧ OldK s₁.heap s'.heap ∧ s'.os = s₁.os ∧ AllBare s'.gens) s₁) :
    WalkO q loose XP YP l.row.toRowW d [] (fun f vs => PySem.call f vs) := by
  intro w s₀ s₁ mg mb G Y fa o pm cd doc dV kV ho hd hcd hD hmg hg args vals as hpre hlay hrd hwl hlo
  obtain rfl : dV = .none := Dflts.none hD hdf
  obtain rfl : kV = .none := Dflts.noKw hD
  obtain ⟨a, vs, ns, rfl, rfl, hobj, hints, hlen⟩ := script_of hn hpre hwl
  refine enter_call (codeAny_mono (call w s₀ s₁ mg mb fa o pm cd doc a vs ns G Y ho (fd_plain hd) hcd hmg hobj hints hlen hg) fun r s' hq => ?_)
  obtain ⟨rfl, h2, h3, h4⟩ := hq
  exact ⟨.inl ⟨.bool true, .bool true, [], rfl, fun _ => rfl, .bool true, post_true l _, fun _ => ⟨List.Pairwise.nil, fun _ hm => (nomatch hm)⟩⟩, h2, h3, h4⟩
end Att
namespace L2
open PySem PySem.Spec PyProof.Rows
theorem vals_ints : ∀ {vs : List Value} {ns : List Int}, IntsAre vs ns → Vals (ns.map V.int) vs
  | _, _, .nil => .nil
  | _, _, .cons n t h => .cons ⟨t, rfl⟩ (vals_ints h)
def Only (H : Hp) : Prop := ∀ b, H b = none ∨ ∃ o xs, H b = some (.frz o (.lst xs))
theorem law_call {P : Program} {w : World} {K : PySem.W.Frag} {mg mb : Str → Option Value} {CX : CXT} {k : Nat} {fa a : Addr} {fd : FuncData} {x : Str} {sp : Sp} {s₁ : Shared} {vs : List Value} {ns : List Int}
    (KX : K.In s₁.heap) (hns : s₁.heap.Ns mainGlobals mg) (hb : s₁.heap.Ns builtinsNs mb) (hbb : ∀ x : Str, x ≠ "__name__" → mb x = bootBuiltins x) (hlim : s₁.heap.NoLimit) (hg : s₁.gens = #[])
    (ha : s₁.heap.get? a = some { cls := .type "list", data := .seq vs.toArray }) (hi : IntsAre vs ns) (hl : ns.length ≤ sizeLine) (hr : Room k callerA)
    (F : ∀ base : Heap, K.In base → base.Ns mainGlobals mg → FnOk P w K mg base CX k fa fd [x] sp) (hbind : ∀ (s : Shared) (u : Value), BindsTo s fd ⟨[u], []⟩ [(x, u)])
    (hsp : ∀ H : Hp, Only H → SqL K H a (ns.map V.int) → sp [.ref a] H (fun v _ => v = .bl true) fun _ _ _ => False)
    (hCX : ∀ H e s', CX [] H s₁ (fun _ _ _ => False) e s' → False) :
    codeAny (model P w) callerA (.call (.ref fa) ⟨[.ref a], []⟩) (fun r s' => r = .ok (.ret (.bool true)) ∧ OldK s₁.heap s'.heap ∧ s'.os = s₁.os ∧ AllBare s'.gens) s₁ := by
  have rv := vals_ints hi
  have lenV := hi.length
  have core : ∀ H : Hp, Only H → SqL K H a (ns.map V.int) → HOk P w H s₁.heap → (∀ b, H b ≠ none → b = a) → (H a ≠ none → K.lookup a = none) →
      codeAny (model P w) callerA (.call (.ref fa) ⟨[.ref a], []⟩) (fun r s' => r = .ok (.ret (.bool true)) ∧ OldK s₁.heap s'.heap ∧ s'.os = s₁.os ∧ AllBare s'.gens) s₁ := by
    intro H hO hS hok hA hK
    have base_of : ∀ {b : Addr} {o : Obj}, s₁.heap.get? b = some o → H b = none → (hidT s₁.heap H).get? b = some o := fun e n => hidT_get e n
    have noA : ∀ {b : Addr} {o : Obj} {es : Array DictEntry} {ep : Nat}, s₁.heap.get? b = some o → o.data = .dict es ep → H b = none := fun {b o es ep} e d => by
      cases q : H b with
      | none => rfl
      | some u =>
        have e' : b = a := hA b (by rw [q]; simp)
        subst e'
        rw [ha] at e; cases e
        have d' : Data.seq vs.toArray _ = Data.dict es ep := d
        cases d'
    have nsK : ∀ {b : Addr} {m : Str → Option Value}, s₁.heap.Ns b m → (hidT s₁.heap H).Ns b m := fun {b m} ⟨o, es, ep, e, d, r⟩ => ⟨o, es, ep, base_of e (noA e d), d, r⟩
    have hKb : K.In (hidT s₁.heap H) := fun b o e => base_of (KX b o e) (by
      cases q : H b with
      | none => rfl
      | some u =>
        have e' : b = a := hA b (by rw [q]; simp)
        subst e'
        rw [hK (by rw [q]; simp)] at e; cases e)
    have hM : Mod K mg (hidT s₁.heap H) := ⟨hKb, nsK hns, ⟨mb, nsK hb, hbb⟩, let ⟨mc, h1, h2⟩ := hlim; ⟨mc, nsK h1, h2⟩⟩
    have e0 : Env0 P w K mg (hidT s₁.heap H) callerA [] s₁ H := ⟨rfl, hM, fun b o e => of_hidT e, Nat.le_of_eq (hidT_size _ _), trivial, fun b hb => absurd (show b ∈ ([] : List Addr) from hb) (by simp), hok, .of_eq hg⟩
    refine codeAny_mono ((F _ hKb (nsK hns)).run callerA [] s₁ H ⟨[.ref a], []⟩ [.ref a] [.ref a] _ _ hr e0 (hbind s₁ (.ref a)) (.cons rfl .nil) (hsp H hO hS)) fun r s' h => ?_
    cases r with
    | error e => exact (hCX H e s' h).elim
    | ok fl =>
      cases fl with
      | next => exact False.elim h
      | brk => exact False.elim h
      | cont => exact False.elim h
      | ret u =>
        obtain ⟨v, H', os, bare, un, hok', r', q⟩ := h
        have q' : v = .bl true := q
        subst q'
        obtain rfl : u = Value.bool true := r'
        refine ⟨rfl, OldK.of_keep fun b o e => ?_, os, bare⟩
        cases q : H b with
        | none => exact un.keep b o e q (by intro z; exact absurd (show b ∈ ([] : List Addr) from z) (by simp)) (by simp)
        | some u =>
          rcases hO b with z | ⟨ob, xs, z⟩
          · rw [q] at z; cases z
          · have z2 := un.frzs b ob _ z
            obtain ⟨e1, _⟩ := hok b _ z
            obtain ⟨e2, _⟩ := hok' b _ z2
            rw [e] at e1; cases e1
            exact e2
  cases hk : K.lookup a with
  | some o =>
    have e := KX a o hk
    rw [ha] at e
    cases e
    refine core (fun _ => none) (fun _ => .inl rfl) (.inr ⟨_, vs.toArray, _, hk, rfl, rfl, rfl, by rw [List.size_toArray, lenV]; exact hl, by simpa using rv⟩) (fun b u z => by have z' : (none : Option HO) = some u := z; cases z') (fun b z => absurd rfl z) fun z => absurd rfl z
  | none =>
    refine core (fun b => if b = a then some (.frz { cls := .type "list", data := .seq vs.toArray } (.lst (ns.map V.int))) else none) (fun b => ?_) (.inl (.inr ⟨{ cls := .type "list", data := .seq vs.toArray }, if_pos rfl⟩)) (fun b u z => ?_) (fun b z => ?_) fun _ => hk
    · by_cases hb : b = a
      · exact .inr ⟨_, _, if_pos hb⟩
      · exact .inl (if_neg hb)
    · by_cases hb : b = a
      · have z' := (if_pos hb).symm.trans z
        cases z'
        subst hb
        exact ⟨ha, by rw [List.length_map]; exact hl, vs, _, rv, ha⟩
      · have z' := (if_neg hb).symm.trans z
        cases z'
    · by_cases hb : b = a
      · exact hb
      · exact absurd (if_neg hb) z
end L2
namespace L2
open PySem PySem.Spec PyProof.Rows
theorem walk_of {l : PySem.W.OpenLaw} {n k : Nat} {q : Program} {loose : List Str} {XP : (Str → Option Value) → Heap → Prop} {YP : World → Heap → Prop} {d : DefRec} {K : Params → PySem.W.Frag} {CX : World → CXT} {sp : World → Sp} {x : Str}
    (hn : l.most = some n) (hn2 : n ≤ sizeLine) (hdf : d.params.defaults = []) (hr : Room k callerA)
    (hY : ∀ (w : World) (h : Heap), YP w h → (K w.params).In h)
    (F : ∀ (w : World) (mg : Str → Option Value) (fa : Addr) (h : Heap), (K w.params).In h → h.Ns mainGlobals mg → mg d.name = some (.ref fa) →
      ∃ fd : FuncData, (∀ (s : Shared) (u : Value), BindsTo s fd ⟨[u], []⟩ [(x, u)]) ∧
        ∀ base : Heap, (K w.params).In base → base.Ns mainGlobals mg → FnOk l.prog w (K w.params) mg base (CX w) k fa fd [x] (sp w))
    (hsp : ∀ (w : World) (H : Hp) (a : Addr) (ns : List Int), ns.length ≤ n → Only H → SqL (K w.params) H a (ns.map V.int) → sp w [.ref a] H (fun v _ => v = .bl true) fun _ _ _ => False)
    (hCX : ∀ (w : World) (H : Hp) (s : Shared) (e : Value) (s' : Shared), CX w [] H s (fun _ _ _ => False) e s' → False) :
    PySem.W.WalkO q loose XP YP l.row.toRowW d [] (fun f vs => PySem.call f vs) := by
  refine Att.attach_call hn hdf fun w s₀ s₁ mg mb fa o pm cd doc a vs ns G Y ho hd hcd hmg hobj hints hlen hg => ?_
  have KX := hY w _ Y
  obtain ⟨fd, hb, hF⟩ := F w mg fa _ KX G.T.g hmg
  exact law_call KX G.T.g G.T.b G.T.builtins G.T.nolimit hg hobj hints (Nat.le_trans hlen hn2) hr hF hb (fun H hO hS => hsp w H a ns hlen hO hS) fun H e s' => hCX w H s₁ e s'
end L2
namespace L2
open PySem PySem.Spec PyProof.Rows
def defArgs (s : Stmt) : Arguments := match s with
  | .FunctionDef _ a _ _ _ _ _ _ _ _ => a
  | _ => { posonlyargs := [], args := [], vararg := none, kwonlyargs := [], kw_defaults := [], kwarg := none, defaults := [] }
def defBody (s : Stmt) : List Stmt := match s with
  | .FunctionDef _ _ b _ _ _ _ _ _ _ => b
  | _ => []
def defScope (s : Stmt) : Scope := match s with
  | .FunctionDef _ _ _ _ _ _ sc _ _ _ => sc
  | _ => { kind := .function, names := [], isGenerator := false, isCoroutine := false }
abbrev CX0 : CXT := fun _ _ _ _ _ _ => False
abbrev E0 : XK := fun _ _ _ => False
theorem pass0 {X : Cx} : Passes CX0 X E0 := fun _ _ _ _ _ _ _ h => h.elim
structure Fun (K : PySem.W.Frag) (x qual : Str) (st : Stmt) (f : Addr) (fd : FuncData) : Prop where
  ex : ∃ (oc : Value) (od : Option Addr) (kV doc pm : Value) (an : Option Addr) (cdv ct : Value) (osl : Array (Option Value)),
    fd = PySem.W.fnOf x qual (defArgs st) (defBody st) (defScope st) .none kV doc pm an cdv ct ∧ K.lookup f = some ⟨oc, od, .func fd, osl⟩ ∧ PySem.W.codeIn K cdv qual = true
  kp : PySem.W.keepIn K (.ref f) = true
section
variable {P : Program} {w : World} {K : PySem.W.Frag} {mg : Str → Option Value} {base : Heap}
theorem Fun.ok {x qual : Str} {st : Stmt} {f : Addr} {fd : FuncData} {N ps : List Str} {k : Nat} {sp : Sp} (F : Fun K x qual st f fd) (S : FnScope N ps (defScope st)) (len : ∀ vs H Q E, sp vs H Q E → vs.length = ps.length)
    (hbody : ∀ (cdv : Value) (A : Around) (outer : List Env) (s : Shared) (H : Hp) (vs : List V) (Q : VK) (E : XK), Room k (A.deeper (envOfC qual (defScope st) s.heap.objs.size f cdv)) → sp vs H Q E →
      ∃ t, PSs (cxOf CX0 P w K mg base N qual (defScope st) f cdv A outer s H E).nox (defBody st) t ∧ t { nx := fun _ H' => Q .non H', rt := Q } (start N vs) H) : FnOk P w K mg base CX0 (k + 1) f fd ps sp := by
  obtain ⟨oc, od, kV, doc, pm, an, cdv, ct, osl, rfl, lk, hcd⟩ := F.ex
  refine fn_of lk hcd S len fun A outer s H vs Q E hr hsp => ?_
  obtain ⟨t, h, q⟩ := hbody cdv A outer s H vs Q E hr hsp
  exact ⟨t, h.nox, q⟩
theorem Fun.binds {x qual : Str} {st : Stmt} {f : Addr} {fd : FuncData} {ps : List Str} (F : Fun K x qual st f fd)
    (h : ∀ (kV doc pm : Value) (an : Option Addr) (cdv ct : Value) (us : List Value), us.length = ps.length → bindArgs (PySem.W.fnOf x qual (defArgs st) (defBody st) (defScope st) .none kV doc pm an cdv ct) ⟨us, []⟩ = pure (ps.zip us)) : Binds K fd ps [] := by
  obtain ⟨oc, od, kV, doc, pm, an, cdv, ct, osl, rfl, lk, hcd⟩ := F.ex
  exact .all (h kV doc pm an cdv ct)
theorem fun_mk {x qual : Str} {st : Stmt} {f : Addr} {oc : Value} {od an : Option Addr} {osl : Array (Option Value)} {kV doc pm cdv ct : Value} (l : K.lookup f = some ⟨oc, od, .func (PySem.W.fnOf x qual (defArgs st) (defBody st) (defScope st) .none kV doc pm an cdv ct), osl⟩)
    (c : PySem.W.codeIn K cdv qual = true) (k : PySem.W.keepIn K (.ref f) = true) : Fun K x qual st f (PySem.W.fnOf x qual (defArgs st) (defBody st) (defScope st) .none kV doc pm an cdv ct) := ⟨⟨oc, od, kV, doc, pm, an, cdv, ct, osl, rfl, l, c⟩, k⟩
end
def Same (H H' : Hp) : Prop := ∀ b o, H b = some o → H' b = some o
theorem Same.refl (H : Hp) : Same H H := fun _ _ h => h
theorem Same.trans {H H1 H2 : Hp} (a : Same H H1) (b : Same H1 H2) : Same H H2 := fun c o h => b c o (a c o h)
theorem Same.free {H H' : Hp} (e : Same H H') {l : Addr} (h : H' l = Option.none) : H l = Option.none := by
  cases q : H l with
  | none => rfl
  | some o =>
    rw [e l o q] at h
    cases h
theorem Same.seq {K : PySem.W.Frag} {H H' : Hp} {a : Addr} {xs : List V} (e : Same H H') (h : SqL K H a xs) : SqL K H' a xs := by
  rcases h with (h | ⟨o, h⟩) | h
  · exact .inl (.inl (e _ _ h))
  · exact .inl (.inr ⟨o, e _ _ h⟩)
  · exact .inr h
end L2
set_option Elab.async false
set_option linter.all false
set_option maxRecDepth 100000
set_option maxHeartbeats 4000000
namespace L2
open PySem PySem.Spec PyProof.Rows
section
variable {κ : Type} [DecidableEq κ]
def putK (kvs : List (κ × V)) (k : κ) (v : V) : List (κ × V) :=
  if (kvs.any fun kv => decide (kv.1 = k)) = true then kvs.map (fun kv => if kv.1 = k then (kv.1, v) else kv) else kvs ++ [(k, v)]
theorem length_putK (kvs : List (κ × V)) (k : κ) (v : V) : (putK kvs k v).length ≤ kvs.length + 1 := by
  unfold putK
  split
  · rw [List.length_map]; omega
  · rw [List.length_append, List.length_cons, List.length_nil]; omega
theorem KV.any {kvs : List (κ × V)} {vs : List (κ × Value)} (r : KV kvs vs) (k : κ) : (kvs.any fun kv => decide (kv.1 = k)) = vs.any fun kv => decide (kv.1 = k) := by
  unfold KV at r
  induction r with
  | nil => rfl
  | cons h t ih => rw [List.any_cons, List.any_cons, ih, h.1]
theorem KV.repl {kvs : List (κ × V)} {vs : List (κ × Value)} (r : KV kvs vs) (k : κ) {y : V} {u : Value} (ry : RelV y u) :
    KV (kvs.map fun kv => if kv.1 = k then (kv.1, y) else kv) (vs.map fun kv => if kv.1 = k then (kv.1, u) else kv) := by
  unfold KV at r ⊢
  induction r with
  | nil => exact .nil
  | @cons p q ps qs h t ih =>
    rw [List.map_cons, List.map_cons]
    refine .cons ?_ ih
    obtain ⟨h1, h2⟩ := h
    by_cases e : p.1 = k
    · rw [if_pos e, if_pos (h1.symm.trans e)]; exact ⟨h1, ry⟩
    · rw [if_neg e, if_neg (fun z => e (h1.trans z))]; exact ⟨h1, h2⟩
theorem KV.put {kvs : List (κ × V)} {vs : List (κ × Value)} (r : KV kvs vs) (k : κ) {y : V} {u : Value} (ry : RelV y u) : KV (putK kvs k y) (stored vs k u) := by
  unfold putK stored
  rw [r.any k]
  by_cases e : (vs.any fun kv => decide (kv.1 = k)) = true
  · rw [if_pos e, if_pos e]; exact r.repl k ry
  · rw [if_neg e, if_neg e]; exact Paired.snoc r ⟨rfl, ry⟩
theorem KV.length {kvs : List (κ × V)} {vs : List (κ × Value)} (r : KV kvs vs) : kvs.length = vs.length := Paired.length r
end
theorem kV_is {P : Program} {w : World} {k : Key} {u : Value} (r : RelV (kV k) u) : (mixKind P w).is k u = true := by
  cases k with
  | inl i => obtain ⟨t, e⟩ := (show ∃ t, u = Value.int i t from r); subst e; exact mixKind_int P w i t
  | inr x => obtain ⟨t, e⟩ := (show ∃ t, u = Value.str x t from r); subst e; exact mixKind_str P w x t
section
variable {P : Program} {w : World} {H : Hp} {h : Heap} {a : Addr}
theorem rd_of {u : HO} (ok : HOk P w H h) (e : Rd H a u) : ObjOk P w H h a u := e.ok ok
theorem dk_rd {kvs : List (Key × V)} (ok : HOk P w H h) (e : Rd H a (.dK kvs)) : kvs.length ≤ sizeLine ∧ (a == sysModules) = false ∧ ∃ vs, KV kvs vs ∧ h.DictOf (mixKind P w) a vs :=
  show ObjOk P w H h a (.dK kvs) from rd_of ok e
theorem dk_of {kvs : List (Key × V)} (ok : HOk P w H h) (e : H a = some (.dK kvs)) : kvs.length ≤ sizeLine ∧ (a == sysModules) = false ∧ ∃ vs, KV kvs vs ∧ h.DictOf (mixKind P w) a vs := dk_rd ok (.inl e)
end
section
variable {X : Cx} {pins : List (Addr × Obj)} {σ : St} {H : Hp} {s : Shared} {a : Addr} {y v : V} {u r : Value} {o : Option V} {A : Around} {E : Value → Shared → Prop}
theorem Inv.big (I : Inv X pins σ H s) : sysModules < s.heap.objs.size := by
  have h : mainGlobals < s.heap.objs.size := (I.mod.glob.keeps I.bk).lt
  exact Nat.lt_trans (by decide) h
theorem d_write {h' : Heap} {t' : Nat} {ob : HO} (I : Inv X pins σ H s) (mu : Mut (H a)) (hs : Heap.SameBut a s.heap h') (he : ∃ q, h'.get? a = some q) (new : ObjOk X.prog X.w (upd H a ob) h' a ob) :
    Inv X pins σ (upd H a ob) { s with heap := h', toks := t' } :=
  I.write (x := a) (e := a) mu (.inl rfl) (fun b q hb z => (hs.2 b hb).trans z) he new
theorem dk_new {P : Program} {w : World} {H' : Hp} {h' : Heap} {kvs : List (Key × V)} {vs : List (Key × Value)} (z : kvs.length ≤ sizeLine) (hd : (a == sysModules) = false) (rel : KV kvs vs) (dd : h'.DictOf (mixKind P w) a vs) :
    ObjOk P w H' h' a (.dK kvs) := ⟨z, hd, vs, rel, dd⟩
end
def NoSl (i : Expr) : Prop := ∀ ov iv, subscripted i false ov iv = operate [ov, iv] (getItem ov iv)
theorem subD_of {prog : Program} {w : World} {A : Around} {E : Value → Shared → Prop} {s : Shared} {env : Env} {value slice : Expr} {pos : Pos} {T id : String} {Q : Value → Shared → Prop}
    (hl : typeLookup (.type T) "__getitem__" = pure (some (.builtin id))) (hs : NoSl slice)
    (h : wpAny (model prog w) A (eval value env) (fun o s₁ => wpAny (model prog w) A (eval slice env) (fun i s₂ => s₂.TypeIs o T ∧ wpAny (model prog w) A (getItem o i) Q E s₂) E s₁) E s) :
    wpAny (model prog w) A (eval (.Subscript value slice pos) env) Q E s := by
  refine Subscript_ (wpAny_mono h (fun o s₁ h₁ => wpAny_mono h₁ (fun i s₂ h₂ => ?_) fun _ _ x => x) fun _ _ x => x)
  obtain ⟨hT, h₂⟩ := h₂
  unfold subscriptTail
  refine wpAny_bind ?_
  rw [getitemInPython_of_ne hT.not_modules]
  refine wpAny_bind (wpAny_specialOf hT hl ?_)
  have fin : wpAny (model prog w) A (subscripted slice false o i) (fun r s₃ => wpAny (model prog w) A (letTemporaryGo value o r >>= fun _ => pure r) Q E s₃) E s₂ := by
    rw [hs o i]
    exact wpAny_operating (wpAny_mono h₂ (fun r s₃ h₃ => wpAny_bind (wpAny_letTemporaryGo (wpAny_pure h₃))) fun _ _ x => x)
  first
    | exact wpAny_pure (wpAny_bind fin)
    | exact wpAny_bind (wpAny_pure (wpAny_bind fin))
    | exact wpAny_bind fin
theorem dk_empty {P : Program} {w : World} {H : Hp} (h : Heap) (hb : sysModules < h.objs.size) : ObjOk P w H (h.push { cls := .type "dict", data := .dict #[] }) h.objs.size (.dK []) :=
  ⟨Nat.zero_le _, beq_eq_false_iff_ne.mpr (Ne.symm (Nat.ne_of_lt hb)), [], .nil, Heap.DictOf.new h⟩
def tPairs : List (TE × TE) → St → Hp → (List (V × V) → Hp → Prop) → Prop
  | [], _, H, Q => Q [] H
  | (tk, tv) :: r, σ, H, Q => tk σ H fun x H1 => tv σ H1 fun y H2 => tPairs r σ H2 fun ps H3 => Q ((x, y) :: ps) H3
abbrev VV : List (V × V) → List (Value × Value) → Prop := Paired fun p q => RelV p.1 q.1 ∧ RelV p.2 q.2
def PPs (X : Cx) (pos : Pos) (keys : List (Option Expr)) (values : List Expr) (trs : List (TE × TE)) : Prop :=
  ∀ (pins : List (Addr × Obj)) (s : Shared) (σ : St) (H : Hp) (Q : List (V × V) → Hp → Prop), Inv X pins σ H s → tPairs trs σ H Q →
    wpAny (model X.prog X.w) X.A (evalPairs (pairTrees keys values X.env pos)) (fun vs s' => ∃ ps H', Inv X pins σ H' s' ∧ VV ps vs ∧ Q ps H') X.xe s
theorem pps_nil {X : Cx} {pos : Pos} : PPs X pos [] [] [] := fun pins s σ H Q I h => pairTrees_nil_walk ⟨[], H, I, .nil, h⟩
theorem pps_cons {X : Cx} {pos : Pos} {k v : Expr} {ks : List (Option Expr)} {vs : List Expr} {tk tv : TE} {trs : List (TE × TE)} (hk : PE X k tk) (hv : PE X v tv) (hr : PPs X pos ks vs trs) :
    PPs X pos (some k :: ks) (v :: vs) ((tk, tv) :: trs) := fun pins s σ H Q I h =>
  pairTrees_cons_walk (thn (hk pins s σ H _ I h) fun u s1 ⟨x, H1, I1, rx, q1⟩ => thn (hv pins s1 σ H1 _ I1 q1) fun w2 s2 ⟨y, H2, I2, ry, q2⟩ =>
    thn (hr pins s2 σ H2 _ I2 q2) fun ws s3 ⟨ps, H3, I3, rel, q3⟩ => ⟨(x, y) :: ps, H3, I3, .cons ⟨rx, ry⟩ rel, q3⟩)
def mergeK (kvs more : List (Key × V)) : List (Key × V) := more.foldl (fun acc kv => putK acc kv.1 kv.2) kvs
theorem KV.merge : ∀ {more : List (Key × V)} {rs : List (Key × Value)} {kvs : List (Key × V)} {vs : List (Key × Value)}, KV more rs → KV kvs vs → KV (mergeK kvs more) (merged vs rs) := by
  intro more rs kvs vs r
  unfold KV at r
  induction r generalizing kvs vs with
  | nil => intro q; exact q
  | @cons p q ps qs h t ih =>
    intro r0
    have e : KV (putK kvs p.1 p.2) (stored vs q.1 q.2) := by
      have := r0.put p.1 h.2
      rw [← h.1]; exact this
    exact ih e
theorem length_mergeK : ∀ (more kvs : List (Key × V)), (mergeK kvs more).length ≤ kvs.length + more.length
  | [], kvs => by show kvs.length ≤ kvs.length + 0; omega
  | p :: r, kvs => by
    have h1 := length_mergeK r (putK kvs p.1 p.2)
    have h2 := length_putK kvs p.1 p.2
    show (mergeK (putK kvs p.1 p.2) r).length ≤ _
    rw [List.length_cons]; omega
theorem carries_of {P : Program} {w : World} : ∀ {kvs : List (Key × V)} {ws : List (Value × Value)}, VV (kvs.map fun kv => (kV kv.1, kv.2)) ws → ∃ rs, Carries (mixKind P w) ws rs ∧ KV kvs rs
  | [], _, r => by rw [List.map_nil] at r; cases r; exact ⟨[], True.intro, .nil⟩
  | p :: kvs, _, r => by
    rw [List.map_cons] at r
    cases r with
    | @cons a b as bs h t =>
      obtain ⟨rs, c, q⟩ := carries_of (P := P) (w := w) t
      obtain ⟨b1, b2⟩ := b
      exact ⟨(p.1, b2) :: rs, ⟨kV_is h.1, rfl, c⟩, .cons ⟨rfl, h.2⟩ q⟩
def tDisp (trs : List (TE × TE)) : TE := fun σ H Q => ∀ p, H p = none → tPairs trs σ (upd H p (.dK [])) fun ps H2 => H2 p = some (.dK []) ∧ ∃ kvs : List (Key × V), ps = kvs.map (fun kv => (kV kv.1, kv.2)) ∧ kvs.length ≤ 15 ∧ Q (.ref p) (upd H2 p (.dK (mergeK [] kvs)))
theorem pe_disp {X : Cx} {pos : Pos} {keys : List (Option Expr)} {values : List Expr} {trs : List (TE × TE)} (h : PPs X pos keys values trs) (hall : keys.all (·.isSome) = true) (hl : keys.length = values.length) (h0 : keys ≠ [])
    (h15 : keys.length ≤ 15) : PE X (.Dict keys values pos) (tDisp trs) := by
  intro pins s σ H Q I q
  have hn := I.hok.fresh (Nat.le_refl s.heap.objs.size)
  have I1 := I.laid (a := s.heap.objs.size) (o := .dK []) (h' := s.heap.push { cls := .type "dict", data := .dict #[] }) (t' := s.toks) (fun _ _ q => Heap.get?_push_of_some _ q) (Nat.le_refl _) (dk_empty s.heap I.big)
  refine wpAny_Dict_walk (knd := mixKind X.prog X.w) hall hl h0 h15 (thn (h pins _ σ _ _ I1 (q _ hn)) fun ws s2 ⟨ps, H2, I2, rel, e, kvs, ep, lk, q2⟩ => ?_)
  subst ep
  obtain ⟨rs, c, rk⟩ := carries_of (P := X.prog) (w := X.w) rel
  obtain ⟨z, hd, vs0, r0, dd⟩ := dk_of I2.hok e
  cases r0
  refine ⟨rs, c, dd, fun h' dd' hs => ⟨.ref s.heap.objs.size, _, ?_, rfl, q2⟩⟩
  have hz : (mergeK [] kvs).length ≤ sizeLine := by
    have h1 := length_mergeK kvs []
    rw [List.length_nil] at h1
    rw [sizeLine_eq]; omega
  have he : ∃ q, h'.get? s.heap.objs.size = some q := let ⟨q, _, _, hq, _⟩ := dd'; ⟨q, hq⟩
  exact d_write I2 (by rw [e]; exact True.intro) hs he (dk_new hz hd (rk.merge .nil) dd')
structure M1 (X : Cx) (o : Expr) (m : Str) (apos : Pos) (e : Expr) (cpos : Pos) : Prop where
  base : attributeBase o m X.env (eval o X.env) = eval o X.env
  few : ((backTo cpos (starEach [e] X.env)).all (fun x => !x.1) && (backToKw cpos (keywordEach [] X.env)).all (fun x => x.1.isSome)
    && decide (([e] : List Expr).length + ([] : List Keyword).length + (if ([] : List Keyword).isEmpty then 0 else 1) < 30)) = true
  line : (apos.endLine == cpos.line) = true
  trees : backTo cpos (starEach [e] X.env) = [(false, eval e X.env)]
end L2
set_option Elab.async false
set_option linter.all false
set_option maxRecDepth 100000
set_option maxHeartbeats 4000000
namespace L2.L3
open PySem PySem.Spec PyProof.Rows
inductive D where
  | non | bl (b : Bool) | int (i : Int) | str (x : Str) | tup (xs : List D) | lst (xs : List D) | dct (ks : List Key) (xs : List D) | ty (n : String) | exc (c : Str) | cls (c : Str) | obj (P : PySem.W.Frag → Hp → Addr → Prop)
def excAt (a C : Addr) (h : Heap) : Prop := ∃ o vs, h.get? a = some o ∧ o.cls = .ref C ∧ o.dict = none ∧ o.data = .fields vs
mutual
def Den (K : PySem.W.Frag) (F : Hp) : D → V → Prop
  | .non, v => v = V.non
  | .bl b, v => v = V.bl b
  | .int i, v => v = V.int i
  | .str x, v => v = V.str x
  | .ty n, v => v = V.ty n
  | .exc c, v => ∃ a C, v = V.ref a ∧ PySem.W.nsIn K mainGlobals c = some (some (.ref C)) ∧ F a = some (.ext (excAt a C))
  | .cls c, v => ∃ C, v = V.ref C ∧ PySem.W.nsIn K mainGlobals c = some (some (.ref C))
  | .tup ds, v => ∃ a vs, v = V.ref a ∧ SqT K F a vs ∧ DenL K F ds vs
  | .lst ds, v => ∃ a vs, v = V.ref a ∧ SqL K F a vs ∧ DenL K F ds vs
  | .obj P, v => ∃ a, v = V.ref a ∧ ∀ G, Same F G → P K G a
  | .dct ks ds, v => ∃ a vs, v = V.ref a ∧ F a = some (.dK (ks.zip vs)) ∧ vs.length = ks.length ∧ DenL K F ds vs
def DenL (K : PySem.W.Frag) (F : Hp) : List D → List V → Prop
  | [], vs => vs = []
  | d :: ds, vs => ∃ v r, vs = v :: r ∧ Den K F d v ∧ DenL K F ds r
end
theorem Same.seqT {K : PySem.W.Frag} {H H' : Hp} {a : Addr} {xs : List V} (e : Same H H') (h : SqT K H a xs) : SqT K H' a xs := by
  rcases h with (h | ⟨o, h⟩) | h
  · exact .inl (.inl (e _ _ h))
  · exact .inl (.inr ⟨o, e _ _ h⟩)
  · exact .inr h
mutual
theorem Den.mono {K : PySem.W.Frag} {F F' : Hp} (s : Same F F') : ∀ (d : D) (v : V), Den K F d v → Den K F' d v
  | .non, _, h => by simpa only [Den] using h
  | .bl _, _, h => by simpa only [Den] using h
  | .int _, _, h => by simpa only [Den] using h
  | .str _, _, h => by simpa only [Den] using h
  | .ty _, _, h => by simpa only [Den] using h
  | .cls _, _, h => by simpa only [Den] using h
  | .exc _, v, h => by
    simp only [Den] at h ⊢
    obtain ⟨a, C, e, z, q⟩ := h
    exact ⟨a, C, e, z, s _ _ q⟩
  | .tup ds, v, h => by
    simp only [Den] at h ⊢
    obtain ⟨a, vs, e, q, r⟩ := h
    exact ⟨a, vs, e, Same.seqT s q, DenL.mono s ds vs r⟩
  | .lst ds, v, h => by
    simp only [Den] at h ⊢
    obtain ⟨a, vs, e, q, r⟩ := h
    exact ⟨a, vs, e, s.seq q, DenL.mono s ds vs r⟩
  | .obj _, v, h => by
    simp only [Den] at h ⊢
    obtain ⟨a, e, q⟩ := h
    exact ⟨a, e, fun G sG => q G (s.trans sG)⟩
  | .dct ks ds, v, h => by
    simp only [Den] at h ⊢
    obtain ⟨a, vs, e, q, l, r⟩ := h
    exact ⟨a, vs, e, s _ _ q, l, DenL.mono s ds vs r⟩
theorem DenL.mono {K : PySem.W.Frag} {F F' : Hp} (s : Same F F') : ∀ (ds : List D) (vs : List V), DenL K F ds vs → DenL K F' ds vs
  | [], _, h => by simpa only [DenL] using h
  | d :: ds, vs, h => by
    simp only [DenL] at h ⊢
    obtain ⟨v, r, e, a, b⟩ := h
    exact ⟨v, r, e, Den.mono s d v a, DenL.mono s ds r b⟩
end
section
variable {K : PySem.W.Frag} {F : Hp}
theorem den_int {i : Int} : Den K F (.int i) (.int i) := by simp only [Den]
theorem den_bl {b : Bool} : Den K F (.bl b) (.bl b) := by simp only [Den]
theorem den_non : Den K F .non .non := by simp only [Den]
theorem den_str {x : Str} : Den K F (.str x) (.str x) := by simp only [Den]
theorem den_ty {x : String} : Den K F (.ty x) (.ty x) := by simp only [Den]
theorem den_tup {a : Addr} {vs : List V} {ds : List D} (h : SqT K F a vs) (r : DenL K F ds vs) : Den K F (.tup ds) (.ref a) := by
  simp only [Den]; exact ⟨a, vs, rfl, h, r⟩
theorem den_lst {a : Addr} {vs : List V} {ds : List D} (h : SqL K F a vs) (r : DenL K F ds vs) : Den K F (.lst ds) (.ref a) := by
  simp only [Den]; exact ⟨a, vs, rfl, h, r⟩
theorem denL_nil : DenL K F [] [] := by simp only [DenL]
theorem denL_cons {d : D} {v : V} {ds : List D} {vs : List V} (h : Den K F d v) (r : DenL K F ds vs) : DenL K F (d :: ds) (v :: vs) := by
  simp only [DenL]; exact ⟨v, vs, rfl, h, r⟩
theorem DenL.length : ∀ {ds : List D} {vs : List V}, DenL K F ds vs → ds.length = vs.length
  | [], vs, h => by simp only [DenL] at h; subst h; rfl
  | d :: ds, vs, h => by
    simp only [DenL] at h
    obtain ⟨v, r, rfl, _, b⟩ := h
    simp [DenL.length b]
theorem DenL.get : ∀ {ds : List D} {vs : List V} {i : Nat} {d : D}, DenL K F ds vs → ds[i]? = some d → ∃ v, vs[i]? = some v ∧ Den K F d v
  | [], vs, i, d, h, e => by simp at e
  | x :: ds, vs, i, d, h, e => by
    simp only [DenL] at h
    obtain ⟨v, r, rfl, a, b⟩ := h
    cases i with
    | zero => simp at e; subst e; exact ⟨v, rfl, a⟩
    | succ i => simpa using DenL.get b (by simpa using e)
theorem DenL.getV : ∀ {ds : List D} {vs : List V} {i : Nat} {v : V}, DenL K F ds vs → vs[i]? = some v → ∃ d, ds[i]? = some d ∧ Den K F d v
  | [], vs, i, d, h, e => by simp only [DenL] at h; subst h; simp at e
  | x :: ds, vs, i, d, h, e => by
    simp only [DenL] at h
    obtain ⟨v, r, rfl, a, b⟩ := h
    cases i with
    | zero => simp at e; subst e; exact ⟨x, rfl, a⟩
    | succ i => simpa using DenL.getV b (by simpa using e)
theorem DenL.append : ∀ {ds es : List D} {vs us : List V}, DenL K F ds vs → DenL K F es us → DenL K F (ds ++ es) (vs ++ us)
  | [], es, vs, us, h, g => by simp only [DenL] at h; subst h; exact g
  | x :: ds, es, vs, us, h, g => by
    simp only [DenL] at h
    obtain ⟨v, r, rfl, a, b⟩ := h
    exact denL_cons a (DenL.append b g)
theorem DenL.take : ∀ {ds : List D} {vs : List V} (n : Nat), DenL K F ds vs → DenL K F (ds.take n) (vs.take n)
  | _, _, 0, _ => by simpa using denL_nil
  | [], vs, n + 1, h => by simp only [DenL] at h; subst h; simpa using denL_nil
  | x :: ds, vs, n + 1, h => by
    simp only [DenL] at h
    obtain ⟨v, r, rfl, a, b⟩ := h
    exact denL_cons a (DenL.take n b)
theorem DenL.drop : ∀ {ds : List D} {vs : List V} (n : Nat), DenL K F ds vs → DenL K F (ds.drop n) (vs.drop n)
  | _, _, 0, h => by simpa using h
  | [], vs, n + 1, h => by simp only [DenL] at h; subst h; simpa using denL_nil
  | x :: ds, vs, n + 1, h => by
    simp only [DenL] at h
    obtain ⟨v, r, rfl, a, b⟩ := h
    exact DenL.drop n b
theorem DenL.set {x : D} {v : V} (q : Den K F x v) : ∀ {ds : List D} {vs : List V} (n : Nat), DenL K F ds vs → DenL K F (ds.set n x) (vs.set n v)
  | [], vs, n, h => by simp only [DenL] at h; subst h; simpa using denL_nil
  | y :: ds, vs, 0, h => by
    simp only [DenL] at h
    obtain ⟨w, r, rfl, a, b⟩ := h
    exact denL_cons q b
  | y :: ds, vs, n + 1, h => by
    simp only [DenL] at h
    obtain ⟨w, r, rfl, a, b⟩ := h
    exact denL_cons a (DenL.set q n b)
theorem denL_ints (ns : List Int) : DenL K F (ns.map D.int) (ns.map V.int) := by
  induction ns with
  | nil => exact denL_nil
  | cons n r ih => exact denL_cons den_int ih
end
mutual
def hsD : D → Int
  | .int i => hashInt i
  | .tup ds => reduceHash (Builtin.Tuple.tupleHashOf (hsDs ds))
  | .non => 4238894112
  | _ => 0
def hsDs : List D → List Int
  | [] => []
  | d :: ds => hsD d :: hsDs ds
end
def DictHas (h : Heap) (d : Addr) (es : Array DictEntry) (ep : Nat) : Prop := ∃ o, h.get? d = some o ∧ o.ExactDict ∧ o.data = .dict es ep
def EntR (row : Int × V × V) (e : DictEntry) : Prop := e.hash = row.1 ∧ RelV row.2.1 e.key ∧ RelV row.2.2 e.val
def DNo (p : Addr) (ep : Nat) (rows : List (Int × V × V)) : HO := .ext fun h => rows.length ≤ sizeLine ∧ (p == sysModules) = false ∧ ∃ es, DictHas h p es ep ∧ Paired EntR rows es.toList
def rowsN (kvs : List (D × D)) (us vs : List V) : List (Int × V × V) := (kvs.map fun kv => hsD kv.1).zip (us.zip vs)
inductive Lo where
  | d (x : D) | own (xs : List D) | dic (kvs : List (D × D))
abbrev En := List (Option Lo)
structure Base where
  F : Hp
  H : Hp
  N : Addr → Prop
  nb : ∀ p, N p → H p ≠ none
structure Rep (K : PySem.W.Frag) (B : Base) (F H : Hp) (σ : St) (e : En) : Prop where
  f0 : Same B.F F
  fh : Same F H
  h0 : Same B.H H
  nf : ∀ p, B.N p → F p = none
  dv : ∀ (i : Nat) x, e[i]? = some (some (.d x)) → ∃ v, σ[i]? = some (some v) ∧ Den K F x v
  ov : ∀ (i : Nat) xs, e[i]? = some (some (.own xs)) → ∃ p vs, σ[i]? = some (some (.ref p)) ∧ H p = some (.lst vs) ∧ F p = none ∧ B.H p = none ∧ DenL K F xs vs
  ne : ∀ (i j : Nat) xs ys p, i ≠ j → e[i]? = some (some (.own xs)) → e[j]? = some (some (.own ys)) → σ[i]? = some (some (.ref p)) → σ[j]? = some (some (.ref p)) → False
  mv : ∀ (i : Nat) kvs, e[i]? = some (some (.dic kvs)) → ∃ p ep us vs, σ[i]? = some (some (.ref p)) ∧ H p = some (DNo p ep (rowsN kvs us vs)) ∧ F p = none ∧ B.H p = none ∧ DenL K F (kvs.map (·.1)) us ∧ DenL K F (kvs.map (·.2)) vs
  nm : ∀ (i j : Nat) xs ys p, i ≠ j → e[i]? = some (some (.dic xs)) → e[j]? = some (some (.dic ys)) → σ[i]? = some (some (.ref p)) → σ[j]? = some (some (.ref p)) → False
section
variable {K : PySem.W.Frag} {B : Base} {F H F' H' : Hp} {σ : St} {e : En}
theorem Rep.ext (r : Rep K B F H σ e) (a : Same F F') (b : Same F' H') (c : Same H H') (n : ∀ p, H p ≠ none → F p = none → F' p = none) : Rep K B F' H' σ e where
  f0 := r.f0.trans a
  fh := b
  h0 := r.h0.trans c
  nf := fun p hp => by
    refine n p (fun z => ?_) (r.nf p hp)
    have q := B.nb p hp
    cases w : B.H p with
    | none => exact q w
    | some o => rw [r.h0 _ _ w] at z; cases z
  dv := fun i x h => let ⟨v, h1, h2⟩ := r.dv i x h; ⟨v, h1, Den.mono a _ _ h2⟩
  ov := fun i xs h => by
    obtain ⟨p, vs, h1, h2, h3, h4, h5⟩ := r.ov i xs h
    exact ⟨p, vs, h1, c _ _ h2, n p (by rw [h2]; simp) h3, h4, DenL.mono a _ _ h5⟩
  ne := r.ne
  mv := fun i xs h => by
    obtain ⟨p, ep, us, vs, h1, h2, h3, h4, h5, h6⟩ := r.mv i xs h
    exact ⟨p, ep, us, vs, h1, c _ _ h2, n p (by rw [h2]; simp) h3, h4, DenL.mono a _ _ h5, DenL.mono a _ _ h6⟩
  nm := r.nm
theorem Rep.fnone (r : Rep K B F H σ e) {p : Addr} (h : H p = none) : F p = none := r.fh.free h
theorem same_upd {H : Hp} {p : Addr} {o : HO} (h : H p = none) : Same H (upd H p o) := fun b u q => by rw [upd_ne (ne_of_none q h)]; exact q
theorem same_upd2 {F H : Hp} {p : Addr} {o : HO} (h : Same F H) : Same (upd F p o) (upd H p o) := fun b u q => by
  by_cases e : b = p
  · subst e; rw [upd_same] at q ⊢; exact q
  · rw [upd_ne e] at q ⊢; exact h _ _ q
theorem Rep.laid (r : Rep K B F H σ e) {p : Addr} {o : HO} (h : H p = none) : Rep K B (upd F p o) (upd H p o) σ e ∧ Same F (upd F p o) := by
  have hf := r.fnone h
  refine ⟨r.ext (same_upd hf) (same_upd2 r.fh) (same_upd h) fun q hq hn => ?_, same_upd hf⟩
  by_cases z : q = p
  · subst z; exact absurd h hq
  · rw [upd_ne z]; exact hn
theorem Rep.loose (r : Rep K B F H σ e) {p : Addr} {o : HO} (h : H p = none) : Rep K B F (upd H p o) σ e :=
  r.ext (Same.refl _) (r.fh.trans (same_upd h)) (same_upd h) fun _ _ hn => hn
theorem Rep.now (r : Rep K B F H σ e) : Rep K ⟨F, B.H, B.N, B.nb⟩ F H σ e := ⟨Same.refl _, r.fh, r.h0, r.nf, r.dv, r.ov, r.ne, r.mv, r.nm⟩
theorem Rep.back {G : Hp} (s : Same B.F G) (r : Rep K ⟨G, B.H, B.N, B.nb⟩ F H σ e) : Rep K B F H σ e := ⟨s.trans r.f0, r.fh, r.h0, r.nf, r.dv, r.ov, r.ne, r.mv, r.nm⟩
theorem set_dic_ne {e : En} {i j : Nat} {l : Lo} {kvs : List (D × D)} (hl : ∀ z, l ≠ .dic z) (q : (e.set i (some l))[j]? = some (some (.dic kvs))) : i ≠ j := fun z => by
  subst z
  by_cases w : i < e.length
  · rw [List.getElem?_set_self w] at q; cases q; exact hl _ rfl
  · rw [List.getElem?_eq_none (by simpa using w)] at q; cases q
theorem Rep.set (r : Rep K B F H σ e) {i : Nat} {v : V} {x : D} (h : Den K F x v) (hl : i < σ.length) : Rep K B F H (σ.set i (some v)) (e.set i (some (.d x))) where
  f0 := r.f0
  fh := r.fh
  h0 := r.h0
  nf := r.nf
  dv := fun j y q => by
    by_cases z : i = j
    · subst z
      by_cases w : i < e.length
      · rw [List.getElem?_set_self w] at q
        cases q
        exact ⟨v, List.getElem?_set_self hl, h⟩
      · rw [List.getElem?_eq_none (by simpa using w)] at q; cases q
    · rw [List.getElem?_set_ne z] at q ⊢; exact r.dv j y q
  ov := fun j y q => by
    by_cases z : i = j
    · subst z
      by_cases w : i < e.length
      · rw [List.getElem?_set_self w] at q; cases q
      · rw [List.getElem?_eq_none (by simpa using w)] at q; cases q
    · rw [List.getElem?_set_ne z] at q ⊢; exact r.ov j y q
  ne := fun j k xs ys p hjk q1 q2 q3 q4 => by
    have own_ne : ∀ (j : Nat) (ys : List D), (e.set i (some (.d x)))[j]? = some (some (.own ys)) → i ≠ j := fun j ys q z => by
      subst z
      by_cases w : i < e.length
      · rw [List.getElem?_set_self w] at q; cases q
      · rw [List.getElem?_eq_none (by simpa using w)] at q; cases q
    have z1 := own_ne j xs q1
    have z2 := own_ne k ys q2
    rw [List.getElem?_set_ne z1] at q1 q3
    rw [List.getElem?_set_ne z2] at q2 q4
    exact r.ne j k xs ys p hjk q1 q2 q3 q4
  mv := fun j y q => by
    have z : i ≠ j := set_dic_ne (fun _ w => by cases w) q
    rw [List.getElem?_set_ne z] at q ⊢; exact r.mv j y q
  nm := fun j k xs ys p hjk q1 q2 q3 q4 => by
    have z1 := set_dic_ne (fun _ w => by cases w) q1
    have z2 := set_dic_ne (fun _ w => by cases w) q2
    rw [List.getElem?_set_ne z1] at q1 q3
    rw [List.getElem?_set_ne z2] at q2 q4
    exact r.nm j k xs ys p hjk q1 q2 q3 q4
theorem Rep.setOwn (r : Rep K B F H σ e) {i : Nat} {p : Addr} {vs : List V} {xs : List D} (h : H p = none) (hd : DenL K F xs vs) (hl : i < σ.length) :
    Rep K B F (upd H p (.lst vs)) (σ.set i (some (.ref p))) (e.set i (some (.own xs))) := by
  have r1 := r.loose (o := .lst vs) h
  have hb : B.H p = none := r.h0.free h
  have old : ∀ (j : Nat) (ys : List D), e[j]? = some (some (.own ys)) → σ[j]? ≠ some (some (.ref p)) := fun j ys q z => by
    obtain ⟨q1, _, h1, h2, _⟩ := r.ov j ys q
    rw [z] at h1; cases h1; rw [h] at h2; cases h2
  refine ⟨r1.f0, r1.fh, r1.h0, r1.nf, fun j y q => ?_, fun j y q => ?_, fun j k ys zs q hjk q1 q2 q3 q4 => ?_, fun j y q => ?_, fun j k ys zs q hjk q1 q2 q3 q4 => ?_⟩
  · by_cases z : i = j
    · subst z
      by_cases w : i < e.length
      · rw [List.getElem?_set_self w] at q; cases q
      · rw [List.getElem?_eq_none (by simpa using w)] at q; cases q
    · rw [List.getElem?_set_ne z] at q ⊢; exact r1.dv j y q
  · by_cases z : i = j
    · subst z
      by_cases w : i < e.length
      · rw [List.getElem?_set_self w] at q
        cases q
        exact ⟨p, vs, List.getElem?_set_self hl, upd_same, r.fnone h, hb, hd⟩
      · rw [List.getElem?_eq_none (by simpa using w)] at q; cases q
    · rw [List.getElem?_set_ne z] at q ⊢; exact r1.ov j y q
  · by_cases z1 : i = j
    · subst z1
      rw [List.getElem?_set_ne hjk] at q2 q4
      by_cases w : i < e.length
      · rw [List.getElem?_set_self hl] at q3
        cases q3
        exact old k zs q2 q4
      · rw [List.getElem?_eq_none (by simpa using w)] at q1; cases q1
    · rw [List.getElem?_set_ne z1] at q1 q3
      by_cases z2 : i = k
      · subst z2
        rw [List.getElem?_set_self hl] at q4
        cases q4
        exact old j ys q1 q3
      · rw [List.getElem?_set_ne z2] at q2 q4
        exact r.ne j k ys zs q hjk q1 q2 q3 q4
  · have z : i ≠ j := set_dic_ne (fun _ w => by cases w) q
    rw [List.getElem?_set_ne z] at q ⊢; exact r1.mv j y q
  · have z1 := set_dic_ne (fun _ w => by cases w) q1
    have z2 := set_dic_ne (fun _ w => by cases w) q2
    rw [List.getElem?_set_ne z1] at q1 q3
    rw [List.getElem?_set_ne z2] at q2 q4
    exact r.nm j k ys zs q hjk q1 q2 q3 q4
theorem Rep.change (r : Rep K B F H σ e) {i : Nat} {p : Addr} {vs : List V} {xs ys : List D} (h : e[i]? = some (some (.own xs))) (hp : σ[i]? = some (some (.ref p))) (hd : DenL K F ys vs) :
    Rep K B F (upd H p (.lst vs)) σ (e.set i (some (.own ys))) := by
  obtain ⟨p', _, h1, h2, h3, h4, _⟩ := r.ov i xs h
  rw [hp] at h1; cases h1
  have wl : i < e.length := (List.getElem?_eq_some_iff.mp h).1
  have fk : ∀ q o, F q = some o → q ≠ p := fun q o z w => by subst w; rw [h3] at z; cases z
  have bk : ∀ q o, B.H q = some o → q ≠ p := fun q o z w => by subst w; rw [h4] at z; cases z
  have ownAt : ∀ (j : Nat) (zs : List D), (e.set i (some (.own ys)))[j]? = some (some (.own zs)) → ∃ ws, e[j]? = some (some (.own ws)) := fun j zs q => by
    by_cases z : i = j
    · subst z; exact ⟨xs, h⟩
    · rw [List.getElem?_set_ne z] at q; exact ⟨zs, q⟩
  refine ⟨r.f0, fun b o z => by rw [upd_ne (fk b o z)]; exact r.fh _ _ z, fun b o z => by rw [upd_ne (bk b o z)]; exact r.h0 _ _ z, r.nf, fun j y q => ?_, fun j y q => ?_, fun j k as bs q hjk q1 q2 q3 q4 => ?_, fun j y q => ?_, fun j k as bs q hjk q1 q2 q3 q4 => ?_⟩
  · by_cases z : i = j
    · subst z; rw [List.getElem?_set_self wl] at q; cases q
    · rw [List.getElem?_set_ne z] at q; exact r.dv j y q
  · by_cases z : i = j
    · subst z
      rw [List.getElem?_set_self wl] at q
      cases q
      exact ⟨p, vs, hp, upd_same, h3, h4, hd⟩
    · rw [List.getElem?_set_ne z] at q
      obtain ⟨p2, us, g1, g2, g3, g4, g5⟩ := r.ov j y q
      have : p2 ≠ p := fun w => by subst w; exact r.ne j i y xs p2 (Ne.symm z) q h g1 hp
      exact ⟨p2, us, g1, by rw [upd_ne this]; exact g2, g3, g4, g5⟩
  · obtain ⟨as', w1⟩ := ownAt j as q1
    obtain ⟨bs', w2⟩ := ownAt k bs q2
    exact r.ne j k as' bs' q hjk w1 w2 q3 q4
  · have z : i ≠ j := set_dic_ne (fun _ w => by cases w) q
    rw [List.getElem?_set_ne z] at q
    obtain ⟨p2, ep, us, ws, g1, g2, g3, g4, g5, g6⟩ := r.mv j y q
    have : p2 ≠ p := fun w => by subst w; rw [h2] at g2; cases g2
    exact ⟨p2, ep, us, ws, g1, by rw [upd_ne this]; exact g2, g3, g4, g5, g6⟩
  · have z1 := set_dic_ne (fun _ w => by cases w) q1
    have z2 := set_dic_ne (fun _ w => by cases w) q2
    rw [List.getElem?_set_ne z1] at q1
    rw [List.getElem?_set_ne z2] at q2
    exact r.nm j k as bs q hjk q1 q2 q3 q4
theorem Rep.freeze (r : Rep K B F H σ e) {i : Nat} {xs : List D} (h : e[i]? = some (some (.own xs))) : ∃ F', Same F F' ∧ Rep K B F' H σ (e.set i (some (.d (.lst xs)))) := by
  obtain ⟨p, vs, h1, h2, h3, h4, h5⟩ := r.ov i xs h
  have wl : i < e.length := (List.getElem?_eq_some_iff.mp h).1
  have s1 : Same F (upd F p (.lst vs)) := same_upd h3
  refine ⟨upd F p (.lst vs), s1, r.f0.trans s1, fun b o z => ?_, r.h0, fun q hq => ?_, fun j y q => ?_, fun j y q => ?_, fun j k as bs q hjk q1 q2 q3 q4 => ?_, fun j y q => ?_, fun j k as bs q hjk q1 q2 q3 q4 => ?_⟩
  · by_cases w : b = p
    · subst w; rw [upd_same] at z; cases z; exact h2
    · rw [upd_ne w] at z; exact r.fh _ _ z
  · have : q ≠ p := fun w => by subst w; exact B.nb _ hq h4
    rw [upd_ne this]; exact r.nf q hq
  · by_cases z : i = j
    · subst z
      rw [List.getElem?_set_self wl] at q
      cases q
      exact ⟨_, h1, den_lst (SqL.of upd_same) (DenL.mono s1 _ _ h5)⟩
    · rw [List.getElem?_set_ne z] at q
      obtain ⟨v, a, b⟩ := r.dv j y q
      exact ⟨v, a, Den.mono s1 _ _ b⟩
  · by_cases z : i = j
    · subst z; rw [List.getElem?_set_self wl] at q; cases q
    · rw [List.getElem?_set_ne z] at q
      obtain ⟨p2, us, g1, g2, g3, g4, g5⟩ := r.ov j y q
      have : p2 ≠ p := fun w => by subst w; exact r.ne j i y xs p2 (Ne.symm z) q h g1 h1
      exact ⟨p2, us, g1, g2, by rw [upd_ne this]; exact g3, g4, DenL.mono s1 _ _ g5⟩
  · have ownAt : ∀ (j : Nat) (zs : List D), (e.set i (some (.d (.lst xs))))[j]? = some (some (.own zs)) → e[j]? = some (some (.own zs)) := fun j zs q => by
      by_cases z : i = j
      · subst z; rw [List.getElem?_set_self wl] at q; cases q
      · rw [List.getElem?_set_ne z] at q; exact q
    exact r.ne j k as bs q hjk (ownAt j as q1) (ownAt k bs q2) q3 q4
  · have z : i ≠ j := set_dic_ne (fun _ w => by cases w) q
    rw [List.getElem?_set_ne z] at q
    obtain ⟨p2, ep, us, ws, g1, g2, g3, g4, g5, g6⟩ := r.mv j y q
    have : p2 ≠ p := fun w => by subst w; rw [h2] at g2; cases g2
    exact ⟨p2, ep, us, ws, g1, g2, by rw [upd_ne this]; exact g3, g4, DenL.mono s1 _ _ g5, DenL.mono s1 _ _ g6⟩
  · have z1 := set_dic_ne (fun _ w => by cases w) q1
    have z2 := set_dic_ne (fun _ w => by cases w) q2
    rw [List.getElem?_set_ne z1] at q1
    rw [List.getElem?_set_ne z2] at q2
    exact r.nm j k as bs q hjk q1 q2 q3 q4
end
end L2.L3
set_option Elab.async false
set_option linter.all false
set_option maxRecDepth 100000
set_option maxHeartbeats 4000000
namespace L2.L3
open PySem PySem.Spec PyProof.Rows
def notStar : Expr → Bool
  | .Starred _ _ => false
  | _ => true
theorem star_of {e : Expr} {es : List Expr} {env : Env} (h : notStar e = true) : starEach (e :: es) env = (false, eval e env) :: starEach es env := by
  cases e <;> first | rfl | cases h
abbrev TD := En → (D → Prop) → Prop
abbrev TB := En → (Bool → Prop) → Prop
abbrev TDs := En → (List D → Prop) → Prop
structure Ends3 where
  nx : En → Prop
  rt : D → Prop
  bk : En → Prop := fun _ => False
  ct : En → Prop := fun _ => False
abbrev TS3 := Ends3 → En → Prop
def wE (X : Cx) (e : Expr) : TE := fun σ H Q => ∀ (pins : List (Addr × Obj)) (s : Shared), Inv X pins σ H s → wpAny (model X.prog X.w) X.A (eval e X.env) (EP X pins σ Q) X.xe s
def wT (X : Cx) (e : Expr) : TT := fun σ H Q => ∀ (pins : List (Addr × Obj)) (s : Shared), Inv X pins σ H s → wpAny (model X.prog X.w) X.A (isTrue e X.env (eval e X.env)) (TP X pins σ Q) X.xe s
def wW (X : Cx) (e : Expr) : TT := fun σ H Q => ∀ (whole : Sem Value) (pins : List (Addr × Obj)) (s : Shared), Inv X pins σ H s → wpAny (model X.prog X.w) X.A (isTrue e X.env whole) (TP X pins σ Q) X.xe s
def wA (X : Cx) (es : List Expr) : TA := fun σ H Q => ∀ (pos : Pos) (pins : List (Addr × Obj)) (s : Shared), Inv X pins σ H s → wpAny (model X.prog X.w) X.A (spliced (backTo pos (starEach es X.env))) (AP X pins σ Q) X.xe s
def wS (X : Cx) (st : Stmt) : TS := fun D σ H => ∀ (pins : List (Addr × Obj)) (s : Shared), Inv X pins σ H s → wpAny (model X.prog X.w) X.A (exec st X.env) (SP X pins D) X.xe s
def wSs (X : Cx) (st : List Stmt) : TS := fun D σ H => ∀ (pins : List (Addr × Obj)) (s : Shared), Inv X pins σ H s → wpAny (model X.prog X.w) X.A (execs st X.env) (SP X pins D) X.xe s
section
variable {X : Cx} {e : Expr} {es : List Expr} {st : Stmt} {sts : List Stmt} {σ : St} {H : Hp}
theorem pe_w : PE X e (wE X e) := fun pins s σ H Q I h => h pins s I
theorem pt_w : PT X e (wT X e) := fun pins s σ H Q I h => h pins s I
theorem pw_w : PW X e (wW X e) := fun wh pins s σ H Q I h => h wh pins s I
theorem pa_w : PA X es (wA X es) := fun pos pins s σ H Q I h => h pos pins s I
theorem ps_w : PS X st (wS X st) := fun pins s σ H D I h => h pins s I
theorem pss_w : PSs X sts (wSs X sts) := fun pins s σ H D I h => h pins s I
theorem wE_of {te : TE} {Q : VK} (h : PE X e te) (q : te σ H Q) : wE X e σ H Q := fun pins s I => h pins s σ H Q I q
theorem wT_of {te : TT} {Q : Bool → Hp → Prop} (h : PT X e te) (q : te σ H Q) : wT X e σ H Q := fun pins s I => h pins s σ H Q I q
theorem wW_of {te : TT} {Q : Bool → Hp → Prop} (h : PW X e te) (q : te σ H Q) : wW X e σ H Q := fun wh pins s I => h wh pins s σ H Q I q
theorem wA_of {te : TA} {Q : List V → Hp → Prop} (h : PA X es te) (q : te σ H Q) : wA X es σ H Q := fun pos pins s I => h pos pins s σ H Q I q
theorem wS_of {te : TS} {D : Ends} (h : PS X st te) (q : te D σ H) : wS X st D σ H := fun pins s I => h pins s σ H D I q
theorem wSs_of {te : TS} {D : Ends} (h : PSs X sts te) (q : te D σ H) : wSs X sts D σ H := fun pins s I => h pins s σ H D I q
theorem wE_mono {Q Q' : VK} (h : wE X e σ H Q) (i : ∀ v H', Q v H' → Q' v H') : wE X e σ H Q' := fun pins s I => thn (h pins s I) fun _ _ ⟨v, H', I', r, q⟩ => ⟨v, H', I', r, i v H' q⟩
theorem wT_mono {Q Q' : Bool → Hp → Prop} (h : wT X e σ H Q) (i : ∀ v H', Q v H' → Q' v H') : wT X e σ H Q' := fun pins s I => thn (h pins s I) fun b _ ⟨H', I', q⟩ => ⟨H', I', i b H' q⟩
theorem wW_mono {Q Q' : Bool → Hp → Prop} (h : wW X e σ H Q) (i : ∀ v H', Q v H' → Q' v H') : wW X e σ H Q' := fun wh pins s I => thn (h wh pins s I) fun b _ ⟨H', I', q⟩ => ⟨H', I', i b H' q⟩
theorem wA_mono {Q Q' : List V → Hp → Prop} (h : wA X es σ H Q) (i : ∀ v H', Q v H' → Q' v H') : wA X es σ H Q' := fun pos pins s I => thn (h pos pins s I) fun _ _ ⟨v, H', I', r, q⟩ => ⟨v, H', I', r, i v H' q⟩
theorem SP_mono {pins : List (Addr × Obj)} {D D' : Ends} {f : Flow} {s' : Shared} (h : SP X pins D f s') (nx : ∀ σ H, D.nx σ H → D'.nx σ H) (rt : ∀ v H, D.rt v H → D'.rt v H) (bk : ∀ σ H, D.bk σ H → D'.bk σ H) (ct : ∀ σ H, D.ct σ H → D'.ct σ H) : SP X pins D' f s' := by
  cases f with
  | next => obtain ⟨σ', H', I, q⟩ := h; exact ⟨σ', H', I, nx _ _ q⟩
  | brk => obtain ⟨σ', H', I, q⟩ := h; exact ⟨σ', H', I, bk _ _ q⟩
  | cont => obtain ⟨σ', H', I, q⟩ := h; exact ⟨σ', H', I, ct _ _ q⟩
  | ret u => obtain ⟨v, σ', H', I, r, q⟩ := h; exact ⟨v, σ', H', I, r, rt _ _ q⟩
theorem wS_mono {D D' : Ends} (h : wS X st D σ H) (nx : ∀ σ H, D.nx σ H → D'.nx σ H) (rt : ∀ v H, D.rt v H → D'.rt v H) (bk : ∀ σ H, D.bk σ H → D'.bk σ H) (ct : ∀ σ H, D.ct σ H → D'.ct σ H) : wS X st D' σ H :=
  fun pins s I => thn (h pins s I) fun _ _ q => SP_mono q nx rt bk ct
theorem wSs_mono {D D' : Ends} (h : wSs X sts D σ H) (nx : ∀ σ H, D.nx σ H → D'.nx σ H) (rt : ∀ v H, D.rt v H → D'.rt v H) (bk : ∀ σ H, D.bk σ H → D'.bk σ H) (ct : ∀ σ H, D.ct σ H → D'.ct σ H) : wSs X sts D' σ H :=
  fun pins s I => thn (h pins s I) fun _ _ q => SP_mono q nx rt bk ct
end
def RV (X : Cx) (B : Base) (σ : St) (env : En) (F : Hp) (Q : D → Prop) : VK := fun v H' => ∃ F' d, Rep X.K B F' H' σ env ∧ Same F F' ∧ Den X.K F' d v ∧ Q d
def RB (X : Cx) (B : Base) (σ : St) (env : En) (F : Hp) (Q : Bool → Prop) : Bool → Hp → Prop := fun b H' => ∃ F', Rep X.K B F' H' σ env ∧ Same F F' ∧ Q b
def RA (X : Cx) (B : Base) (σ : St) (env : En) (F : Hp) (Q : List D → Prop) : List V → Hp → Prop := fun vs H' => ∃ F' ds, Rep X.K B F' H' σ env ∧ Same F F' ∧ DenL X.K F' ds vs ∧ Q ds
def RS (X : Cx) (B : Base) (D : Ends3) : Ends where
  nx := fun σ' H' => ∃ F' env', Rep X.K B F' H' σ' env' ∧ D.nx env'
  rt := fun v H' => ∃ F' d, Rep X.K B F' H' [] [] ∧ Den X.K F' d v ∧ D.rt d
  bk := fun σ' H' => ∃ F' env', Rep X.K B F' H' σ' env' ∧ D.bk env'
  ct := fun σ' H' => ∃ F' env', Rep X.K B F' H' σ' env' ∧ D.ct env'
structure QE (X : Cx) (e : Expr) (t : TD) : Prop where
  of ::
  run : ∀ (B : Base) (σ : St) (F H : Hp) (env : En) (Q : D → Prop), Rep X.K B F H σ env → t env Q → wE X e σ H (RV X B σ env F Q)
instance {X : Cx} {e : Expr} {t : TD} : CoeFun (QE X e t) (fun _ => ∀ (B : Base) (σ : St) (F H : Hp) (env : En) (Q : D → Prop), Rep X.K B F H σ env → t env Q → wE X e σ H (RV X B σ env F Q)) := ⟨QE.run⟩
structure QT (X : Cx) (e : Expr) (t : TB) : Prop where
  of ::
  run : ∀ (B : Base) (σ : St) (F H : Hp) (env : En) (Q : Bool → Prop), Rep X.K B F H σ env → t env Q → wT X e σ H (RB X B σ env F Q)
instance {X : Cx} {e : Expr} {t : TB} : CoeFun (QT X e t) (fun _ => ∀ (B : Base) (σ : St) (F H : Hp) (env : En) (Q : Bool → Prop), Rep X.K B F H σ env → t env Q → wT X e σ H (RB X B σ env F Q)) := ⟨QT.run⟩
structure QW (X : Cx) (e : Expr) (t : TB) : Prop where
  of ::
  run : ∀ (B : Base) (σ : St) (F H : Hp) (env : En) (Q : Bool → Prop), Rep X.K B F H σ env → t env Q → wW X e σ H (RB X B σ env F Q)
instance {X : Cx} {e : Expr} {t : TB} : CoeFun (QW X e t) (fun _ => ∀ (B : Base) (σ : St) (F H : Hp) (env : En) (Q : Bool → Prop), Rep X.K B F H σ env → t env Q → wW X e σ H (RB X B σ env F Q)) := ⟨QW.run⟩
structure QA (X : Cx) (es : List Expr) (t : TDs) : Prop where
  of ::
  run : ∀ (B : Base) (σ : St) (F H : Hp) (env : En) (Q : List D → Prop), Rep X.K B F H σ env → t env Q → wA X es σ H (RA X B σ env F Q)
instance {X : Cx} {es : List Expr} {t : TDs} : CoeFun (QA X es t) (fun _ => ∀ (B : Base) (σ : St) (F H : Hp) (env : En) (Q : List D → Prop), Rep X.K B F H σ env → t env Q → wA X es σ H (RA X B σ env F Q)) := ⟨QA.run⟩
structure QS (X : Cx) (st : Stmt) (t : TS3) : Prop where
  of ::
  run : ∀ (B : Base) (σ : St) (F H : Hp) (env : En) (D : Ends3), Rep X.K B F H σ env → t D env → wS X st (RS X B D) σ H
instance {X : Cx} {st : Stmt} {t : TS3} : CoeFun (QS X st t) (fun _ => ∀ (B : Base) (σ : St) (F H : Hp) (env : En) (D : Ends3), Rep X.K B F H σ env → t D env → wS X st (RS X B D) σ H) := ⟨QS.run⟩
structure QSs (X : Cx) (st : List Stmt) (t : TS3) : Prop where
  of ::
  run : ∀ (B : Base) (σ : St) (F H : Hp) (env : En) (D : Ends3), Rep X.K B F H σ env → t D env → wSs X st (RS X B D) σ H
instance {X : Cx} {st : List Stmt} {t : TS3} : CoeFun (QSs X st t) (fun _ => ∀ (B : Base) (σ : St) (F H : Hp) (env : En) (D : Ends3), Rep X.K B F H σ env → t D env → wSs X st (RS X B D) σ H) := ⟨QSs.run⟩
section
variable {X : Cx} {a b c e : Expr} {es : List Expr} {ta tb tc : TD} {tA tB' : TB} {ts : TDs} {pos : Pos} {rest : List Expr}
def cVar (i : Nat) : TD := fun env Q => ∃ x, env[i]? = some (some (.d x)) ∧ Q x
def cC (x : D) : TD := fun _ Q => Q x
theorem qv (i : Nat) {x : Str} {pos : Pos} (hN : X.N[i]? = some x := by rfl) (hv : Vis X.env.scope x := by first | exact Or.inl rfl | exact Or.inr (Or.inl rfl) | exact Or.inr (Or.inr rfl)) (hd : (x == ("__debug__" : Str)) = false := by decide)
    (hcd : (x == ("__classdict__" : Str)) = false := by decide) : QE X (.Name x pos) (cVar i) := by
  refine ⟨?_⟩
  intro B σ F H env Q r ⟨x, hx, q⟩
  obtain ⟨v, hv', hd'⟩ := r.dv i x hx
  exact wE_of (pe_var hN hv hd hcd) ⟨v, hv', F, x, r, Same.refl _, hd', q⟩
theorem qc {te : TE} {v : V} {x : D} (h : PE X e (tC v)) (hd : ∀ F, Den X.K F x v) : QE X e (cC x) := ⟨fun B σ F H env Q r q => wE_of h ⟨F, x, r, Same.refl _, hd F, q⟩⟩
theorem qint {i j pos} : QE X (.Constant (.int i) j pos) (cC (.int i)) := qc (te := tC (.int i)) pe_int fun _ => den_int
theorem qbl {b j pos} : QE X (.Constant (.bool b) j pos) (cC (.bl b)) := qc (te := tC (.bl b)) pe_bl fun _ => den_bl
theorem qnon {j pos} : QE X (.Constant .none j pos) (cC .non) := qc (te := tC .non) pe_non fun _ => den_non
theorem qstr {x j pos} : QE X (.Constant (.str x) j pos) (cC (.str x)) := qc (te := tC (.str x)) pe_str fun _ => den_str
theorem qty {x : Str} {n : String} {pos : Pos} (hg : Gl X x) (hm : X.mg x = none) (hv : bootBuiltins x = some (.type n)) (hn : x ≠ "__name__" := by decide) (hd : (x == ("__debug__" : Str)) = false := by decide) : QE X (.Name x pos) (cC (.ty n)) :=
  qc (te := tC (.ty n)) (pe_bltn (v := .ty n) hg hm hv rfl hn hd) fun _ => den_ty
def Kont (X : Cx) (B : Base) (σ : St) (env : En) (F : Hp) (Q : D → Prop) (Z : VK) : Prop := ∀ (v : V) (H' F' : Hp) (d : D), Rep X.K B F' H' σ env → Same F F' → Den X.K F' d v → Q d → Z v H'
def Op3 (X : Cx) (r : R2) (f : D → D → (D → Prop) → Prop) : Prop := ∀ (B : Base) (σ : St) (F H : Hp) (env : En) (Q : D → Prop) (d d' : D) (x y : V) (Z : VK), Rep X.K B F H σ env → Den X.K F d x → Den X.K F d' y → Kont X B σ env F Q Z → f d d' Q → r x y H Z
def cOp (f : D → D → (D → Prop) → Prop) (ta tb : TD) : TD := fun env Q => ta env fun x => tb env fun y => f x y Q
theorem RV.weaken {B : Base} {σ : St} {env : En} {F F' : Hp} {Q : D → Prop} (s : Same F F') {v : V} {H : Hp} (h : RV X B σ env F' Q v H) : RV X B σ env F Q v H := by
  obtain ⟨G, d, r, s', hd, q⟩ := h
  exact ⟨G, d, r, s.trans s', hd, q⟩
theorem two {r : R2} {f : D → D → (D → Prop) → Prop} (hf : Op3 X r f) (ha : QE X a ta) (hb : QE X b tb) {B : Base} {σ : St} {F H : Hp} {env : En} {Q : D → Prop} {Z : VK} (rp : Rep X.K B F H σ env) (hz : Kont X B σ env F Q Z) (h : cOp f ta tb env Q) :
    tOp r (wE X a) (wE X b) σ H Z := by
  refine wE_mono (ha B σ F H env _ rp h) fun x H1 ⟨F1, d, r1, s1, d1, q1⟩ => ?_
  refine wE_mono (hb B σ F1 H1 env _ r1 q1) fun y H2 ⟨F2, d', r2, s2, d2, q2⟩ => ?_
  exact hf B σ F2 H2 env Q d d' x y Z r2 (Den.mono s2 _ _ d1) d2 (fun v H' F' d' r' s' => hz v H' F' d' r' ((s1.trans s2).trans s')) q2
theorem kRV {B : Base} {σ : St} {env : En} {F : Hp} {Q : D → Prop} : Kont X B σ env F Q (RV X B σ env F Q) := fun v H' F' d r s hd q => ⟨F', d, r, s, hd, q⟩
theorem q_op {op : Operator} {r : R2} {f : D → D → (D → Prop) → Prop} (ho : OpR X (binaryOp op) r) (hf : Op3 X r f) (ha : QE X a ta) (hb : QE X b tb) : QE X (.BinOp a op b pos) (cOp f ta tb) :=
  ⟨fun B σ F H env Q rp h => wE_of (pe_op ho pe_w pe_w) (two hf ha hb rp kRV h)⟩
theorem q_cmp {op : CmpOp} {r : R2} {f : D → D → (D → Prop) → Prop} (ho : OpR X (compareOp op) r) (hf : Op3 X r f) (ha : QE X a ta) (hb : QE X b tb) (hm : behindInMarks op b = false) : QE X (.Compare a [op] [b] pos) (cOp f ta tb) :=
  ⟨fun B σ F H env Q rp h => wE_of (pe_cmpR ho pe_w pe_w hm) (two hf ha hb rp kRV h)⟩
def cTest (t : TD) : TB := fun env Q => t env fun x => ∃ k, x = .bl k ∧ Q k
theorem den_bl_inv {K : PySem.W.Frag} {F : Hp} {k : Bool} {v : V} (h : Den K F (.bl k) v) : v = .bl k := by simpa only [Den] using h
theorem qt_cmp {op : CmpOp} {r : R2} {f : D → D → (D → Prop) → Prop} (ho : OpR X (compareOp op) r) (hf : Op3 X r f) (ha : QE X a ta) (hb : QE X b tb) (hm : behindInMarks op b = false) : QT X (.Compare a [op] [b] pos) (cTest (cOp f ta tb)) := by
  refine ⟨?_⟩
  intro B σ F H env Q rp h
  refine wT_of (pt_cmpR ho pe_w pe_w hm) ?_
  show tOp r (wE X a) (wE X b) σ H fun x H' => ∃ k, x = .bl k ∧ RB X B σ env F Q k H'
  refine two hf ha hb rp (fun v H' F' d r' s' hd q => ?_) h
  obtain ⟨k, rfl, q⟩ := q
  exact ⟨k, den_bl_inv hd, F', r', s', q⟩
theorem qt_val {t : TD} (h : QE X e t) (he : ∀ whole, isTrue e X.env whole = (do let v ← whole; standAt e.pos; holding [v] (truthy v)) := by intro _; rfl) : QT X e (cTest t) := by
  refine ⟨?_⟩
  intro B σ F H env Q rp hq
  refine wT_of (pt_val pe_w he) ?_
  refine wE_mono (h B σ F H env _ rp hq) fun v H' w => ?_
  obtain ⟨F', d, r', s', hd, k, rfl, q⟩ := w
  exact ⟨k, den_bl_inv hd, F', r', s', q⟩
def cAnd (t u : TB) : TB := fun env Q => t env fun k => if k = true then u env Q else Q false
def cOr (t u : TB) : TB := fun env Q => t env fun k => if k = true then Q true else u env Q
def cNot (t : TB) : TB := fun env Q => t env fun k => Q (!k)
theorem QW.t (h : QW X e tA) : QT X e tA := ⟨fun B σ F H env Q rp hq pins s I => h B σ F H env Q rp hq _ pins s I⟩
theorem qw_and1 (ha : QT X a tA) : QW X (.BoolOp .And [a] pos) tA := ⟨fun B σ F H env Q rp h => wW_of (pw_and1 pt_w) (ha B σ F H env Q rp h)⟩
theorem qw_or1 (ha : QT X a tA) : QW X (.BoolOp .Or [a] pos) tA := ⟨fun B σ F H env Q rp h => wW_of (pw_or1 pt_w) (ha B σ F H env Q rp h)⟩
theorem qw_and (ha : QT X a tA) (hb : QW X (.BoolOp .And (b :: rest) pos) tB') : QW X (.BoolOp .And (a :: b :: rest) pos) (cAnd tA tB') := by
  refine ⟨?_⟩
  intro B σ F H env Q rp h
  refine wW_of (pw_and pt_w pw_w) ?_
  refine wT_mono (ha B σ F H env _ rp h) fun k H1 ⟨F1, r1, s1, q1⟩ => ?_
  cases k with
  | true => exact wW_mono (hb B σ F1 H1 env Q r1 q1) fun k2 H2 ⟨F2, r2, s2, q2⟩ => ⟨F2, r2, s1.trans s2, q2⟩
  | false => exact ⟨F1, r1, s1, q1⟩
theorem qw_or (ha : QT X a tA) (hb : QW X (.BoolOp .Or (b :: rest) pos) tB') : QW X (.BoolOp .Or (a :: b :: rest) pos) (cOr tA tB') := by
  refine ⟨?_⟩
  intro B σ F H env Q rp h
  refine wW_of (pw_or pt_w pw_w) ?_
  refine wT_mono (ha B σ F H env _ rp h) fun k H1 ⟨F1, r1, s1, q1⟩ => ?_
  cases k with
  | false => exact wW_mono (hb B σ F1 H1 env Q r1 q1) fun k2 H2 ⟨F2, r2, s2, q2⟩ => ⟨F2, r2, s1.trans s2, q2⟩
  | true => exact ⟨F1, r1, s1, q1⟩
theorem qt_not (ha : QT X a tA) : QT X (.UnaryOp .Not a pos) (cNot tA) := ⟨fun B σ F H env Q rp h => wT_of (pt_not pt_w) (wT_mono (ha B σ F H env _ rp h) fun k H1 q => q)⟩
def cNil : TDs := fun _ Q => Q []
def cCons (ta : TD) (tr : TDs) : TDs := fun env Q => ta env fun x => tr env fun xs => Q (x :: xs)
theorem qa_nil : QA X [] cNil := ⟨fun B σ F H env Q rp h => wA_of pa_nil ⟨F, [], rp, Same.refl _, denL_nil, h⟩⟩
theorem qa_cons (ha : QE X e ta) (hr : QA X es ts) (hs : starEach (e :: es) X.env = (false, eval e X.env) :: starEach es X.env := by exact star_of rfl) : QA X (e :: es) (cCons ta ts) := by
  refine ⟨?_⟩
  intro B σ F H env Q rp h
  refine wA_of (pa_cons pe_w pa_w hs) ?_
  refine wE_mono (ha B σ F H env _ rp h) fun x H1 ⟨F1, d, r1, s1, d1, q1⟩ => ?_
  exact wA_mono (hr B σ F1 H1 env _ r1 q1) fun xs H2 ⟨F2, ds, r2, s2, d2, q2⟩ => ⟨F2, d :: ds, r2, s1.trans s2, denL_cons (Den.mono s2 _ _ d1) d2, q2⟩
def cTup (t : TDs) : TD := fun env Q => t env fun xs => xs.length ≤ sizeLine ∧ Q (.tup xs)
def cLst (t : TDs) : TD := fun env Q => t env fun xs => xs.length ≤ sizeLine ∧ Q (.lst xs)
theorem RV.newTup {B : Base} {σ : St} {env : En} {F H : Hp} {Q : D → Prop} {ds : List D} {vs : List V} (r : Rep X.K B F H σ env) (hd : DenL X.K F ds vs) (q : Q (.tup ds)) : ∀ p, H p = none → RV X B σ env F Q (.ref p) (upd H p (.tup vs)) := fun p hp => by
  obtain ⟨r2, s2⟩ := r.laid (o := .tup vs) hp
  exact ⟨_, _, r2, s2, den_tup (SqT.of upd_same) (DenL.mono s2 _ _ hd), q⟩
theorem RV.newLst {B : Base} {σ : St} {env : En} {F H : Hp} {Q : D → Prop} {ds : List D} {vs : List V} (r : Rep X.K B F H σ env) (hd : DenL X.K F ds vs) (q : Q (.lst ds)) : ∀ p, H p = none → RV X B σ env F Q (.ref p) (upd H p (.lst vs)) := fun p hp => by
  obtain ⟨r2, s2⟩ := r.laid (o := .lst vs) hp
  exact ⟨_, _, r2, s2, den_lst (SqL.of upd_same) (DenL.mono s2 _ _ hd), q⟩
theorem qe_tup {x1} (h : QA X es ts) : QE X (.Tuple es x1 pos) (cTup ts) := by
  refine ⟨?_⟩
  intro B σ F H env Q rp hq
  refine wE_of (pe_tup pa_w) ?_
  refine wA_mono (h B σ F H env _ rp hq) fun vs H1 ⟨F1, ds, r1, s1, d1, z, q1⟩ => ⟨by rw [← d1.length]; exact z, fun p hp => (RV.newTup r1 d1 q1 p hp).weaken s1⟩
theorem qe_lst (h : QA X es ts) : QE X (.List es pos) (cLst ts) := by
  refine ⟨?_⟩
  intro B σ F H env Q rp hq
  refine wE_of (pe_lst pa_w) ?_
  refine wA_mono (h B σ F H env _ rp hq) fun vs H1 ⟨F1, ds, r1, s1, d1, z, q1⟩ => ⟨by rw [← d1.length]; exact z, fun p hp => (RV.newLst r1 d1 q1 p hp).weaken s1⟩
end
end L2.L3
set_option Elab.async false
set_option linter.all false
set_option maxRecDepth 100000
set_option maxHeartbeats 4000000
namespace L2.L3
open PySem PySem.Spec PyProof.Rows
mutual
def eqD : D → D → Bool
  | .non, .non => true
  | .bl a, .bl b => a == b
  | .bl a, .int b => (if a then 1 else 0) == b
  | .int a, .bl b => a == (if b then 1 else 0)
  | .int a, .int b => a == b
  | .str a, .str b => a == b
  | .tup a, .tup b => eqDs a b
  | .lst a, .lst b => eqDs a b
  | _, _ => false
def eqDs : List D → List D → Bool
  | [], [] => true
  | a :: as, b :: bs => eqD a b && eqDs as bs
  | _, _ => false
end
mutual
def dep : D → Nat
  | .tup ds => depL ds + 1
  | .lst ds => depL ds + 1
  | .dct _ _ => 1000
  | .obj _ => 1000
  | .ty _ => 1000
  | .exc _ => 1000
  | .cls _ => 1000
  | _ => 0
def depL : List D → Nat
  | [] => 0
  | d :: ds => max (dep d) (depL ds)
end
def eAt (ds es : List D) (j : Nat) : Bool := match ds[j]?, es[j]? with
  | some a, some b => eqD a b
  | _, _ => true
theorem range_all_succ (n : Nat) (e : Nat → Bool) : (List.range (n + 1)).all e = (e 0 && (List.range n).all fun i => e (i + 1)) := by
  rw [List.range_succ_eq_map, List.all_cons, List.all_map]; rfl
theorem all_eAt : ∀ ds es : List D, ((List.range (min ds.length es.length)).all (eAt ds es) && (ds.length == es.length)) = eqDs ds es
  | [], [] => by simp [eqDs]
  | [], b :: es => by simp [eqDs]
  | a :: ds, [] => by simp [eqDs]
  | a :: ds, b :: es => by
    have ih := all_eAt ds es
    rw [List.length_cons, List.length_cons, Nat.succ_min_succ, range_all_succ]
    have e1 : eAt (a :: ds) (b :: es) 0 = eqD a b := by simp [eAt]
    have e2 : (fun i => eAt (a :: ds) (b :: es) (i + 1)) = eAt ds es := by funext i; simp [eAt]
    have e3 : (ds.length + 1 == es.length + 1) = (ds.length == es.length) := by
      rw [Bool.eq_iff_iff]; simp
    rw [e1, e2, e3, Bool.and_assoc, ih, eqDs]
section
variable {X : Cx} {pins : List (Addr × Obj)} {σ : St} {H F : Hp} {s : Shared}
theorem Inv.tupNoLst (I : Inv X pins σ H s) {a : Addr} {xs ys : List V} (h : SqT X.K H a xs) (h' : SqL X.K H a ys) : False := by
  obtain ⟨_, _, ⟨o, e1, c1, _⟩, _⟩ := I.tuple h
  obtain ⟨_, _, ⟨o2, _, e2, c2, _⟩, _⟩ := I.list h'
  rw [e1] at e2; cases e2; rw [c1] at c2; injection c2 with z; exact absurd z (by decide)
mutual
theorem den_inj (I : Inv X pins σ H s) (fh : Same F H) : ∀ (d d' : D) (v : V), dep d < 1000 → dep d' < 1000 → Den X.K F d v → Den X.K F d' v → eqD d d' = true
  | .non, d', v, h1, h2, e1, e2 => by
    simp only [Den] at e1; subst e1
    cases d' <;> simp only [Den] at e2 <;> first | rfl | (obtain ⟨a, vs, z, _⟩ := e2; cases z; done) | (obtain ⟨a, z, _⟩ := e2; cases z; done) | cases e2
  | .bl b, d', v, h1, h2, e1, e2 => by
    simp only [Den] at e1; subst e1
    cases d' <;> simp only [Den] at e2 <;> first | (obtain ⟨a, vs, z, _⟩ := e2; cases z; done) | (obtain ⟨a, z, _⟩ := e2; cases z; done) | (cases e2; simp [eqD]; done) | cases e2
  | .int b, d', v, h1, h2, e1, e2 => by
    simp only [Den] at e1; subst e1
    cases d' <;> simp only [Den] at e2 <;> first | (obtain ⟨a, vs, z, _⟩ := e2; cases z; done) | (obtain ⟨a, z, _⟩ := e2; cases z; done) | (cases e2; simp [eqD]; done) | cases e2
  | .str b, d', v, h1, h2, e1, e2 => by
    simp only [Den] at e1; subst e1
    cases d' <;> simp only [Den] at e2 <;> first | (obtain ⟨a, vs, z, _⟩ := e2; cases z; done) | (obtain ⟨a, z, _⟩ := e2; cases z; done) | (cases e2; simp [eqD]; done) | cases e2
  | .ty b, d', v, h1, h2, e1, e2 => by simp [dep] at h1
  | .exc b, d', v, h1, h2, e1, e2 => by simp [dep] at h1
  | .cls b, d', v, h1, h2, e1, e2 => by simp [dep] at h1
  | .dct _ _, d', v, h1, h2, e1, e2 => by simp [dep] at h1
  | .obj _, d', v, h1, h2, e1, e2 => by simp [dep] at h1
  | .tup ds, d', v, h1, h2, e1, e2 => by
    simp only [Den] at e1
    obtain ⟨a, vs, rfl, q, r⟩ := e1
    cases d' with
    | tup es =>
      simp only [Den] at e2
      obtain ⟨a', us, z, q', r'⟩ := e2
      cases z
      have := I.tuple_inj (Same.seqT fh q) (Same.seqT fh q')
      subst this
      simp only [eqD]
      exact denL_inj I fh ds es vs (by simp [dep] at h1; omega) (by simp [dep] at h2; omega) r r'
    | lst es =>
      simp only [Den] at e2
      obtain ⟨a', us, z, q', r'⟩ := e2
      cases z
      exact (Inv.tupNoLst I (Same.seqT fh q) (fh.seq q')).elim
    | dct _ _ => simp [dep] at h2
    | obj _ => simp [dep] at h2
    | exc _ => simp [dep] at h2
    | cls _ => simp [dep] at h2
    | _ => simp only [Den] at e2; cases e2
  | .lst ds, d', v, h1, h2, e1, e2 => by
    simp only [Den] at e1
    obtain ⟨a, vs, rfl, q, r⟩ := e1
    cases d' with
    | lst es =>
      simp only [Den] at e2
      obtain ⟨a', us, z, q', r'⟩ := e2
      cases z
      have := I.list_inj (fh.seq q) (fh.seq q')
      subst this
      simp only [eqD]
      exact denL_inj I fh ds es vs (by simp [dep] at h1; omega) (by simp [dep] at h2; omega) r r'
    | tup es =>
      simp only [Den] at e2
      obtain ⟨a', us, z, q', r'⟩ := e2
      cases z
      exact (Inv.tupNoLst I (Same.seqT fh q') (fh.seq q)).elim
    | dct _ _ => simp [dep] at h2
    | obj _ => simp [dep] at h2
    | exc _ => simp [dep] at h2
    | cls _ => simp [dep] at h2
    | _ => simp only [Den] at e2; cases e2
theorem denL_inj (I : Inv X pins σ H s) (fh : Same F H) : ∀ (ds es : List D) (vs : List V), depL ds < 1000 → depL es < 1000 → DenL X.K F ds vs → DenL X.K F es vs → eqDs ds es = true
  | [], es, vs, h1, h2, e1, e2 => by
    simp only [DenL] at e1; subst e1
    cases es with
    | nil => rfl
    | cons _ _ => simp only [DenL] at e2; obtain ⟨_, _, z, _⟩ := e2; cases z
  | d :: ds, es, vs, h1, h2, e1, e2 => by
    simp only [DenL] at e1
    obtain ⟨v, r, rfl, a, b⟩ := e1
    cases es with
    | nil => simp only [DenL] at e2; cases e2
    | cons e es =>
      simp only [DenL] at e2
      obtain ⟨v', r', z, a', b'⟩ := e2
      cases z
      simp only [depL] at h1 h2
      simp only [eqDs, Bool.and_eq_true]
      exact ⟨den_inj I fh d e v (by omega) (by omega) a a', denL_inj I fh ds es r (by omega) (by omega) b b'⟩
end
theorem units_in1 (A : Around) : A.in1.units = A.units + 1 := rfl
def leafD : D → Bool
  | .non => true
  | .bl _ => true
  | .int _ => true
  | .str _ => true
  | _ => false
theorem rcLeaf (I : Inv X pins σ H s) (fh : Same F H) : ∀ (d d' : D) (A : Around) (x y : V) (u v : Value), leafD d = true → A.units + dep d < cLine → dep d' < 1000 → Den X.K F d x → Den X.K F d' y → RelV x u → RelV y v →
    SeqAt.RcAt A s u v (eqD d d') ∧ SeqAt.RcNeAt A s u v (!eqD d d')
  | .non, d', A, x, y, u, v, lf, hu, h2, e1, e2, r1, r2 => by
    simp only [Den] at e1; subst e1; cases r1
    have hu0 : A.units < cLine := by omega
    cases d' with
    | ty _ => simp [dep] at h2
    | dct _ _ => simp [dep] at h2
    | obj _ => simp [dep] at h2
    | exc _ => simp [dep] at h2
    | cls _ => simp [dep] at h2
    | non => simp only [Den] at e2; subst e2; cases r2; exact ⟨SeqAt.RcAt.none_none, SeqAt.RcNeAt.none_none⟩
    | bl b => simp only [Den] at e2; subst e2; cases r2; exact ⟨SeqAt.RcAt.none_bool b, SeqAt.RcNeAt.none_bool b⟩
    | int b => simp only [Den] at e2; subst e2; obtain ⟨t, rfl⟩ := r2; exact ⟨SeqAt.RcAt.none_int b t, SeqAt.RcNeAt.none_int b t⟩
    | str b => simp only [Den] at e2; subst e2; obtain ⟨t, rfl⟩ := r2; exact ⟨SeqAt.RcAt.none_str b t, SeqAt.RcNeAt.none_str b t⟩
    | tup es =>
      simp only [Den] at e2; obtain ⟨a, vs, rfl, q, r⟩ := e2; cases r2
      obtain ⟨its, rv, ht, hz⟩ := I.tuple (Same.seqT fh q)
      exact ⟨SeqAt.RcAt.none_tuple ht hu0, SeqAt.RcNeAt.none_tuple ht hu0⟩
    | lst es =>
      simp only [Den] at e2; obtain ⟨a, vs, rfl, q, r⟩ := e2; cases r2
      obtain ⟨its, rv, ht, hz⟩ := I.list (fh.seq q)
      exact ⟨SeqAt.RcAt.none_list ht.isList hu0, SeqAt.RcNeAt.none_list ht.isList hu0⟩
  | .bl b', d', A, x, y, u, v, lf, hu, h2, e1, e2, r1, r2 => by
    simp only [Den] at e1; subst e1; cases r1
    have hu0 : A.units < cLine := by omega
    cases d' with
    | ty _ => simp [dep] at h2
    | dct _ _ => simp [dep] at h2
    | obj _ => simp [dep] at h2
    | exc _ => simp [dep] at h2
    | cls _ => simp [dep] at h2
    | non => simp only [Den] at e2; subst e2; cases r2; exact ⟨SeqAt.RcAt.bool_none b', SeqAt.RcNeAt.bool_none b'⟩
    | bl b => simp only [Den] at e2; subst e2; cases r2; exact ⟨by simpa only [eqD] using SeqAt.RcAt.bool_bool b' b, by simpa only [eqD] using SeqAt.RcNeAt.bool_bool b' b⟩
    | int b => simp only [Den] at e2; subst e2; obtain ⟨t, rfl⟩ := r2; exact ⟨by simpa only [eqD] using SeqAt.RcAt.bool_int b' b t, by simpa only [eqD] using SeqAt.RcNeAt.bool_int b' b t⟩
    | str b => simp only [Den] at e2; subst e2; obtain ⟨t, rfl⟩ := r2; exact ⟨SeqAt.RcAt.bool_str b' b t, SeqAt.RcNeAt.bool_str b' b t⟩
    | tup es =>
      simp only [Den] at e2; obtain ⟨a, vs, rfl, q, r⟩ := e2; cases r2
      obtain ⟨its, rv, ht, hz⟩ := I.tuple (Same.seqT fh q)
      exact ⟨SeqAt.RcAt.bool_tuple b' ht hu0, SeqAt.RcNeAt.bool_tuple b' ht hu0⟩
    | lst es =>
      simp only [Den] at e2; obtain ⟨a, vs, rfl, q, r⟩ := e2; cases r2
      obtain ⟨its, rv, ht, hz⟩ := I.list (fh.seq q)
      exact ⟨SeqAt.RcAt.bool_list b' ht.isList hu0, SeqAt.RcNeAt.bool_list b' ht.isList hu0⟩
  | .int b', d', A, x, y, u, v, lf, hu, h2, e1, e2, r1, r2 => by
    simp only [Den] at e1; subst e1; obtain ⟨t', rfl⟩ := r1
    have hu0 : A.units < cLine := by omega
    cases d' with
    | ty _ => simp [dep] at h2
    | dct _ _ => simp [dep] at h2
    | obj _ => simp [dep] at h2
    | exc _ => simp [dep] at h2
    | cls _ => simp [dep] at h2
    | non => simp only [Den] at e2; subst e2; cases r2; exact ⟨SeqAt.RcAt.int_none b' t', SeqAt.RcNeAt.int_none b' t'⟩
    | bl b => simp only [Den] at e2; subst e2; cases r2; exact ⟨by simpa only [eqD] using SeqAt.RcAt.int_bool b' t' b, by simpa only [eqD] using SeqAt.RcNeAt.int_bool b' t' b⟩
    | int b => simp only [Den] at e2; subst e2; obtain ⟨t, rfl⟩ := r2; exact ⟨by simpa only [eqD] using SeqAt.RcAt.int_int b' t' b t, by simpa only [eqD] using SeqAt.RcNeAt.int_int b' t' b t⟩
    | str b => simp only [Den] at e2; subst e2; obtain ⟨t, rfl⟩ := r2; exact ⟨SeqAt.RcAt.int_str b' t' b t, SeqAt.RcNeAt.int_str b' t' b t⟩
    | tup es =>
      simp only [Den] at e2; obtain ⟨a, vs, rfl, q, r⟩ := e2; cases r2
      obtain ⟨its, rv, ht, hz⟩ := I.tuple (Same.seqT fh q)
      exact ⟨SeqAt.RcAt.int_tuple b' t' ht hu0, SeqAt.RcNeAt.int_tuple b' t' ht hu0⟩
    | lst es =>
      simp only [Den] at e2; obtain ⟨a, vs, rfl, q, r⟩ := e2; cases r2
      obtain ⟨its, rv, ht, hz⟩ := I.list (fh.seq q)
      exact ⟨SeqAt.RcAt.int_list b' t' ht.isList hu0, SeqAt.RcNeAt.int_list b' t' ht.isList hu0⟩
  | .str b', d', A, x, y, u, v, lf, hu, h2, e1, e2, r1, r2 => by
    simp only [Den] at e1; subst e1; obtain ⟨t', rfl⟩ := r1
    have hu0 : A.units < cLine := by omega
    cases d' with
    | ty _ => simp [dep] at h2
    | dct _ _ => simp [dep] at h2
    | obj _ => simp [dep] at h2
    | exc _ => simp [dep] at h2
    | cls _ => simp [dep] at h2
    | non => simp only [Den] at e2; subst e2; cases r2; exact ⟨SeqAt.RcAt.str_none b' t', SeqAt.RcNeAt.str_none b' t'⟩
    | bl b => simp only [Den] at e2; subst e2; cases r2; exact ⟨SeqAt.RcAt.str_bool b' t' b, SeqAt.RcNeAt.str_bool b' t' b⟩
    | int b => simp only [Den] at e2; subst e2; obtain ⟨t, rfl⟩ := r2; exact ⟨SeqAt.RcAt.str_int b' t' b t, SeqAt.RcNeAt.str_int b' t' b t⟩
    | str b => simp only [Den] at e2; subst e2; obtain ⟨t, rfl⟩ := r2; exact ⟨by simpa only [eqD] using SeqAt.RcAt.str_str b' t' b t, by simpa only [eqD] using SeqAt.RcNeAt.str_str b' t' b t⟩
    | tup es =>
      simp only [Den] at e2; obtain ⟨a, vs, rfl, q, r⟩ := e2; cases r2
      obtain ⟨its, rv, ht, hz⟩ := I.tuple (Same.seqT fh q)
      exact ⟨SeqAt.RcAt.str_tuple b' t' ht hu0, SeqAt.RcNeAt.str_tuple b' t' ht hu0⟩
    | lst es =>
      simp only [Den] at e2; obtain ⟨a, vs, rfl, q, r⟩ := e2; cases r2
      obtain ⟨its, rv, ht, hz⟩ := I.list (fh.seq q)
      exact ⟨SeqAt.RcAt.str_list b' t' ht.isList hu0, SeqAt.RcNeAt.str_list b' t' ht.isList hu0⟩
  | .ty _, d', A, x, y, u, v, lf, hu, h2, e1, e2, r1, r2 => (by cases lf)
  | .exc _, d', A, x, y, u, v, lf, hu, h2, e1, e2, r1, r2 => (by cases lf)
  | .cls _, d', A, x, y, u, v, lf, hu, h2, e1, e2, r1, r2 => (by cases lf)
  | .dct _ _, d', A, x, y, u, v, lf, hu, h2, e1, e2, r1, r2 => (by cases lf)
  | .obj _, d', A, x, y, u, v, lf, hu, h2, e1, e2, r1, r2 => (by cases lf)
  | .tup _, d', A, x, y, u, v, lf, hu, h2, e1, e2, r1, r2 => (by cases lf)
  | .lst _, d', A, x, y, u, v, lf, hu, h2, e1, e2, r1, r2 => (by cases lf)
theorem eqAt_of (I : Inv X pins σ H s) (fh : Same F H) (d d' : D) (A : Around) (x y : V) (u v : Value) (hu : A.units + dep d < cLine) (h1 : dep d < 1000) (h2 : dep d' < 1000) (e1 : Den X.K F d x) (e2 : Den X.K F d' y) (r1 : RelV x u) (r2 : RelV y v) (k : SeqAt.RcAt A s u v (eqD d d')) :
    SeqAt.EqAt A s u v (eqD d d') := by
  have hu0 : A.units < cLine := by omega
  by_cases z : u = v
  · subst z
    have : x = y := r1.inj r2
    subst this
    rw [den_inj I fh d d' x h1 h2 e1 e2]
    exact SeqAt.EqAt.same u
  · intro prog w E Q hq
    unfold eqBool
    refine wpAny_holding ?_
    refine wpAny_ite_split (fun hab => absurd (eq_of_beq hab) z) (fun _ => ?_)
    have nf : ∀ b t, u ≠ .float b t := fun b t w => by
      subst w
      cases x <;> first | (obtain ⟨_, q⟩ := r1; cases q; done) | (cases r1; done) | skip
      cases d <;> simp only [Den] at e1 <;> first | (cases e1; done) | (obtain ⟨_, _, z, _⟩ := e1; cases z; done) | (obtain ⟨_, z, _⟩ := e1; cases z; done)
    cases u <;> cases v <;> first | exact absurd rfl (nf _ _) | exact wpAny_bind (k prog w E _ (wpAny_truthy_bool hq))
theorem rcSeq (I : Inv X pins σ H s) (fh : Same F H) (ds0 : List D) (d d' : D) (A : Around) (x y : V) (u v : Value) (hl : d = .tup ds0 ∨ d = .lst ds0) (hu : A.units + dep d < cLine) (h1 : dep d < 1000) (h2 : dep d' < 1000) (e1 : Den X.K F d x) (e2 : Den X.K F d' y) (r1 : RelV x u) (r2 : RelV y v)
    (rec : ∀ (es : List D), (d' = .tup es ∨ d' = .lst es) → ∀ (vs1 vs : List V) (its1 its : List Value), DenL X.K F ds0 vs1 → DenL X.K F es vs → Vals vs1 its1 → Vals vs its → ∀ (j : Nat) (h1 : j < its1.length) (h2 : j < its.length), SeqAt.EqAt A.in1 s its1[j] its[j] (eAt ds0 es j)) :
    SeqAt.RcAt A s u v (eqD d d') ∧ SeqAt.RcNeAt A s u v (!eqD d d') := by
  cases d with
  | non => rcases hl with hl | hl <;> cases hl
  | bl _ => rcases hl with hl | hl <;> cases hl
  | int _ => rcases hl with hl | hl <;> cases hl
  | str _ => rcases hl with hl | hl <;> cases hl
  | ty _ => simp [dep] at h1
  | exc _ => simp [dep] at h1
  | cls _ => simp [dep] at h1
  | dct _ _ => simp [dep] at h1
  | obj _ => simp [dep] at h1
  | tup ds =>
    have z : ds = ds0 := by rcases hl with hl | hl <;> cases hl <;> rfl
    subst z
    simp only [Den] at e1; obtain ⟨a1, vs1, rfl, q1, g1⟩ := e1; cases r1
    obtain ⟨its1, rv1, ht1, hz1⟩ := I.tuple (Same.seqT fh q1)
    simp only [dep] at hu h1
    have hu0 : A.units < cLine := by omega
    cases d' with
    | ty _ => simp [dep] at h2
    | dct _ _ => simp [dep] at h2
    | obj _ => simp [dep] at h2
    | exc _ => simp [dep] at h2
    | cls _ => simp [dep] at h2
    | non => simp only [Den] at e2; subst e2; cases r2; exact ⟨SeqAt.RcAt.tuple_none ht1 hu0, SeqAt.RcNeAt.tuple_none ht1 hu0⟩
    | bl b => simp only [Den] at e2; subst e2; cases r2; exact ⟨SeqAt.RcAt.tuple_bool b ht1 hu0, SeqAt.RcNeAt.tuple_bool b ht1 hu0⟩
    | int b => simp only [Den] at e2; subst e2; obtain ⟨t, rfl⟩ := r2; exact ⟨SeqAt.RcAt.tuple_int b t ht1 hu0, SeqAt.RcNeAt.tuple_int b t ht1 hu0⟩
    | str b => simp only [Den] at e2; subst e2; obtain ⟨t, rfl⟩ := r2; exact ⟨SeqAt.RcAt.tuple_str b t ht1 hu0, SeqAt.RcNeAt.tuple_str b t ht1 hu0⟩
    | lst es =>
      simp only [Den] at e2; obtain ⟨a, vs, rfl, q, r⟩ := e2; cases r2
      obtain ⟨its, rv, ht, hz⟩ := I.list (fh.seq q)
      exact ⟨SeqAt.RcAt.tuple_list ht1 ht.isList hu0, SeqAt.RcNeAt.tuple_list ht1 ht.isList hu0⟩
    | tup es =>
      simp only [Den] at e2; obtain ⟨a, vs, rfl, q, r⟩ := e2; cases r2
      obtain ⟨its, rv, ht, hz⟩ := I.tuple (Same.seqT fh q)
      simp only [dep] at h2
      have he := rec es (.inl rfl) vs1 vs its1 its g1 r rv1 rv
      have l1 : its1.length = ds.length := by rw [g1.length, rv1.length]
      have l2 : its.length = es.length := by rw [r.length, rv.length]
      have k1 := SeqAt.RcAt.tuples (e := eAt ds es) ht1 ht hu0 (fun j h1 h2 => he j (by simpa using h1) (by simpa using h2))
      have k2 := SeqAt.RcNeAt.tuples (e := eAt ds es) ht1 ht hu0 (fun j h1 h2 => he j (by simpa using h1) (by simpa using h2))
      rw [List.size_toArray, List.size_toArray, l1, l2, all_eAt] at k1 k2
      exact ⟨by simpa only [eqD] using k1, by simpa only [eqD] using k2⟩
  | lst ds =>
    have z : ds = ds0 := by rcases hl with hl | hl <;> cases hl <;> rfl
    subst z
    simp only [Den] at e1; obtain ⟨a1, vs1, rfl, q1, g1⟩ := e1; cases r1
    obtain ⟨its1, rv1, ht1, hz1⟩ := I.list (fh.seq q1)
    simp only [dep] at hu h1
    have hu0 : A.units < cLine := by omega
    cases d' with
    | ty _ => simp [dep] at h2
    | dct _ _ => simp [dep] at h2
    | obj _ => simp [dep] at h2
    | exc _ => simp [dep] at h2
    | cls _ => simp [dep] at h2
    | non => simp only [Den] at e2; subst e2; cases r2; exact ⟨SeqAt.RcAt.list_none ht1.isList hu0, SeqAt.RcNeAt.list_none ht1.isList hu0⟩
    | bl b => simp only [Den] at e2; subst e2; cases r2; exact ⟨SeqAt.RcAt.list_bool b ht1.isList hu0, SeqAt.RcNeAt.list_bool b ht1.isList hu0⟩
    | int b => simp only [Den] at e2; subst e2; obtain ⟨t, rfl⟩ := r2; exact ⟨SeqAt.RcAt.list_int b t ht1.isList hu0, SeqAt.RcNeAt.list_int b t ht1.isList hu0⟩
    | str b => simp only [Den] at e2; subst e2; obtain ⟨t, rfl⟩ := r2; exact ⟨SeqAt.RcAt.list_str b t ht1.isList hu0, SeqAt.RcNeAt.list_str b t ht1.isList hu0⟩
    | tup es =>
      simp only [Den] at e2; obtain ⟨a, vs, rfl, q, r⟩ := e2; cases r2
      obtain ⟨its, rv, ht, hz⟩ := I.tuple (Same.seqT fh q)
      exact ⟨SeqAt.RcAt.list_tuple ht1.isList ht hu0, SeqAt.RcNeAt.list_tuple ht1.isList ht hu0⟩
    | lst es =>
      simp only [Den] at e2; obtain ⟨a, vs, rfl, q, r⟩ := e2; cases r2
      obtain ⟨its, rv, ht, hz⟩ := I.list (fh.seq q)
      simp only [dep] at h2
      have he := rec es (.inr rfl) vs1 vs its1 its g1 r rv1 rv
      have l1 : its1.length = ds.length := by rw [g1.length, rv1.length]
      have l2 : its.length = es.length := by rw [r.length, rv.length]
      simp only [eqD]
      rw [← all_eAt]
      by_cases hsz : ds.length = es.length
      · have k1 := SeqAt.RcAt.lists (e := eAt ds es) ht1.isList ht.isList (by simp [l1, l2, hsz]) hu0 (fun j h1 h2 => he j (by simpa using h1) (by simpa using h2))
        have k2 := SeqAt.RcNeAt.lists (e := eAt ds es) ht1.isList ht.isList (by simp [l1, l2, hsz]) hu0 (fun j h1 h2 => he j (by simpa using h1) (by simpa using h2))
        rw [List.size_toArray, l1] at k1 k2
        have e : (ds.length == es.length) = true := by simp [hsz]
        rw [e, Bool.and_true, ← hsz, Nat.min_self]
        exact ⟨k1, k2⟩
      · have e : (ds.length == es.length) = false := by simp [hsz]
        rw [e, Bool.and_false]
        have e2 : (its1.toArray.size != its.toArray.size) = true := by simp [l1, l2, hsz]
        exact ⟨SeqAt.RcAt.lists_lengths ht1.isList ht.isList e2 hu0, SeqAt.RcNeAt.lists_lengths ht1.isList ht.isList e2 hu0⟩
mutual
theorem rcAt (I : Inv X pins σ H s) (fh : Same F H) : ∀ (d d' : D) (A : Around) (x y : V) (u v : Value), A.units + dep d < cLine → dep d < 1000 → dep d' < 1000 → Den X.K F d x → Den X.K F d' y → RelV x u → RelV y v →
    SeqAt.RcAt A s u v (eqD d d') ∧ SeqAt.RcNeAt A s u v (!eqD d d')
  | .ty _, d', A, x, y, u, v, hu, h1, h2, e1, e2, r1, r2 => by simp [dep] at h1
  | .exc _, d', A, x, y, u, v, hu, h1, h2, e1, e2, r1, r2 => by simp [dep] at h1
  | .cls _, d', A, x, y, u, v, hu, h1, h2, e1, e2, r1, r2 => by simp [dep] at h1
  | .dct _ _, d', A, x, y, u, v, hu, h1, h2, e1, e2, r1, r2 => by simp [dep] at h1
  | .obj _, d', A, x, y, u, v, hu, h1, h2, e1, e2, r1, r2 => by simp [dep] at h1
  | .non, d', A, x, y, u, v, hu, h1, h2, e1, e2, r1, r2 => rcLeaf I fh _ d' A x y u v rfl hu h2 e1 e2 r1 r2
  | .bl _, d', A, x, y, u, v, hu, h1, h2, e1, e2, r1, r2 => rcLeaf I fh _ d' A x y u v rfl hu h2 e1 e2 r1 r2
  | .int _, d', A, x, y, u, v, hu, h1, h2, e1, e2, r1, r2 => rcLeaf I fh _ d' A x y u v rfl hu h2 e1 e2 r1 r2
  | .str _, d', A, x, y, u, v, hu, h1, h2, e1, e2, r1, r2 => rcLeaf I fh _ d' A x y u v rfl hu h2 e1 e2 r1 r2
  | .tup ds, d', A, x, y, u, v, hu, h1, h2, e1, e2, r1, r2 => rcSeq I fh ds _ d' A x y u v (.inl rfl) hu h1 h2 e1 e2 r1 r2 fun es z2 vs1 vs its1 its g1 r rv1 rv =>
    eqAts I fh ds es A.in1 vs1 vs its1 its (by rw [units_in1]; simp only [dep] at hu; omega) (by simp only [dep] at h1; omega) (by rcases z2 with rfl | rfl <;> (simp only [dep] at h2; omega)) g1 r rv1 rv
  | .lst ds, d', A, x, y, u, v, hu, h1, h2, e1, e2, r1, r2 => rcSeq I fh ds _ d' A x y u v (.inr rfl) hu h1 h2 e1 e2 r1 r2 fun es z2 vs1 vs its1 its g1 r rv1 rv =>
    eqAts I fh ds es A.in1 vs1 vs its1 its (by rw [units_in1]; simp only [dep] at hu; omega) (by simp only [dep] at h1; omega) (by rcases z2 with rfl | rfl <;> (simp only [dep] at h2; omega)) g1 r rv1 rv
theorem eqAts (I : Inv X pins σ H s) (fh : Same F H) : ∀ (ds es : List D) (A : Around) (xs ys : List V) (us vs : List Value), A.units + depL ds < cLine → depL ds < 1000 → depL es < 1000 → DenL X.K F ds xs → DenL X.K F es ys → Vals xs us → Vals ys vs →
    ∀ (j : Nat) (h1 : j < us.length) (h2 : j < vs.length), SeqAt.EqAt A s us[j] vs[j] (eAt ds es j)
  | [], es, A, xs, ys, us, vs, hu, h1, h2, e1, e2, r1, r2, j, hj1, hj2 => by
    simp only [DenL] at e1; subst e1; cases r1; simp at hj1
  | d :: ds, es, A, xs, ys, us, vs, hu, h1, h2, e1, e2, r1, r2, j, hj1, hj2 => by
    simp only [DenL] at e1
    obtain ⟨x, xr, rfl, ax, bx⟩ := e1
    cases r1 with
    | cons rx rrx =>
    cases es with
    | nil => simp only [DenL] at e2; subst e2; cases r2; simp at hj2
    | cons e es =>
      simp only [DenL] at e2
      obtain ⟨y, yr, rfl, ay, by'⟩ := e2
      cases r2 with
      | cons ry rry =>
      simp only [depL] at hu h1 h2
      cases j with
      | zero =>
        simp only [List.getElem_cons_zero]
        have e0 : eAt (d :: ds) (e :: es) 0 = eqD d e := by simp [eAt]
        rw [e0]
        exact eqAt_of I fh d e A x y _ _ (by omega) (by omega) (by omega) ax ay rx ry (rcAt I fh d e A x y _ _ (by omega) (by omega) (by omega) ax ay rx ry).1
      | succ j =>
        simp only [List.getElem_cons_succ]
        have e0 : eAt (d :: ds) (e :: es) (j + 1) = eAt ds es j := by simp [eAt]
        rw [e0]
        exact eqAts I fh ds es A xr yr _ _ (by omega) (by omega) (by omega) bx by' rrx rry j (by simpa using hj1) (by simpa using hj2)
end
theorem eqAt_one (I : Inv X pins σ H s) (fh : Same F H) (d d' : D) (A : Around) (x y : V) (u v : Value) (hu : A.units + dep d < cLine) (h1 : dep d < 1000) (h2 : dep d' < 1000) (e1 : Den X.K F d x) (e2 : Den X.K F d' y) (r1 : RelV x u) (r2 : RelV y v) :
    SeqAt.EqAt A s u v (eqD d d') := eqAt_of I fh d d' A x y u v hu h1 h2 e1 e2 r1 r2 (rcAt I fh d d' A x y u v hu h1 h2 e1 e2 r1 r2).1
end
end L2.L3
set_option Elab.async false
set_option linter.all false
set_option maxRecDepth 100000
set_option maxHeartbeats 4000000
namespace L2.L3
open PySem PySem.Spec PyProof.Rows
section
variable {X : Cx} {a b c e : Expr} {es : List Expr} {ta tb tc : TD} {tA tB' : TB} {ts : TDs} {pos : Pos} {rest : List Expr}
def rCatL (K : PySem.W.Frag) : R2 := fun x y H Q => ∃ l b xs zs, x = .ref l ∧ y = .ref b ∧ SqL K H l xs ∧ SqL K H b zs ∧ xs.length + zs.length ≤ sizeLine ∧ ∀ p, H p = none → Q (.ref p) (upd H p (.lst (xs ++ zs)))
theorem op_catL : OpR X (binaryOp .Add) (rCatL X.K) := by
  intro pins s σ H x y v u Q I rx ry h
  obtain ⟨l, b, xs, zs, rfl, rfl, hH, hB, hz, q⟩ := h
  cases rx
  cases ry
  obtain ⟨its, r, ⟨⟨cls, dd, data, sl⟩, n, ho, hc, hdd, hd⟩, z⟩ := I.list hH
  obtain ⟨its2, r2, ⟨⟨cls2, dd2, data2, sl2⟩, n2, ho2, hc2, hdd2, hd2⟩, z2⟩ := I.list hB
  simp only at hc hdd hd hc2 hdd2 hd2
  subst hc hdd hd hc2 hdd2 hd2
  have ea : its.toArray ++ its2.toArray = (its ++ its2).toArray := by simp
  refine concat_meets ⟨_, ho, rfl⟩ ⟨_, ho2, rfl⟩ noFill_list_add seq_list_add PySem.F.slot_list_add PySem.F.entry_list_add (PySem.F.args_list_add_2 _ _)
    (list_addW l b its.toArray its2.toArray n n2 none none sl sl2 (by rw [List.size_toArray, List.size_toArray, ← r.length, ← r2.length]; exact hz)) ⟨ho, ho2, ?_⟩
  rw [ea]
  exact ⟨.ref _, _, I.lnew (t' := s.toks) (r.append r2) (by rw [List.length_append]; omega), rfl, q _ I.fresh⟩
def rCatT0 (K : PySem.W.Frag) : R2 := fun x y H Q => ∃ a b ys, x = .ref a ∧ y = .ref b ∧ SqT K H a [] ∧ SqT K H b ys ∧ Q (.ref b) H
theorem op_catT0 : OpR X (binaryOp .Add) (rCatT0 X.K) := by
  intro pins s σ H x y v u Q I rx ry h
  obtain ⟨l, b, zs, rfl, rfl, hH, hB, q⟩ := h
  cases rx
  cases ry
  obtain ⟨its, r, ⟨⟨cls, dd, data, sl⟩, ho, hc, n, hd⟩, z⟩ := I.tuple hH
  obtain ⟨its2, r2, ⟨⟨cls2, dd2, data2, sl2⟩, ho2, hc2, n2, hd2⟩, z2⟩ := I.tuple hB
  cases r
  simp only at hc hd hc2 hd2
  subst hc hd hc2 hd2
  exact concat_meets ⟨_, ho, rfl⟩ ⟨_, ho2, rfl⟩ noFill_tuple_add seq_tuple_add PySem.F.slot_tuple_add PySem.F.entry_tuple_add (PySem.F.args_tuple_add_2 _ _)
    (tuple_addW0 l b _ _ n n2 dd dd2 sl sl2 (by simp)) ⟨ho, ho2, ⟨.ref b, H, I, rfl, q⟩⟩
def addD (x y : D) (Q : D → Prop) : Prop := match x, y with
  | .int i, .int j => Q (.int (i + j))
  | .str u, .str w => u.length + w.length ≤ sizeLine ∧ Q (.str (u ++ w))
  | .lst u, .lst w => u.length + w.length ≤ sizeLine ∧ Q (.lst (u ++ w))
  | .tup u, .tup w => u.length + w.length ≤ sizeLine ∧ Q (.tup (u ++ w))
  | _, _ => False
def rAddAll (K : PySem.W.Frag) : R2 := fun x y H Q => rI0 (fun i j => .int (i + j)) x y H Q ∨ (∃ i j, x = .str i ∧ y = .str j ∧ i.length + j.length ≤ sizeLine ∧ Q (.str (i ++ j)) H) ∨ rCatL K x y H Q ∨ rCatT K x y H Q ∨ rCatT0 K x y H Q
theorem op_addAll : OpR X (binaryOp .Add) (rAddAll X.K) := op_add.or (op_add_str.or (op_catL.or (op_catT.or op_catT0)))
theorem o3_add : Op3 X (rAddAll X.K) addD := by
  intro B σ F H env Q d d' x y Z rp h1 h2 hz hf
  unfold addD at hf
  split at hf
  · simp only [Den] at h1 h2; subst h1 h2
    exact .inl ⟨_, _, rfl, rfl, hz _ _ F _ rp (Same.refl _) den_int hf⟩
  · simp only [Den] at h1 h2; subst h1 h2
    exact .inr (.inl ⟨_, _, rfl, rfl, hf.1, hz _ _ F _ rp (Same.refl _) den_str hf.2⟩)
  · simp only [Den] at h1 h2
    obtain ⟨p, vs, rfl, q, r⟩ := h1
    obtain ⟨p', vs', rfl, q', r'⟩ := h2
    refine .inr (.inr (.inl ⟨p, p', vs, vs', rfl, rfl, rp.fh.seq q, rp.fh.seq q', by rw [← r.length, ← r'.length]; exact hf.1, fun w hw => ?_⟩))
    obtain ⟨r2, s2⟩ := rp.laid (o := .lst (vs ++ vs')) hw
    exact hz _ _ _ _ r2 s2 (den_lst (SqL.of upd_same) (DenL.mono s2 _ _ (r.append r'))) hf.2
  · simp only [Den] at h1 h2
    obtain ⟨p, vs, rfl, q, r⟩ := h1
    obtain ⟨p', vs', rfl, q', r'⟩ := h2
    cases vs with
    | nil =>
      rename_i u w
      cases u with
      | cons _ _ => simp only [DenL] at r; obtain ⟨_, _, z, _⟩ := r; cases z
      | nil =>
        exact .inr (.inr (.inr (.inr ⟨p, p', vs', rfl, rfl, Same.seqT rp.fh q, Same.seqT rp.fh q', hz _ _ F _ rp (Same.refl _) (den_tup q' r') (by simpa using hf.2)⟩)))
    | cons v0 vr =>
      refine .inr (.inr (.inr (.inl ⟨p, p', v0 :: vr, vs', rfl, rfl, Same.seqT rp.fh q, Same.seqT rp.fh q', by simp, by rw [← r.length, ← r'.length]; exact hf.1, fun w => ?_, fun w z hw => ?_⟩)))
      · subst w
        rename_i w
        have e : w = [] := by
          cases w with
          | nil => rfl
          | cons _ _ => simp only [DenL] at r'; obtain ⟨_, _, z, _⟩ := r'; cases z
        subst e
        exact hz _ _ F _ rp (Same.refl _) (den_tup q r) (by simpa using hf.2)
      · obtain ⟨r2, s2⟩ := rp.laid (o := .tup (v0 :: vr ++ vs')) hw
        exact hz _ _ _ _ r2 s2 (den_tup (SqT.of upd_same) (DenL.mono s2 _ _ (r.append r'))) hf.2
  · exact hf.elim
theorem q_add (ha : QE X a ta) (hb : QE X b tb) : QE X (.BinOp a .Add b pos) (cOp addD ta tb) := q_op op_addAll o3_add ha hb
def iiD (C : Int → Int → Prop) (g : Int → Int → D) (x y : D) (Q : D → Prop) : Prop := match x, y with
  | .int i, .int j => C i j ∧ Q (g i j)
  | _, _ => False
theorem o3_ii {C : Int → Int → Prop} {g : Int → Int → Int} : Op3 X (rI C fun i j => .int (g i j)) (iiD C fun i j => .int (g i j)) := by
  intro B σ F H env Q d d' x y Z rp h1 h2 hz hf
  unfold iiD at hf
  split at hf
  · simp only [Den] at h1 h2; subst h1 h2
    exact ⟨_, _, rfl, rfl, hf.1, hz _ _ F _ rp (Same.refl _) den_int hf.2⟩
  · exact hf.elim
theorem o3_ii0 {g : Int → Int → Int} : Op3 X (rI0 fun i j => .int (g i j)) (iiD (fun _ _ => True) fun i j => .int (g i j)) := by
  intro B σ F H env Q d d' x y Z rp h1 h2 hz hf
  unfold iiD at hf
  split at hf
  · simp only [Den] at h1 h2; subst h1 h2
    exact ⟨_, _, rfl, rfl, hz _ _ F _ rp (Same.refl _) den_int hf.2⟩
  · exact hf.elim
theorem o3_ib0 {g : Int → Int → Bool} : Op3 X (rI0 fun i j => .bl (g i j)) (iiD (fun _ _ => True) fun i j => .bl (g i j)) := by
  intro B σ F H env Q d d' x y Z rp h1 h2 hz hf
  unfold iiD at hf
  split at hf
  · simp only [Den] at h1 h2; subst h1 h2
    exact ⟨_, _, rfl, rfl, hz _ _ F _ rp (Same.refl _) den_bl hf.2⟩
  · exact hf.elim
theorem op_mulW : OpR X (binaryOp .Mult) (rI IntMulOk fun i j => .int (i * j)) := opI fun _ _ _ _ _ _ _ hc q => mul_int q hc
def DivOk (_ j : Int) : Prop := j ≠ 0 ∧ j.natAbs.log2 < 9000
theorem op_fdivW : OpR X (binaryOp .FloorDiv) (rI DivOk fun i j => .int (i.fdiv j)) := opI fun _ _ _ _ _ _ _ hc q => floordiv_int hc.1 q (.inl (PyProof.noPylong_of_log2 hc.2))
def ModOk (_ j : Int) : Prop := j ≠ 0
abbrev subD := iiD (fun _ _ => True) fun i j => .int (i - j)
abbrev mulD := iiD IntMulOk fun i j => .int (i * j)
abbrev fdivD := iiD DivOk fun i j => .int (i.fdiv j)
abbrev modD := iiD ModOk fun i j => .int (i.fmod j)
abbrev powD := iiD CPow fun i j => .int (i ^ j.toNat)
abbrev ltD := iiD (fun _ _ => True) fun i j => .bl (decide (i < j))
abbrev gtD := iiD (fun _ _ => True) fun i j => .bl (decide (j < i))
abbrev geD := iiD (fun _ _ => True) fun i j => .bl (decide (j ≤ i))
theorem q_sub (ha : QE X a ta) (hb : QE X b tb) : QE X (.BinOp a .Sub b pos) (cOp subD ta tb) := q_op op_sub o3_ii0 ha hb
theorem q_mul (ha : QE X a ta) (hb : QE X b tb) : QE X (.BinOp a .Mult b pos) (cOp mulD ta tb) := q_op op_mulW o3_ii ha hb
theorem q_fdiv (ha : QE X a ta) (hb : QE X b tb) : QE X (.BinOp a .FloorDiv b pos) (cOp fdivD ta tb) := q_op op_fdivW o3_ii ha hb
theorem q_mod (ha : QE X a ta) (hb : QE X b tb) : QE X (.BinOp a .Mod b pos) (cOp modD ta tb) := q_op (r := rI ModOk fun i j => .int (i.fmod j)) op_modN o3_ii ha hb
theorem q_pow (ha : QE X a ta) (hb : QE X b tb) : QE X (.BinOp a .Pow b pos) (cOp powD ta tb) := q_op op_pow o3_ii ha hb
theorem t_lt (ha : QE X a ta) (hb : QE X b tb) : QT X (.Compare a [.Lt] [b] pos) (cTest (cOp ltD ta tb)) := qt_cmp op_lt o3_ib0 ha hb (nomark _)
theorem t_gt (ha : QE X a ta) (hb : QE X b tb) : QT X (.Compare a [.Gt] [b] pos) (cTest (cOp gtD ta tb)) := qt_cmp op_gt o3_ib0 ha hb (nomark _)
theorem t_ge (ha : QE X a ta) (hb : QE X b tb) : QT X (.Compare a [.GtE] [b] pos) (cTest (cOp geD ta tb)) := qt_cmp op_ge o3_ib0 ha hb (nomark _)
def Un3 (X : Cx) (r : V → Hp → VK → Prop) (f : D → (D → Prop) → Prop) : Prop := ∀ (B : Base) (σ : St) (F H : Hp) (env : En) (Q : D → Prop) (d : D) (x : V) (Z : VK), Rep X.K B F H σ env → Den X.K F d x → Kont X B σ env F Q Z → f d Q → r x H Z
def cUn (f : D → (D → Prop) → Prop) (ta : TD) : TD := fun env Q => ta env fun x => f x Q
theorem q_un {op : UnaryOp} {r : V → Hp → VK → Prop} {f : D → (D → Prop) → Prop} (ho : UnR X (unaryOp op) r) (hf : Un3 X r f) (ha : QE X a ta) : QE X (.UnaryOp op a pos) (cUn f ta) := by
  refine ⟨?_⟩
  intro B σ F H env Q rp h
  refine wE_of (pe_un ho pe_w) ?_
  refine wE_mono (ha B σ F H env _ rp h) fun x H1 ⟨F1, d, r1, s1, d1, q1⟩ => ?_
  exact hf B σ F1 H1 env Q d x _ r1 d1 (fun v H' F' d' r' s' hd q => ⟨F', d', r', s1.trans s', hd, q⟩) q1
def negD (x : D) (Q : D → Prop) : Prop := match x with
  | .int i => Q (.int (-i))
  | _ => False
theorem q_neg (ha : QE X a ta) : QE X (.UnaryOp .USub a pos) (cUn negD ta) := by
  refine q_un un_neg ?_ ha
  intro B σ F H env Q d x Z rp h1 hz hf
  unfold negD at hf
  split at hf
  · simp only [Den] at h1; subst h1
    exact ⟨_, rfl, hz _ _ F _ rp (Same.refl _) den_int hf⟩
  · exact hf.elim
def rEqD (X : Cx) (neg : Bool) : R2 := fun x y H Q => ∃ (F : Hp) (d d' : D), Same F H ∧ Den X.K F d x ∧ Den X.K F d' y ∧ X.A.units + dep d < cLine ∧ dep d < 1000 ∧ dep d' < 1000 ∧ Q (.bl (if neg then !eqD d d' else eqD d d')) H
theorem op_eqD : OpR X (compareOp .Eq) (rEqD X false) := by
  intro pins s σ H x y v u Q I rx ry h
  obtain ⟨F, d, d', fh, h1, h2, hu, hd, hd', q⟩ := h
  exact (rcAt I fh d d' X.A x y v u hu hd hd' h1 h2 rx ry).1 X.prog X.w X.xe _ ⟨.bl _, H, I, rfl, q⟩
theorem op_neD : OpR X (compareOp .NotEq) (rEqD X true) := by
  intro pins s σ H x y v u Q I rx ry h
  obtain ⟨F, d, d', fh, h1, h2, hu, hd, hd', q⟩ := h
  exact (rcAt I fh d d' X.A x y v u hu hd hd' h1 h2 rx ry).2 X.prog X.w X.xe _ ⟨.bl _, H, I, rfl, q⟩
def DepOk (x y : D) : Prop := dep x ≤ 60 ∧ dep y ≤ 60
def eqF (x y : D) (Q : D → Prop) : Prop := DepOk x y ∧ Q (.bl (eqD x y))
def neF (x y : D) (Q : D → Prop) : Prop := DepOk x y ∧ Q (.bl (!eqD x y))
theorem o3_eq (hu : X.A.units + 64 < cLine) : Op3 X (rEqD X false) eqF := by
  intro B σ F H env Q d d' x y Z rp h1 h2 hz hf
  obtain ⟨⟨l1, l2⟩, q⟩ := hf
  exact ⟨F, d, d', rp.fh, h1, h2, by omega, by omega, by omega, hz _ _ F _ rp (Same.refl _) den_bl q⟩
theorem o3_ne (hu : X.A.units + 64 < cLine) : Op3 X (rEqD X true) neF := by
  intro B σ F H env Q d d' x y Z rp h1 h2 hz hf
  obtain ⟨⟨l1, l2⟩, q⟩ := hf
  exact ⟨F, d, d', rp.fh, h1, h2, by omega, by omega, by omega, hz _ _ F _ rp (Same.refl _) den_bl q⟩
theorem q_eq (hu : X.A.units + 64 < cLine) (ha : QE X a ta) (hb : QE X b tb) : QE X (.Compare a [.Eq] [b] pos) (cOp eqF ta tb) := q_cmp op_eqD (o3_eq hu) ha hb (nomark _)
theorem q_ne (hu : X.A.units + 64 < cLine) (ha : QE X a ta) (hb : QE X b tb) : QE X (.Compare a [.NotEq] [b] pos) (cOp neF ta tb) := q_cmp op_neD (o3_ne hu) ha hb (nomark _)
theorem t_eq (hu : X.A.units + 64 < cLine) (ha : QE X a ta) (hb : QE X b tb) : QT X (.Compare a [.Eq] [b] pos) (cTest (cOp eqF ta tb)) := qt_cmp op_eqD (o3_eq hu) ha hb (nomark _)
theorem t_ne (hu : X.A.units + 64 < cLine) (ha : QE X a ta) (hb : QE X b tb) : QT X (.Compare a [.NotEq] [b] pos) (cTest (cOp neF ta tb)) := qt_cmp op_neD (o3_ne hu) ha hb (nomark _)
def ixD (x y : D) (Q : D → Prop) : Prop := match x, y with
  | .lst xs, .int i => ∃ v, atI xs i = some v ∧ Q v
  | .tup xs, .int i => ∃ v, atI xs i = some v ∧ Q v
  | .str z, .int i => z.length ≤ sizeLine ∧ ∃ c, atI z.cps.toList i = some c ∧ Q (.str ⟨#[c]⟩)
  | _, _ => False
theorem DenL.atI {K : PySem.W.Frag} {F : Hp} {ds : List D} {vs : List V} {i : Int} {d : D} (r : DenL K F ds vs) (h : atI ds i = some d) : ∃ v, L2.atI vs i = some v ∧ Den K F d v := by
  unfold L2.atI at h ⊢
  rw [← r.length]
  cases e : ixN ds.length i with
  | none => rw [e] at h; cases h
  | some j =>
    rw [e] at h
    exact r.get h
theorem o3_ix : Op3 X (rIx X.K) ixD := by
  intro B σ F H env Q d d' x y Z rp h1 h2 hz hf
  unfold ixD at hf
  split at hf
  · simp only [Den] at h1 h2; subst h2
    obtain ⟨p, vs, rfl, q, r⟩ := h1
    obtain ⟨v, hv, qv⟩ := hf
    obtain ⟨w, hw, dw⟩ := r.atI hv
    exact .inl ⟨p, vs, _, w, rfl, rfl, rp.fh.seq q, hw, hz _ _ F _ rp (Same.refl _) dw qv⟩
  · simp only [Den] at h1 h2; subst h2
    obtain ⟨p, vs, rfl, q, r⟩ := h1
    obtain ⟨v, hv, qv⟩ := hf
    obtain ⟨w, hw, dw⟩ := r.atI hv
    exact .inr (.inl ⟨p, vs, _, w, rfl, rfl, Same.seqT rp.fh q, hw, hz _ _ F _ rp (Same.refl _) dw qv⟩)
  · simp only [Den] at h1 h2; subst h1 h2
    obtain ⟨hl, c, hc, qv⟩ := hf
    exact .inr (.inr ⟨_, _, c, rfl, rfl, hl, hc, hz _ _ F _ rp (Same.refl _) den_str qv⟩)
  · exact hf.elim
theorem q_ix (ha : QE X a ta) (hb : QE X b tb) (hs : PlainIx b) : QE X (.Subscript a b pos) (cOp ixD ta tb) := ⟨fun B σ F H env Q rp h => wE_of (pe_ix ix_seq pe_w pe_w hs) (two o3_ix ha hb rp kRV h)⟩
abbrev TO3 := En → (Option Int → Prop) → Prop
def cPart (t : TD) : TO3 := fun env Q => t env fun x => ∃ i, x = .int i ∧ Q (some i)
def QO (X : Cx) (e : Option Expr) (t : TO3) : Prop := ∃ to : TO, PO X e to ∧ ∀ (B : Base) (σ : St) (F H : Hp) (env : En) (Q : Option Int → Prop) (Z : Option Int → Hp → Prop), Rep X.K B F H σ env → (∀ o H' F', Rep X.K B F' H' σ env → Same F F' → Q o → Z o H') → t env Q → to σ H Z
theorem qo_some (h : QE X e ta) : QO X (some e) (cPart ta) := by
  refine ⟨_, po_some pe_w, fun B σ F H env Q Z rp hz hq => ?_⟩
  refine wE_mono (h B σ F H env _ rp hq) fun x H1 ⟨F1, d, r1, s1, d1, i, hi, q1⟩ => ?_
  subst hi
  simp only [Den] at d1
  exact ⟨i, d1, hz _ _ F1 r1 s1 q1⟩
def cutD (xs : List D) (lo hi : Option Int) : List D := (xs.drop (HT.sIx xs.length 0 lo)).take (HT.sIx xs.length xs.length hi - HT.sIx xs.length 0 lo)
def slD (x : D) (lo hi : Option Int) (Q : D → Prop) : Prop := match x with
  | .lst xs => Q (.lst (cutD xs lo hi))
  | .tup xs => ¬ (HT.sIx xs.length 0 lo = 0 ∧ HT.sIx xs.length xs.length hi = xs.length) ∧ Q (.tup (cutD xs lo hi))
  | _ => False
def cSl (ta : TD) (tl th : TO3) : TD := fun env Q => ta env fun x => tl env fun lo => th env fun hi => slD x lo hi Q
theorem q_sl {lo hi : Option Expr} {tl th : TO3} {p2 : Pos} (ha : QE X a ta) (hl : QO X lo tl) (hh : QO X hi th) : QE X (.Subscript a (.Slice lo hi none p2) pos) (cSl ta tl th) := by
  refine ⟨?_⟩
  intro B σ F H env Q rp h
  obtain ⟨tl', pl, ql⟩ := hl
  obtain ⟨th', ph, qh⟩ := hh
  refine wE_of (pe_slice (SlR.or sl_list sl_tup) pe_w pl ph) ?_
  refine wE_mono (ha B σ F H env _ rp h) fun x H1 ⟨F1, d, r1, s1, d1, q1⟩ => ?_
  refine ql B σ F1 H1 env _ _ r1 (fun lo' H2 F2 r2 s2 q2 => ?_) q1
  refine qh B σ F2 H2 env _ _ r2 (fun hi' H3 F3 r3 s3 q3 => ?_) q2
  have d3 := Den.mono (s2.trans s3) _ _ d1
  unfold slD at q3
  split at q3
  · simp only [Den] at d3
    obtain ⟨p, vs, rfl, q, r⟩ := d3
    refine .inl ⟨p, vs, rfl, r3.fh.seq q, fun w hw => ?_⟩
    obtain ⟨r4, s4⟩ := r3.laid (o := .lst (cutV vs lo' hi')) hw
    refine ⟨_, _, r4, ((s1.trans s2).trans s3).trans s4, den_lst (SqL.of upd_same) ?_, q3⟩
    unfold cutV cutD
    rw [r.length]
    exact DenL.mono s4 _ _ ((r.drop _).take _)
  · simp only [Den] at d3
    obtain ⟨p, vs, rfl, q, r⟩ := d3
    refine .inr ⟨p, vs, rfl, Same.seqT r3.fh q, by rw [← r.length]; exact q3.1, fun w hw => ?_⟩
    obtain ⟨r4, s4⟩ := r3.laid (o := .tup (cutV vs lo' hi')) hw
    refine ⟨_, _, r4, ((s1.trans s2).trans s3).trans s4, den_tup (SqT.of upd_same) ?_, q3.2⟩
    unfold cutV cutD
    rw [r.length]
    exact DenL.mono s4 _ _ ((r.drop _).take _)
  · exact q3.elim
def Call3 (X : Cx) (r : List V → Hp → VK → Prop) (f : List D → (D → Prop) → Prop) : Prop := ∀ (B : Base) (σ : St) (F H : Hp) (env : En) (Q : D → Prop) (ds : List D) (vs : List V) (Z : VK), Rep X.K B F H σ env → DenL X.K F ds vs → Kont X B σ env F Q Z → f ds Q → r vs H Z
def cCall (f : List D → (D → Prop) → Prop) (ts : TDs) : TD := fun env Q => ts env fun xs => f xs Q
theorem args3 {r : List V → Hp → VK → Prop} {f : List D → (D → Prop) → Prop} (hf : Call3 X r f) (ha : QA X es ts) {B : Base} {σ : St} {F H : Hp} {env : En} {Q : D → Prop} (rp : Rep X.K B F H σ env) (h : cCall f ts env Q) : tCB r (wA X es) σ H (RV X B σ env F Q) := by
  refine wA_mono (ha B σ F H env _ rp h) fun vs H1 ⟨F1, ds, r1, s1, d1, q1⟩ => ?_
  exact hf B σ F1 H1 env Q ds vs _ r1 d1 (fun v H' F' d' r' s' hd q => ⟨F', d', r', s1.trans s', hd, q⟩) q1
theorem q_callB {id : String} {r : List V → Hp → VK → Prop} {f : List D → (D → Prop) → Prop} {x : Str} {p : Pos} (hc : CallR X (.builtin id) r) (hf : Call3 X r f) (hg : Gl X x) (hm : X.mg x = none) (hv : bootBuiltins x = some (.builtin id)) (ha : QA X (e :: es) ts)
    (hn : x ≠ "__name__" := by decide) (hdb : (x == ("__debug__" : Str)) = false := by decide) (he : starEach (e :: es) X.env = (false, eval e X.env) :: starEach es X.env := by exact star_of rfl) (hpl : (backTo pos (starEach es X.env)).any (·.1) = false := by rfl) :
    QE X (.Call (.Name x p) (e :: es) [] pos) (cCall f ts) := ⟨fun B σ F H env Q rp h => wE_of (pe_callB hc hg hm hv pa_w hn hdb he hpl) (args3 hf ha rp h)⟩
theorem q_callTy {T : String} {r : List V → Hp → VK → Prop} {f : List D → (D → Prop) → Prop} {x : Str} {p : Pos} (hc : CallR X (.type T) r) (hf : Call3 X r f) (hg : Gl X x) (hm : X.mg x = none) (hv : bootBuiltins x = some (.type T)) (ha : QA X (e :: es) ts)
    (hn : x ≠ "__name__" := by decide) (hdb : (x == ("__debug__" : Str)) = false := by decide) (he : starEach (e :: es) X.env = (false, eval e X.env) :: starEach es X.env := by exact star_of rfl) (hpl : (backTo pos (starEach es X.env)).any (·.1) = false := by rfl) :
    QE X (.Call (.Name x p) (e :: es) [] pos) (cCall f ts) := ⟨fun B σ F H env Q rp h => wE_of (pe_callTy hc hg hm hv pa_w hn hdb he hpl) (args3 hf ha rp h)⟩
end
end L2.L3
set_option Elab.async false
set_option linter.all false
set_option maxRecDepth 100000
set_option maxHeartbeats 4000000
namespace L2.L3
open PySem PySem.Spec PyProof.Rows
theorem boot_abs' : bootBuiltins "abs" = some (.builtin "abs") := by decide +kernel
theorem boot_max' : bootBuiltins "max" = some (.builtin "max") := by decide +kernel
theorem boot_min' : bootBuiltins "min" = some (.builtin "min") := by decide +kernel
theorem boot_isi' : bootBuiltins "isinstance" = some (.builtin "isinstance") := by decide +kernel
theorem boot_len' : bootBuiltins "len" = some (.builtin "len") := by decide +kernel
theorem boot_int' : bootBuiltins "int" = some (.type "int") := by decide +kernel
theorem boot_str' : bootBuiltins "str" = some (.type "str") := by decide +kernel
theorem boot_list' : bootBuiltins "list" = some (.type "list") := by decide +kernel
theorem boot_tuple' : bootBuiltins "tuple" = some (.type "tuple") := by decide +kernel
section
variable {X : Cx} {a b c e : Expr} {es : List Expr} {ta tb tc : TD} {tA tB' : TB} {ts : TDs} {pos : Pos} {rest : List Expr}
def absF (ds : List D) (Q : D → Prop) : Prop := match ds with
  | [.int i] => Q (.int (if i < 0 then -i else i))
  | _ => False
theorem c3_abs : Call3 X (fun xs H Q => ∃ i, xs = [.int i] ∧ Q (.int (if i < 0 then -i else i)) H) absF := by
  intro B σ F H env Q ds vs Z rp h hz hf
  unfold absF at hf
  split at hf
  · simp only [DenL, Den] at h
    obtain ⟨v, r, rfl, rfl, rfl⟩ := h
    exact ⟨_, rfl, hz _ _ F _ rp (Same.refl _) den_int hf⟩
  · exact hf.elim
def lenF (ds : List D) (Q : D → Prop) : Prop := match ds with
  | [.lst xs] => Q (.int xs.length)
  | [.tup xs] => Q (.int xs.length)
  | [.str z] => z.length ≤ sizeLine ∧ Q (.int z.length)
  | _ => False
theorem c3_len : Call3 X (fun xs H Q => (∃ p ys, xs = [.ref p] ∧ (SqL X.K H p ys ∨ SqT X.K H p ys) ∧ Q (.int ys.length) H) ∨ ∃ z, xs = [.str z] ∧ z.length ≤ sizeLine ∧ Q (.int z.length) H) lenF := by
  intro B σ F H env Q ds vs Z rp h hz hf
  unfold lenF at hf
  split at hf
  · simp only [DenL, Den] at h
    obtain ⟨v, r, rfl, ⟨p, ys, rfl, q, r⟩, rfl⟩ := h
    refine .inl ⟨p, ys, rfl, .inl (rp.fh.seq q), hz _ _ F _ rp (Same.refl _) den_int ?_⟩
    rw [← r.length]; exact hf
  · simp only [DenL, Den] at h
    obtain ⟨v, r, rfl, ⟨p, ys, rfl, q, r⟩, rfl⟩ := h
    refine .inl ⟨p, ys, rfl, .inr (Same.seqT rp.fh q), hz _ _ F _ rp (Same.refl _) den_int ?_⟩
    rw [← r.length]; exact hf
  · simp only [DenL, Den] at h
    obtain ⟨v, r, rfl, rfl, rfl⟩ := h
    exact .inr ⟨_, rfl, hf.1, hz _ _ F _ rp (Same.refl _) den_int hf.2⟩
  · exact hf.elim
def maxF (ds : List D) (Q : D → Prop) : Prop := match ds with
  | [.int i, .int j] => Q (.int (if j > i then j else i))
  | _ => False
def minF (ds : List D) (Q : D → Prop) : Prop := match ds with
  | [.int i, .int j] => Q (.int (if j < i then j else i))
  | _ => False
theorem c3_max : Call3 X (fun xs H Q => ∃ i j, xs = [.int i, .int j] ∧ Q (.int (if j > i then j else i)) H) maxF := by
  intro B σ F H env Q ds vs Z rp h hz hf
  unfold maxF at hf
  split at hf
  · simp only [DenL, Den] at h
    obtain ⟨v, r, rfl, rfl, v', r', rfl, rfl, rfl⟩ := h
    exact ⟨_, _, rfl, hz _ _ F _ rp (Same.refl _) den_int hf⟩
  · exact hf.elim
theorem c3_min : Call3 X (fun xs H Q => ∃ i j, xs = [.int i, .int j] ∧ Q (.int (if j < i then j else i)) H) minF := by
  intro B σ F H env Q ds vs Z rp h hz hf
  unfold minF at hf
  split at hf
  · simp only [DenL, Den] at h
    obtain ⟨v, r, rfl, rfl, v', r', rfl, rfl, rfl⟩ := h
    exact ⟨_, _, rfl, hz _ _ F _ rp (Same.refl _) den_int hf⟩
  · exact hf.elim
def intF (ds : List D) (Q : D → Prop) : Prop := match ds with
  | [.int i] => Q (.int i)
  | [.bl k] => Q (.int (if k then 1 else 0))
  | _ => False
theorem c3_int : Call3 X (fun xs H Q => (∃ i, xs = [.int i] ∧ Q (.int i) H) ∨ ∃ k, xs = [.bl k] ∧ Q (.int (if k then 1 else 0)) H) intF := by
  intro B σ F H env Q ds vs Z rp h hz hf
  unfold intF at hf
  split at hf
  · simp only [DenL, Den] at h
    obtain ⟨v, r, rfl, rfl, rfl⟩ := h
    exact .inl ⟨_, rfl, hz _ _ F _ rp (Same.refl _) den_int hf⟩
  · simp only [DenL, Den] at h
    obtain ⟨v, r, rfl, rfl, rfl⟩ := h
    exact .inr ⟨_, rfl, hz _ _ F _ rp (Same.refl _) den_int hf⟩
  · exact hf.elim
def tupleF (ds : List D) (Q : D → Prop) : Prop := match ds with
  | [.lst xs] => Q (.tup xs)
  | [.tup xs] => Q (.tup xs)
  | _ => False
theorem c3_tuple : Call3 X (fun xs H Q => ∃ p ys, xs = [.ref p] ∧ ((SqL X.K H p ys ∧ ∀ l, H l = none → Q (.ref l) (upd H l (.tup ys))) ∨ (SqT X.K H p ys ∧ Q (.ref p) H))) tupleF := by
  intro B σ F H env Q ds vs Z rp h hz hf
  unfold tupleF at hf
  split at hf
  · simp only [DenL, Den] at h
    obtain ⟨v, r, rfl, ⟨p, ys, rfl, q, r⟩, rfl⟩ := h
    refine ⟨p, ys, rfl, .inl ⟨rp.fh.seq q, fun w hw => ?_⟩⟩
    obtain ⟨r2, s2⟩ := rp.laid (o := .tup ys) hw
    exact hz _ _ _ _ r2 s2 (den_tup (SqT.of upd_same) (DenL.mono s2 _ _ r)) hf
  · simp only [DenL, Den] at h
    obtain ⟨v, r, rfl, ⟨p, ys, rfl, q, r⟩, rfl⟩ := h
    exact ⟨p, ys, rfl, .inr ⟨Same.seqT rp.fh q, hz _ _ F _ rp (Same.refl _) (den_tup q r) hf⟩⟩
  · exact hf.elim
def TyV (K : PySem.W.Frag) (H : Hp) (x : V) (t : String) : Prop := match x with
  | .non => t = "NoneType"
  | .bl _ => t = "bool"
  | .int _ => t = "int"
  | .str _ => t = "str"
  | .ref a => (t = "tuple" ∧ ∃ vs, SqT K H a vs) ∨ (t = "list" ∧ ∃ vs, SqL K H a vs)
  | _ => False
theorem call_isi : CallR X (.builtin "isinstance") (fun xs H Q => ∃ x n t b, xs = [x, .ty n] ∧ TyV X.K H x t ∧ PySem.W.kitOne X.K (.type t) (.type n) = some b ∧ Q (.bl b) H) := by
  intro pins s σ H xs us Q I r h
  obtain ⟨x, n, t, b, rfl, ty, e, q⟩ := h
  obtain ⟨u, w, rfl, rx, rw'⟩ := vals2 r
  cases (show w = Value.type n from rw')
  have fin : ∀ tk, EP X pins σ Q (.bool b) { s with toks := tk } := fun tk => ⟨.bl b, H, I.tok tk, rfl, q⟩
  cases x with
  | non => cases (show t = "NoneType" from ty); cases (show u = Value.none from rx); exact PySem.W.kia_one PySem.W.kitx_none I.kIn True.intro e (fun z => nomatch z) fin
  | bl y => cases (show t = "bool" from ty); cases (show u = Value.bool y from rx); exact PySem.W.kia_one PySem.W.kitx_bool I.kIn True.intro e (fun z => nomatch z) fin
  | int i => cases (show t = "int" from ty); obtain ⟨t, q⟩ := (show ∃ t, u = Value.int i t from rx); cases q; exact PySem.W.kia_one PySem.W.kitx_int I.kIn True.intro e (fun z => nomatch z) fin
  | str i => cases (show t = "str" from ty); obtain ⟨t, q⟩ := (show ∃ t, u = Value.str i t from rx); cases q; exact PySem.W.kia_one PySem.W.kitx_str I.kIn True.intro e (fun z => nomatch z) fin
  | ref a =>
    cases (show u = Value.ref a from rx)
    rcases ty with ⟨rfl, vs, hq⟩ | ⟨rfl, vs, hq⟩
    · obtain ⟨_, _, ⟨o, h1, h2, _⟩, _⟩ := I.tuple hq
      exact PySem.W.kia_one PySem.W.kitx_tuple I.kIn ⟨o, h1, h2⟩ e (fun z => nomatch z) fin
    · obtain ⟨_, _, ⟨o, n, h1, h2, _⟩, _⟩ := I.list hq
      exact PySem.W.kia_one PySem.W.kitx_list I.kIn ⟨o, h1, h2⟩ e (fun z => nomatch z) fin
  | _ => exact False.elim ty
inductive Kd where | non | bl | int | str | tup | lst | oth
def kdD : D → Kd
  | .non => .non
  | .bl _ => .bl
  | .int _ => .int
  | .str _ => .str
  | .tup _ => .tup
  | .lst _ => .lst
  | _ => .oth
def isiK : Kd → String → Option Bool
  | .oth, _ => none
  | k, "int" => some (match k with | .int => true | .bl => true | _ => false)
  | k, "bool" => some (match k with | .bl => true | _ => false)
  | k, "str" => some (match k with | .str => true | _ => false)
  | k, "tuple" => some (match k with | .tup => true | _ => false)
  | k, "list" => some (match k with | .lst => true | _ => false)
  | _, _ => none
def isiF (ds : List D) (Q : D → Prop) : Prop := match ds with
  | [x, .ty n] => ∃ b, isiK (kdD x) n = some b ∧ Q (.bl b)
  | _ => False
theorem kit_isi (K : PySem.W.Frag) (k : Kd) (n t : String) (b : Bool) (h : isiK k n = some b)
    (ht : t = match k with | .non => "NoneType" | .bl => "bool" | .int => "int" | .str => "str" | .tup => "tuple" | .lst => "list" | .oth => "type") : PySem.W.kitOne K (.type t) (.type n) = some b := by
  subst ht
  unfold isiK at h
  split at h
  · cases h
  all_goals (cases k <;> simp at h <;> subst h <;> rfl)
theorem c3_isi : Call3 X (fun xs H Q => ∃ x n t b, xs = [x, .ty n] ∧ TyV X.K H x t ∧ PySem.W.kitOne X.K (.type t) (.type n) = some b ∧ Q (.bl b) H) isiF := by
  intro B σ F H env Q ds vs Z rp h hz hf
  unfold isiF at hf
  split at hf
  · rename_i x n
    obtain ⟨b, hb, q⟩ := hf
    simp only [DenL] at h
    obtain ⟨v, r, rfl, hd, v', r', rfl, hd', rfl⟩ := h
    simp only [Den] at hd'
    subst hd'
    have fin := hz (.bl b) H F (.bl b) rp (Same.refl _) den_bl q
    cases x with
    | non => simp only [Den] at hd; subst hd; exact ⟨_, n, "NoneType", b, rfl, rfl, kit_isi _ _ _ _ _ hb rfl, fin⟩
    | bl k => simp only [Den] at hd; subst hd; exact ⟨_, n, "bool", b, rfl, rfl, kit_isi _ _ _ _ _ hb rfl, fin⟩
    | int k => simp only [Den] at hd; subst hd; exact ⟨_, n, "int", b, rfl, rfl, kit_isi _ _ _ _ _ hb rfl, fin⟩
    | str k => simp only [Den] at hd; subst hd; exact ⟨_, n, "str", b, rfl, rfl, kit_isi _ _ _ _ _ hb rfl, fin⟩
    | tup k => simp only [Den] at hd; obtain ⟨p, vs, rfl, q', r⟩ := hd; exact ⟨_, n, "tuple", b, rfl, .inl ⟨rfl, vs, Same.seqT rp.fh q'⟩, kit_isi _ _ _ _ _ hb rfl, fin⟩
    | lst k => simp only [Den] at hd; obtain ⟨p, vs, rfl, q', r⟩ := hd; exact ⟨_, n, "list", b, rfl, .inr ⟨rfl, vs, rp.fh.seq q'⟩, kit_isi _ _ _ _ _ hb rfl, fin⟩
    | dct k _ => cases hb
    | obj k => cases hb
    | ty k => cases hb
    | exc k => cases hb
    | cls k => cases hb
  · exact hf.elim
end
end L2.L3
set_option Elab.async false
set_option linter.all false
set_option maxRecDepth 100000
set_option maxHeartbeats 4000000
namespace L2.L3
open PySem PySem.Spec PyProof.Rows
section
variable {K : PySem.W.Frag} {B : Base} {F H : Hp} {σ : St} {env : En}
theorem Rep.bare (r : Rep K B F H σ env) : Rep K B F H [] [] :=
  ⟨r.f0, r.fh, r.h0, r.nf, fun i x q => by simp at q, fun i x q => by simp at q, fun i j _ _ _ _ q => by simp at q, fun i x q => by simp at q, fun i j _ _ _ _ q => by simp at q⟩
end
section
variable {X : Cx} {a b c e : Expr} {es : List Expr} {ta tb tc : TD} {tA tB' : TB} {ts : TDs} {pos : Pos} {rest : List Expr} {st : Stmt} {sts : List Stmt} {t u : TS3}
def dNext : TS3 := fun D env => D.nx env
def dSeq (t u : TS3) : TS3 := fun D env => t { D with nx := u D } env
theorem qss_nil : QSs X [] dNext := ⟨fun B σ F H env D rp h => wSs_of pss_nil ⟨F, env, rp, h⟩⟩
theorem qss_one (h1 : QS X st t) : QSs X [st] t := ⟨fun B σ F H env D rp h => wSs_of (pss_one ps_w) (h1 B σ F H env D rp h)⟩
theorem qss_cons (h1 : QS X st t) (h2 : QSs X sts u) : QSs X (st :: sts) (dSeq t u) := by
  refine ⟨?_⟩
  intro B σ F H env D rp h
  refine wSs_of (pss_cons ps_w pss_w) ?_
  exact wS_mono (h1 B σ F H env _ rp h) (fun σ' H' ⟨F', env', rp', q⟩ => h2 B σ' F' H' env' D rp' q) (fun _ _ q => q) (fun _ _ q => q) (fun _ _ q => q)
def dBreak : TS3 := fun D env => D.bk env
theorem qs_break : QS X (.Break pos) dBreak := ⟨fun B σ F H env D rp h => wS_of ps_break ⟨F, env, rp, h⟩⟩
def dRet (te : TD) : TS3 := fun D env => te env D.rt
theorem qs_ret (he : QE X e ta) : QS X (.Return (some e) pos) (dRet ta) := by
  refine ⟨?_⟩
  intro B σ F H env D rp h
  refine wS_of (ps_ret pe_w) ?_
  exact wE_mono (he B σ F H env _ rp h) fun v H' ⟨F', d, r', s', hd, q⟩ => ⟨F', d, r'.bare, hd, q⟩
def dIf (c : TB) (t u : TS3) : TS3 := fun D env => c env fun k => if k = true then t D env else u D env
theorem qs_if {xs ys : List Stmt} (hc : QT X c tA) (ha : QSs X xs t) (hb : QSs X ys u) : QS X (.If c xs ys pos) (dIf tA t u) := by
  refine ⟨?_⟩
  intro B σ F H env D rp h
  refine wS_of (ps_if pt_w pss_w pss_w) ?_
  refine wT_mono (hc B σ F H env _ rp h) fun k H1 ⟨F1, r1, s1, q1⟩ => ?_
  cases k with
  | true => exact ha B σ F1 H1 env D r1 q1
  | false => exact hb B σ F1 H1 env D r1 q1
abbrev TG3 := D → En → (En → Prop) → Prop
abbrev TGs3 := List D → En → (En → Prop) → Prop
def wG (X : Cx) (tg : Expr) : TG := fun v σ H Q => ∀ (pins : List (Addr × Obj)) (s : Shared) (u : Value), Inv X pins σ H s → RelV v u →
  wpAny (model X.prog X.w) X.A (assign tg X.env u) (fun _ s' => ∃ σ' H', Inv X pins σ' H' s' ∧ Q σ' H') X.xe s
def wGs (X : Cx) (tg : List Expr) : TGs := fun vs σ H Q => ∀ (pins : List (Addr × Obj)) (s : Shared) (us : List Value), Inv X pins σ H s → Vals vs us →
  wpAny (model X.prog X.w) X.A (assignInOrder ((assignEach tg X.env).map (·.2)) us) (fun _ s' => ∃ σ' H', Inv X pins σ' H' s' ∧ Q σ' H') X.xe s
theorem pg_w {tg : Expr} : PG X tg (wG X tg) := fun pins s σ H v u Q I r h => h pins s u I r
theorem pgs_w {tg : List Expr} : PGs X tg (wGs X tg) := fun pins s σ H v u Q I r h => h pins s u I r
theorem wG_of {tg : Expr} {g : TG} {v : V} {σ : St} {H : Hp} {Q : St → Hp → Prop} (h : PG X tg g) (q : g v σ H Q) : wG X tg v σ H Q := fun pins s u I r => h pins s σ H v u Q I r q
theorem wGs_of {tg : List Expr} {g : TGs} {v : List V} {σ : St} {H : Hp} {Q : St → Hp → Prop} (h : PGs X tg g) (q : g v σ H Q) : wGs X tg v σ H Q := fun pins s u I r => h pins s σ H v u Q I r q
theorem wG_mono {tg : Expr} {v : V} {σ : St} {H : Hp} {Q Q' : St → Hp → Prop} (h : wG X tg v σ H Q) (i : ∀ σ H, Q σ H → Q' σ H) : wG X tg v σ H Q' := fun pins s u I r => thn (h pins s u I r) fun _ _ ⟨σ', H', I', q⟩ => ⟨σ', H', I', i _ _ q⟩
theorem wGs_mono {tg : List Expr} {v : List V} {σ : St} {H : Hp} {Q Q' : St → Hp → Prop} (h : wGs X tg v σ H Q) (i : ∀ σ H, Q σ H → Q' σ H) : wGs X tg v σ H Q' := fun pins s u I r => thn (h pins s u I r) fun _ _ ⟨σ', H', I', q⟩ => ⟨σ', H', I', i _ _ q⟩
def RG (X : Cx) (B : Base) (F : Hp) (Q : En → Prop) : St → Hp → Prop := fun σ' H' => ∃ F' env', Rep X.K B F' H' σ' env' ∧ Same F F' ∧ Q env'
structure QG (X : Cx) (tg : Expr) (g : TG3) : Prop where
  of ::
  run : ∀ (B : Base) (σ : St) (F H : Hp) (env : En) (Q : En → Prop) (d : D) (v : V), Rep X.K B F H σ env → Den X.K F d v → g d env Q → wG X tg v σ H (RG X B F Q)
instance {X : Cx} {tg : Expr} {g : TG3} : CoeFun (QG X tg g) (fun _ => ∀ (B : Base) (σ : St) (F H : Hp) (env : En) (Q : En → Prop) (d : D) (v : V), Rep X.K B F H σ env → Den X.K F d v → g d env Q → wG X tg v σ H (RG X B F Q)) := ⟨QG.run⟩
structure QGs (X : Cx) (tg : List Expr) (g : TGs3) : Prop where
  of ::
  run : ∀ (B : Base) (σ : St) (F H : Hp) (env : En) (Q : En → Prop) (ds : List D) (vs : List V), Rep X.K B F H σ env → DenL X.K F ds vs → g ds env Q → wGs X tg vs σ H (RG X B F Q)
instance {X : Cx} {tg : List Expr} {g : TGs3} : CoeFun (QGs X tg g) (fun _ => ∀ (B : Base) (σ : St) (F H : Hp) (env : En) (Q : En → Prop) (ds : List D) (vs : List V), Rep X.K B F H σ env → DenL X.K F ds vs → g ds env Q → wGs X tg vs σ H (RG X B F Q)) := ⟨QGs.run⟩
def kName (i : Nat) : TG3 := fun x env Q => Q (env.set i (some (.d x)))
theorem qg_name {x : Str} (i : Nat) (hN : X.N.Nodup) (hi : X.N[i]? = some x := by rfl) (hx : Loc X.env.scope x := by first | exact Or.inl rfl | exact Or.inr rfl) (hf : X.fn x = true ∨ X.env.scope.names.lookup x = some .local := by first | exact .inl rfl | exact .inr rfl) : QG X (.Name x pos) (kName i) := by
  refine ⟨?_⟩
  intro B σ F H env Q d v rp hd h pins s u I r
  refine pg_name (i := i) hN hi hx hf pins s σ H v u _ I r ?_
  refine ⟨F, _, rp.set hd ?_, Same.refl _, h⟩
  rw [I.len]; exact (List.getElem?_eq_some_iff.mp hi).1
def kNil : TGs3 := fun xs env Q => xs = [] ∧ Q env
def kCons (g : TG3) (gs : TGs3) : TGs3 := fun xs env Q => ∃ x r, xs = x :: r ∧ g x env fun env' => gs r env' Q
theorem qgs_nil : QGs X [] kNil := by
  refine ⟨?_⟩
  intro B σ F H env Q ds vs rp hd h
  obtain ⟨rfl, q⟩ := h
  simp only [DenL] at hd
  exact wGs_of pgs_nil ⟨hd, F, env, rp, Same.refl _, q⟩
theorem qgs_cons {g : TG3} {gs : TGs3} (h1 : QG X e g) (h2 : QGs X es gs) (hs : (assignEach (e :: es) X.env).map (·.2) = assign e X.env :: (assignEach es X.env).map (·.2) := by rfl) : QGs X (e :: es) (kCons g gs) := by
  refine ⟨?_⟩
  intro B σ F H env Q ds vs rp hd h
  obtain ⟨x, r, rfl, q⟩ := h
  simp only [DenL] at hd
  obtain ⟨v, vr, rfl, a1, b1⟩ := hd
  refine wGs_of (pgs_cons pg_w pgs_w hs) ⟨v, vr, rfl, ?_⟩
  refine wG_mono (h1 B σ F H env _ x v rp a1 q) fun σ1 H1 ⟨F1, env1, r1, s1, q1⟩ => ?_
  exact wGs_mono (h2 B σ1 F1 H1 env1 Q r vr r1 (DenL.mono s1 _ _ b1) q1) fun σ2 H2 ⟨F2, env2, r2, s2, q2⟩ => ⟨F2, env2, r2, s1.trans s2, q2⟩
def kTup (n : Nat) (gs : TGs3) : TG3 := fun x env Q => ∃ xs, x = .tup xs ∧ xs.length = n ∧ gs xs env Q
theorem qg_tup {k n : Nat} {gs : TGs3} (hc : X.calm = true) (h : QGs X es gs) (hn : (assignEach es X.env).length = n := by rfl) (hst : (assignEach es X.env).findIdx? (·.1) = none := by rfl) : QG X (.Tuple es k pos) (kTup n gs) := by
  refine ⟨?_⟩
  intro B σ F H env Q d v rp hd hq
  obtain ⟨xs, rfl, hl, q⟩ := hq
  simp only [Den] at hd
  obtain ⟨p, vs, rfl, hs, r⟩ := hd
  refine wG_of (pg_tup hc pgs_w hn hst) ⟨p, vs, rfl, Same.seqT rp.fh hs, by rw [← r.length]; exact hl, ?_⟩
  exact h B σ F H env Q xs vs rp r q
def dAsg (te : TD) (g : TG3) : TS3 := fun D env => te env fun x => g x env D.nx
theorem qs_asg {tg : Expr} {g : TG3} (he : QE X e ta) (hg : QG X tg g) (hs : swapsWithSole [tg] e pos.line X.env = pure false := by rfl) (hw : swappedStores [tg] e X.env = pure none := by rfl)
    (h1 : (assignEach [tg] X.env).map (·.2) = [assign tg X.env] := by rfl) : QS X (.Assign [tg] e pos) (dAsg ta g) := by
  refine ⟨?_⟩
  intro B σ F H env D rp h
  refine wS_of (ps_asg pe_w pg_w hs hw h1) ?_
  refine wE_mono (he B σ F H env _ rp h) fun v H1 ⟨F1, d, r1, s1, d1, q1⟩ => ?_
  exact wG_mono (hg B σ F1 H1 env _ d v r1 d1 q1) fun σ2 H2 ⟨F2, env2, r2, s2, q2⟩ => ⟨F2, env2, r2, q2⟩
def dSet (i : Nat) (te : TD) : TS3 := fun D env => te env fun x => D.nx (env.set i (some (.d x)))
theorem qs_set {x : Str} {pos' : Pos} (i : Nat) (hN : X.N.Nodup) (he : QE X e ta) (hi : X.N[i]? = some x := by rfl) (hx : Loc X.env.scope x := by first | exact Or.inl rfl | exact Or.inr rfl) (hs : swapsWith e (some (.Name x pos')) pos.line X.env = pure false := by rfl)
    (hf : X.fn x = true ∨ X.env.scope.names.lookup x = some .local := by first | exact .inl rfl | exact .inr rfl) : QS X (.Assign [.Name x pos'] e pos) (dSet i ta) := by
  refine ⟨?_⟩
  intro B σ F H env D rp h pins s I
  refine ps_set (i := i) hN hi hx pe_w hs hf pins s σ H _ I ?_
  refine wE_mono (he B σ F H env _ rp h) fun v H1 ⟨F1, d, r1, s1, d1, q1⟩ => ⟨F1, _, r1.set d1 ?_, q1⟩
  rw [I.len]; exact (List.getElem?_eq_some_iff.mp hi).1
def dWhile (c : TB) (tb : TS3) : TS3 := fun D env => ∃ (I : En → Prop) (μ : En → Nat), I env ∧ ∀ env, I env → c env fun k => if k = true then tb { D with nx := fun e' => I e' ∧ μ e' < μ env, ct := fun e' => I e' ∧ μ e' < μ env, bk := D.nx } env else D.nx env
theorem qs_while {body : List Stmt} (hp : PassesOwn (model X.prog X.w) X.A X.env X.xe) (hc : QT X c tA) (hb : QSs X body t) : QS X (.While c body [] pos) (dWhile tA t) := by
  refine ⟨?_⟩
  intro B σ F H env D rp h
  obtain ⟨I, μ, i0, turn⟩ := h
  refine wS_of (ps_while hp pt_w pss_w) ?_
  refine ⟨fun m σ H => ∃ F env, Rep X.K B F H σ env ∧ I env ∧ μ env = m, ⟨_, F, env, rp, i0, rfl⟩, ?_⟩
  rintro m σ1 H1 ⟨F1, env1, r1, i1, rfl⟩
  refine wT_mono (hc B σ1 F1 H1 env1 _ r1 (turn env1 i1)) fun k H2 ⟨F2, r2, s2, q2⟩ => ?_
  cases k with
  | false => exact ⟨F2, env1, r2, q2⟩
  | true =>
    refine ⟨fun σ' H' => ∃ F' env', Rep X.K B F' H' σ' env' ∧ I env' ∧ μ env' < μ env1, fun σ' H' ⟨F', env', r', i', l⟩ => ⟨_, l, F', env', r', i', rfl⟩, ?_⟩
    exact hb B σ1 F2 H2 env1 _ r2 q2
def turns (g : TG3) (tb : TS3) (Z : Ends3) : List D → En → Prop
  | [], env => Z.nx env
  | x :: xs, env => g x env fun env' => tb { Z with nx := turns g tb Z xs, ct := turns g tb Z xs, bk := Z.nx } env'
def signsD (z : Str) : List D := z.cps.toList.map fun c => .str ⟨#[c]⟩
def itemsD : D → Option (List D)
  | .lst xs => some xs
  | .tup xs => some xs
  | .str z => some (signsD z)
  | _ => none
def Its (z : Str) : It := ⟨fun i _ => i < z.cps.size, fun i H v H' => H' = H ∧ ∃ c, z.cps[i]? = some c ∧ v = .str ⟨#[c]⟩, fun i _ => z.cps.size ≤ i⟩
theorem turn_str {P : Program} {w : World} {K : PySem.W.Frag} {tg : Expr} (it : Addr) (z : Str) (t : Tok) (nm : String) (hn : ["enumerate", "zip", "dict_itemiterator", "dict_reverseitemiterator", "odict_iterator", "itertools.zip_longest", "itertools.pairwise"].contains nm = false)
    (W : ∀ A : Around, A.handled = none → Walks P w A it [it] [it] z.cps.size (SignAt z) (fun i h => h.IsStrIter it nm z t i)) (sf : ∀ (A : Around) (i : Nat) (s : Shared) (Q : Value → Shared → Prop) (E : Value → Shared → Prop), s.heap.IsStrIter it nm z t i → Q (.ref it) s → wpAny (model P w) A (pyIter (.ref it)) Q E s)
    (dn : ∀ (A : Around) (i : Nat) (s : Shared) (Q : Option Value → Shared → Prop) (E : Value → Shared → Prop), A.handled = none → s.heap.IsStrIter it nm z t i → z.cps[i]? = none → (∀ h', Heap.ExtBut it s.heap h' → Q none { s with heap := h' }) → wpAny (model P w) A (pyNext (.ref it)) Q E s) :
    Turn P w K tg (Its z) [it] it (fun i h => h.IsStrIter it nm z t i) where
  mem := by simp
  obj := fun i h st b hb => by
    have e : b = it := by simpa using hb
    subst e
    obtain ⟨o, e, c, d⟩ := st
    exact ⟨o, e, fun v z => by rw [d] at z; cases z⟩
  keep := fun i h h' st k => by
    obtain ⟨o, e, c, d⟩ := st
    exact ⟨o, k it (by simp) o e, c, d⟩
  item := by
    intro X hP hw hK hc i pins s σ H E I hf st hg
    subst hP hw hK
    obtain ⟨f0, f1, f2, f3, f4, f5⟩ := hf it (by simp)
    refine (W X.A (I.ok.hd hc)).item i s _ _ hg st fun v h' tk hv st' kk => ?_
    obtain ⟨c, u, hc', rfl⟩ := hv
    have I1 : Inv X pins σ H { s with heap := h', toks := tk } := I.turned (fun b o hb e => kk b o (by simpa using hb) e) f0 f1 f3 f4 f5
    obtain ⟨o, e, c', d⟩ := id st'
    exact ⟨_, rfl, go_of (s := { s with heap := h', toks := tk }) e c' d hn ⟨.str ⟨#[c]⟩, H, I1, ⟨u, rfl⟩, ⟨rfl, c, hc', rfl⟩, st', fun b hb => (hf b hb).1⟩⟩
  done := by
    intro X hP hw hK hc i pins s σ H E I hf st hg
    subst hP hw hK
    obtain ⟨f0, f1, f2, f3, f4, f5⟩ := hf it (by simp)
    have hg' : z.cps.size ≤ i := hg
    exact dn X.A i s _ _ (I.ok.hd hc) st (by simp; exact hg') fun h' eb => ⟨rfl, I.turned (t' := s.toks) (fun b o hb e => eb b o hb e) f0 f1 f3 f4 f5⟩
  self := fun A i s Q E st h => sf A i s Q E st h
def iSeq (K : PySem.W.Frag) (tl : TE) : TI := fun σ H R => tl σ H fun x H1 => (∃ a, x = .ref a ∧ (((∃ xs, SqL K H1 a xs) ∧ R (Itl K a) H1) ∨ ((∃ xs, SqT K H1 a xs) ∧ R (Itt K a) H1))) ∨ ∃ z, x = .str z ∧ R (Its z) H1
theorem pi_seq {tg l : Expr} {tl : TE} (hl : PE X l tl) : PI X tg l (iSeq X.K tl) := by
  intro pins s σ H R I h
  refine thn (hl pins s σ H _ I h) fun v s1 ⟨x, H1, I1, r1, q1⟩ => ?_
  rcases q1 with ⟨a, e, q⟩ | ⟨z, e, q⟩
  rotate_left
  · subst e
    obtain ⟨t, rfl⟩ := r1
    have fin : ∀ (o : Obj) (nm : String), (∀ v, o.data ≠ .cell v) → Turn X.prog X.w X.K tg (Its z) [s1.heap.objs.size] s1.heap.objs.size (fun i h => h.IsStrIter s1.heap.objs.size nm z t i) → (s1.heap.push o).IsStrIter s1.heap.objs.size nm z t 0 →
        PIE X pins σ tg R (.ref s1.heap.objs.size) { s1 with heap := s1.heap.push o } := fun o nm hcell T st => by
      refine ⟨s1.heap.objs.size, [s1.heap.objs.size], _, _, H1, rfl, I1.kept (t' := s1.toks) fun b o e => Heap.get?_push_of_some _ e, T, st, fun b hb => ?_, q⟩
      have e : b = s1.heap.objs.size := by simpa using hb
      subst e
      exact I1.fpOk (Nat.le_refl _) (I1.hok.fresh (Nat.le_refl _))
    cases ha : z.cps.all (· < 128)
    · exact wpAny_pyIter_wide ha (fin _ "str_iterator" (fun v e => by cases e) (turn_str _ z t "str_iterator" (by decide) (fun A hA => Walks.strWide hA _ z t) (fun A i s Q E st h => wpAny_pyIter_striter_wide st h) (fun A i s Q E hh st hx h => wpAny_pyNext_wide_end hh st hx h)) ⟨_, Heap.get?_push_size _ rfl, rfl, rfl⟩)
    · exact wpAny_pyIter_ascii ha (fin _ "str_ascii_iterator" (fun v e => by cases e) (turn_str _ z t "str_ascii_iterator" (by decide) (fun A hA => Walks.strAscii hA _ z t) (fun A i s Q E st h => wpAny_pyIter_striter_ascii st h) (fun A i s Q E hh st hx h => wpAny_pyNext_ascii_end hh st hx h)) ⟨_, Heap.get?_push_size _ rfl, rfl, rfl⟩)
  subst e
  cases r1
  rcases q with ⟨⟨xs, hq⟩, q⟩ | ⟨⟨xs, hq⟩, q⟩
  · obtain ⟨its, rv, p, hz⟩ := I1.list hq
    refine wpAny_pyIter_list p.isList ?_
    refine ⟨s1.heap.objs.size, [s1.heap.objs.size], _, _, H1, rfl, I1.kept (t' := s1.toks) fun b o e => Heap.get?_push_of_some _ e, turn_list a _, ⟨_, Heap.get?_push_size _ rfl, rfl, rfl⟩, fun b hb => ?_, q⟩
    have e : b = s1.heap.objs.size := by simpa using hb
    subst e
    exact I1.fpOk (Nat.le_refl _) (I1.hok.fresh (Nat.le_refl _))
  · obtain ⟨its, rv, p, hz⟩ := I1.tuple hq
    refine wpAny_pyIter_tuple (show s1.heap.IsTuple a its.toArray from p) ?_
    refine ⟨s1.heap.objs.size, [s1.heap.objs.size], _, _, H1, rfl, I1.kept (t' := s1.toks) fun b o e => Heap.get?_push_of_some _ e, turn_tuple a _, ⟨_, Heap.get?_push_size _ rfl, rfl, rfl⟩, fun b hb => ?_, q⟩
    have e : b = s1.heap.objs.size := by simpa using hb
    subst e
    exact I1.fpOk (Nat.le_refl _) (I1.hok.fresh (Nat.le_refl _))
theorem denL_signs {K : PySem.W.Frag} {F : Hp} (z : Str) : DenL K F (signsD z) (z.cps.toList.map fun c => V.str ⟨#[c]⟩) := by
  unfold signsD
  induction z.cps.toList with
  | nil => exact denL_nil
  | cons c r ih => exact denL_cons den_str ih
def dFor (te : TD) (g : TG3) (tb : TS3) : TS3 := fun D env => te env fun x => ∃ xs, itemsD x = some xs ∧ turns g tb D xs env
theorem drop_cons {α : Type} {xs : List α} {i : Nat} {x : α} (h : xs[i]? = some x) : xs.drop i = x :: xs.drop (i + 1) := by
  obtain ⟨hl, e⟩ := List.getElem?_eq_some_iff.mp h
  rw [List.drop_eq_getElem_cons hl, e]
theorem RS.same {B : Base} {G : Hp} {D : Ends3} (s : Same B.F G) : (∀ σ H, (RS X ⟨G, B.H, B.N, B.nb⟩ D).nx σ H → (RS X B D).nx σ H) ∧ (∀ v H, (RS X ⟨G, B.H, B.N, B.nb⟩ D).rt v H → (RS X B D).rt v H) ∧
    (∀ σ H, (RS X ⟨G, B.H, B.N, B.nb⟩ D).bk σ H → (RS X B D).bk σ H) ∧ (∀ σ H, (RS X ⟨G, B.H, B.N, B.nb⟩ D).ct σ H → (RS X B D).ct σ H) :=
  ⟨fun _ _ ⟨F', env', r, q⟩ => ⟨F', env', r.back s, q⟩, fun _ _ ⟨F', d, r, hd, q⟩ => ⟨F', d, r.back s, hd, q⟩, fun _ _ ⟨F', env', r, q⟩ => ⟨F', env', r.back s, q⟩, fun _ _ ⟨F', env', r, q⟩ => ⟨F', env', r.back s, q⟩⟩
theorem qs_for {tg iter : Expr} {body : List Stmt} {g : TG3} (hp : PassesOwn (model X.prog X.w) X.A X.env X.xe) (hc : X.calm = true) (hi : QE X iter ta) (hg : QG X tg g) (hb : QSs X body t)
    (hs : ∀ x, foldedSetIterable iter X.env x = pure x := by intro _; rfl) : QS X (.For tg iter body [] pos) (dFor ta g t) := by
  refine ⟨?_⟩
  intro B σ F H env D rp h
  refine wS_of (ps_for hp hc (pi_seq pe_w) pg_w pss_w hs) ?_
  refine wE_mono (hi B σ F H env _ rp h) fun v H1 ⟨F1, d, r1, s1, d1, xs, hx, q1⟩ => ?_
  have core : ∀ (a : Addr) (vs : List V) (J : It), DenL X.K F1 xs vs → (∀ (i : Nat) (x : V) (G H' : Hp), Same F1 G → Same G H' → vs[i]? = some x → J.go i H') → (∀ (i : Nat) (x : V) (G H' : Hp) (y : V) (H'' : Hp), Same F1 G → Same G H' → vs[i]? = some x → J.yld i H' y H'' → H'' = H' ∧ y = x) →
      (∀ (G H' : Hp), Same F1 G → Same G H' → J.stop vs.length H') →
      ∃ W : Nat → Nat → St → Hp → Prop, (∃ m, W 0 m σ H1) ∧ ∀ i m σ H, W i m σ H → (J.stop i H ∧ (RS X B D).nx σ H) ∨ (J.go i H ∧ ∃ N : St → Hp → Prop, (∀ σ' H', N σ' H' → ∃ m', m' < m ∧ W (i + 1) m' σ' H') ∧
        ∀ x H', J.yld i H x H' → wG X tg x σ H' fun σ2 H2 => wSs X body { RS X B D with nx := N, ct := N, bk := (RS X B D).nx } σ2 H2) := by
    intro a vs J dl go yld stop
    have hlen := dl.length
    refine ⟨fun i m σ H => m = vs.length - i ∧ i ≤ vs.length ∧ ∃ F env, Rep X.K ⟨F1, B.H, B.N, B.nb⟩ F H σ env ∧ turns g t D (xs.drop i) env, ⟨vs.length, by simp, Nat.zero_le _, F1, env, r1.now, by simpa using q1⟩, ?_⟩
    rintro i m σ2 H2 ⟨rfl, hi2, F2, env2, r2, q2⟩
    by_cases hlt : i < vs.length
    · have hv : vs[i]? = some vs[i] := by simp [hlt]
      obtain ⟨dx, hdx, ddx⟩ := dl.getV hv
      rw [drop_cons hdx] at q2
      refine .inr ⟨go i _ F2 H2 r2.f0 r2.fh hv, fun σ' H' => ∃ F env, Rep X.K ⟨F1, B.H, B.N, B.nb⟩ F H' σ' env ∧ turns g t D (xs.drop (i + 1)) env, fun σ' H' ⟨F', env', r', q'⟩ => ⟨vs.length - (i + 1), by omega, rfl, by omega, F', env', r', q'⟩, fun y H' hy => ?_⟩
      obtain ⟨rfl, rfl⟩ := yld i _ F2 H2 y H' r2.f0 r2.fh hv hy
      have st := hg ⟨F1, B.H, B.N, B.nb⟩ σ2 F2 _ env2 _ dx _ r2 (Den.mono r2.f0 _ _ ddx) q2
      refine wG_mono st fun σ3 H3 ⟨F3, env3, r3, s3, q3⟩ => ?_
      have bd := hb ⟨F1, B.H, B.N, B.nb⟩ σ3 F3 H3 env3 _ r3 q3
      obtain ⟨z1, z2, z3, z4⟩ := RS.same (X := X) (B := B) (D := D) (r1.f0)
      exact wSs_mono bd (fun _ _ q => q) z2 z1 (fun _ _ q => q)
    · have e : i = vs.length := by omega
      subst e
      rw [List.drop_eq_nil_of_le (by omega)] at q2
      exact .inl ⟨stop F2 H2 r2.f0 r2.fh, F2, env2, r2.back r1.f0, q2⟩
  cases d with
  | lst ys =>
    simp only [itemsD] at hx; cases hx
    simp only [Den] at d1
    obtain ⟨a, vs, rfl, q, r⟩ := d1
    refine .inl ⟨a, rfl, .inl ⟨⟨vs, r1.fh.seq q⟩, core a vs (Itl X.K a) r (fun i x G H' s1 s2 hv => ⟨vs, x, s2.seq (s1.seq q), hv⟩) (fun i x G H' y H'' s1 s2 hv hy => ?_) (fun G H' s1 s2 => ⟨vs, s2.seq (s1.seq q), Nat.le_refl _⟩)⟩⟩
    obtain ⟨e1, e2⟩ := hy
    have := e2 vs (s2.seq (s1.seq q))
    rw [hv] at this
    exact ⟨e1, (Option.some.inj this).symm⟩
  | tup ys =>
    simp only [itemsD] at hx; cases hx
    simp only [Den] at d1
    obtain ⟨a, vs, rfl, q, r⟩ := d1
    refine .inl ⟨a, rfl, .inr ⟨⟨vs, Same.seqT r1.fh q⟩, core a vs (Itt X.K a) r (fun i x G H' s1 s2 hv => ⟨vs, x, Same.seqT s2 (Same.seqT s1 q), hv⟩) (fun i x G H' y H'' s1 s2 hv hy => ?_) (fun G H' s1 s2 => ⟨vs, Same.seqT s2 (Same.seqT s1 q), Nat.le_refl _⟩)⟩⟩
    obtain ⟨e1, e2⟩ := hy
    have := e2 vs (Same.seqT s2 (Same.seqT s1 q))
    rw [hv] at this
    exact ⟨e1, (Option.some.inj this).symm⟩
  | str z =>
    simp only [itemsD] at hx; cases hx
    simp only [Den] at d1
    subst d1
    refine .inr ⟨z, rfl, core 0 (z.cps.toList.map fun c => V.str ⟨#[c]⟩) (Its z) (denL_signs z) (fun i x G H' s1 s2 hv => ?_) (fun i x G H' y H'' s1 s2 hv hy => ?_) (fun G H' s1 s2 => ?_)⟩
    · have := (List.getElem?_eq_some_iff.mp hv).1
      show i < z.cps.size
      simpa using this
    · obtain ⟨e1, c, hc, rfl⟩ := hy
      rw [List.getElem?_map, Array.getElem?_toList, hc] at hv
      exact ⟨e1, Option.some.inj hv⟩
    · show z.cps.size ≤ _
      simp
  | _ => simp only [itemsD] at hx; cases hx
def intsD (lo : Int) (n : Nat) : List D := (List.range n).map fun (i : Nat) => D.int (lo + (i : Int))
def dForR (f : List D → (Int → Nat → Prop) → Prop) (ts : TDs) (g : TG3) (tb : TS3) : TS3 := fun D env => ts env fun xs => f xs fun lo n => turns g tb D (intsD lo n) env
def rng1 (xs : List D) (Q : Int → Nat → Prop) : Prop := match xs with
  | [.int j] => (-(2 ^ 62) ≤ j ∧ j < 2 ^ 62) ∧ Q 0 j.toNat
  | _ => False
def rng2 (xs : List D) (Q : Int → Nat → Prop) : Prop := match xs with
  | [.int i, .int j] => (-(2 ^ 62) ≤ i ∧ i < 2 ^ 62 ∧ -(2 ^ 62) ≤ j ∧ j < 2 ^ 62) ∧ Q i (j - i).toNat
  | _ => False
theorem for_ints {tg : Expr} {body : List Stmt} {g : TG3} (hg : QG X tg g) (hb : QSs X body t) {B : Base} {D : Ends3} {lo : Int} {n : Nat} {σ : St} {F1 H1 : Hp} {env : En} (r1 : Rep X.K B F1 H1 σ env) (q1 : turns g t D (intsD lo n) env) :
    ∃ W : Nat → Nat → St → Hp → Prop, (∃ m, W 0 m σ H1) ∧ ∀ i m σ H, W i m σ H → ((Itr lo n).stop i H ∧ (RS X B D).nx σ H) ∨ ((Itr lo n).go i H ∧ ∃ N : St → Hp → Prop, (∀ σ' H', N σ' H' → ∃ m', m' < m ∧ W (i + 1) m' σ' H') ∧
        ∀ x H', (Itr lo n).yld i H x H' → wG X tg x σ H' fun σ2 H2 => wSs X body { RS X B D with nx := N, ct := N, bk := (RS X B D).nx } σ2 H2) := by
  have hl : (intsD lo n).length = n := by simp [intsD]
  refine ⟨fun i m σ H => m = n - i ∧ i ≤ n ∧ ∃ F env, Rep X.K B F H σ env ∧ turns g t D ((intsD lo n).drop i) env, ⟨n, by simp, Nat.zero_le _, F1, env, r1, by simpa using q1⟩, ?_⟩
  rintro i m σ2 H2 ⟨rfl, hi2, F2, env2, r2, q2⟩
  by_cases hlt : i < n
  · have hdx : (intsD lo n)[i]? = some (L3.D.int (lo + (i : Int))) := by simp [intsD, hlt]
    rw [drop_cons hdx] at q2
    refine .inr ⟨hlt, fun σ' H' => ∃ F env, Rep X.K B F H' σ' env ∧ turns g t D ((intsD lo n).drop (i + 1)) env, fun σ' H' ⟨F', env', r', q'⟩ => ⟨n - (i + 1), by omega, rfl, by omega, F', env', r', q'⟩, fun y H' hy => ?_⟩
    obtain ⟨rfl, rfl⟩ := hy
    refine wG_mono (hg B σ2 F2 _ env2 _ _ _ r2 den_int q2) fun σ3 H3 ⟨F3, env3, r3, s3, q3⟩ => ?_
    exact wSs_mono (hb B σ3 F3 H3 env3 _ r3 q3) (fun _ _ q => q) (fun _ _ q => q) (fun _ _ q => q) (fun _ _ q => q)
  · have e : i = n := by omega
    subst e
    rw [List.drop_eq_nil_of_le (by omega)] at q2
    exact .inl ⟨Nat.le_refl _, F2, env2, r2, q2⟩
theorem qs_forR1 {tg : Expr} {body : List Stmt} {g : TG3} {p : Pos} {pos2 : Pos} (hp : PassesOwn (model X.prog X.w) X.A X.env X.xe) (hc : X.calm = true) (hgl : Gl X "range") (hm : X.mg "range" = none) (ha : QA X [a] ts) (hg : QG X tg g) (hb : QSs X body t)
    (hst : starEach [a] X.env = [(false, eval a X.env)] := by rfl) (hs : ∀ x, foldedSetIterable (.Call (.Name "range" p) [a] [] pos2) X.env x = pure x := by intro _; rfl) : QS X (.For tg (.Call (.Name "range" p) [a] [] pos2) body [] pos) (dForR rng1 ts g t) := by
  refine ⟨?_⟩
  intro B σ F H env D rp h
  refine wS_of (ps_for hp hc (pi_range1 hgl hm pa_w hst) pg_w pss_w hs) ?_
  refine wA_mono (ha B σ F H env _ rp h) fun vs H1 ⟨F1, ds, r1, s1, d1, q1⟩ => ?_
  dsimp only at q1; unfold rng1 at q1
  split at q1
  · simp only [DenL, Den] at d1
    obtain ⟨v, r, rfl, rfl, rfl⟩ := d1
    exact ⟨_, rfl, q1.1.1, q1.1.2, for_ints hg hb r1 q1.2⟩
  · exact q1.elim
theorem qs_forR2 {tg : Expr} {body : List Stmt} {g : TG3} {p : Pos} {pos2 : Pos} (hp : PassesOwn (model X.prog X.w) X.A X.env X.xe) (hc : X.calm = true) (hgl : Gl X "range") (hm : X.mg "range" = none) (ha : QA X [a, b] ts) (hg : QG X tg g) (hb : QSs X body t)
    (hst : starEach [a, b] X.env = [(false, eval a X.env), (false, eval b X.env)] := by rfl) (hst2 : starEach [b] X.env = [(false, eval b X.env)] := by rfl) (hs : ∀ x, foldedSetIterable (.Call (.Name "range" p) [a, b] [] pos2) X.env x = pure x := by intro _; rfl) :
    QS X (.For tg (.Call (.Name "range" p) [a, b] [] pos2) body [] pos) (dForR rng2 ts g t) := by
  refine ⟨?_⟩
  intro B σ F H env D rp h
  refine wS_of (ps_for hp hc (pi_range2 hgl hm pa_w hst hst2) pg_w pss_w hs) ?_
  refine wA_mono (ha B σ F H env _ rp h) fun vs H1 ⟨F1, ds, r1, s1, d1, q1⟩ => ?_
  dsimp only at q1; unfold rng2 at q1
  split at q1
  · simp only [DenL, Den] at d1
    obtain ⟨v, r, rfl, rfl, v', r', rfl, rfl, rfl⟩ := d1
    exact ⟨_, _, rfl, q1.1, for_ints hg hb r1 q1.2⟩
  · exact q1.elim
def RF (X : Cx) (B : Base) (σ : St) (env : En) (F : Hp) (Q : List D → Prop) : VK := fun v H' => ∃ F' H1 p vs ds, v = .ref p ∧ H1 p = none ∧ H' = upd H1 p (.lst vs) ∧ Rep X.K B F' H1 σ env ∧ Same F F' ∧ DenL X.K F' ds vs ∧ Q ds
structure QF (X : Cx) (e : Expr) (t : TDs) : Prop where
  of ::
  run : ∀ (B : Base) (σ : St) (F H : Hp) (env : En) (Q : List D → Prop), Rep X.K B F H σ env → t env Q → wE X e σ H (RF X B σ env F Q)
instance {X : Cx} {e : Expr} {t : TDs} : CoeFun (QF X e t) (fun _ => ∀ (B : Base) (σ : St) (F H : Hp) (env : En) (Q : List D → Prop), Rep X.K B F H σ env → t env Q → wE X e σ H (RF X B σ env F Q)) := ⟨QF.run⟩
def cFew (ts : TDs) : TDs := fun env Q => ts env fun xs => xs.length ≤ sizeLine ∧ Q xs
theorem qf_lst (h : QA X es ts) : QF X (.List es pos) (cFew ts) := by
  refine ⟨?_⟩
  intro B σ F H env Q rp hq
  refine wE_of (pe_lst pa_w) ?_
  exact wA_mono (h B σ F H env _ rp hq) fun vs H1 ⟨F1, ds, r1, s1, d1, z, q1⟩ => ⟨by rw [← d1.length]; exact z, fun p hp => ⟨F1, H1, p, vs, ds, rfl, hp, rfl, r1, s1, d1, q1⟩⟩
def dSetOwn (i : Nat) (ts : TDs) : TS3 := fun D env => ts env fun xs => D.nx (env.set i (some (.own xs)))
theorem qs_setOwn {x : Str} {pos' : Pos} (i : Nat) (hN : X.N.Nodup) (he : QF X e ts) (hi : X.N[i]? = some x := by rfl) (hx : Loc X.env.scope x := by first | exact Or.inl rfl | exact Or.inr rfl) (hs : swapsWith e (some (.Name x pos')) pos.line X.env = pure false := by rfl)
    (hf : X.fn x = true ∨ X.env.scope.names.lookup x = some .local := by first | exact .inl rfl | exact .inr rfl) : QS X (.Assign [.Name x pos'] e pos) (dSetOwn i ts) := by
  refine ⟨?_⟩
  intro B σ F H env D rp h pins s I
  refine ps_set (i := i) hN hi hx pe_w hs hf pins s σ H _ I ?_
  refine wE_mono (he B σ F H env _ rp h) fun v H' ⟨F1, H1, p, vs, ds, e1, hp, e2, r1, s1, d1, q1⟩ => ?_
  subst e1 e2
  refine ⟨F1, _, r1.setOwn hp d1 ?_, q1⟩
  rw [I.len]; exact (List.getElem?_eq_some_iff.mp hi).1
def dAppend (i : Nat) (te : TD) : TS3 := fun D env => ∃ xs, env[i]? = some (some (.own xs)) ∧ xs.length < sizeLine ∧ te env fun x => D.nx (env.set i (some (.own (xs ++ [x]))))
theorem qs_append {x : Str} {px apos cpos : Pos} (i : Nat) (he : QE X e ta) (hN : X.N[i]? = some x := by rfl) (hv : Vis X.env.scope x := by first | exact Or.inl rfl | exact Or.inr (Or.inl rfl) | exact Or.inr (Or.inr rfl)) (hd : (x == ("__debug__" : Str)) = false := by decide) (hcd : (x == ("__classdict__" : Str)) = false := by decide)
    (hbase : attributeBase (.Name x px) "append" X.env (eval (.Name x px) X.env) = eval (.Name x px) X.env := by rfl)
    (hfew : ((backTo cpos (starEach [e] X.env)).all (fun x => !x.1) && (backToKw cpos (keywordEach [] X.env)).all (fun x => x.1.isSome)
      && decide (([e] : List Expr).length + ([] : List Keyword).length + (if ([] : List Keyword).isEmpty then 0 else 1) < 30)) = true := by rfl)
    (hline : (apos.endLine == cpos.line) = true := by rfl) (hst : starEach [e] X.env = (false, eval e X.env) :: starEach [] X.env := by exact star_of rfl) (hplain : (backTo cpos (starEach ([] : List Expr) X.env)).any (·.1) = false := by rfl)
    (hs : swapsWith (.Call (.Attribute (.Name x px) "append" apos) [e] [] cpos) none pos.line X.env = pure false := by rfl) :
    QS X (.Expr (.Call (.Attribute (.Name x px) "append" apos) [e] [] cpos) pos) (dAppend i ta) := by
  refine ⟨?_⟩
  intro B σ F H env D rp h
  refine wS_of (ps_expr (pe_bm PySem.F.plainAttrs_list PySem.F.slot_list_append PySem.F.type_list_append mt_append (pe_var hN hv hd hcd) (pa_cons pe_w pa_nil hst) hbase hfew hline hst hplain) hs) ?_
  obtain ⟨xs, hx, hl, h⟩ := h
  obtain ⟨p, vs, h1, h2, h3, h4, h5⟩ := rp.ov i xs hx
  refine ⟨.ref p, h1, .inl ⟨rfl, vs, SqL.of h2⟩, ?_⟩
  refine wE_mono (he B σ F H env _ rp h) fun y H1 ⟨F1, d, r1, s1, d1, q1⟩ => ?_
  obtain ⟨p', vs', g1, g2, g3, g4, g5⟩ := r1.ov i xs hx
  rw [h1] at g1; cases g1
  exact ⟨p, vs', y, rfl, rfl, g2, by rw [← g5.length]; exact hl, F1, _, r1.change hx h1 (g5.append (denL_cons d1 denL_nil)), q1⟩
end
end L2.L3
set_option Elab.async false
set_option linter.all false
set_option maxRecDepth 100000
set_option maxHeartbeats 4000000
namespace L2.L3
open PySem PySem.Spec PyProof.Rows
abbrev Fw := List D → (D → Prop) → Prop
def spF (K : PySem.W.Frag) (f : Fw) : Sp := fun vs H Q _ => ∃ (F : Hp) (ds : List D) (P : D → Prop), Same F H ∧ DenL K F ds vs ∧ f ds P ∧
  ∀ (d : D) (v : V) (F' H' : Hp), Same F F' → Same H H' → Same F' H' → (∀ p, H p ≠ none → F p = none → F' p = none) → Den K F' d v → P d → Q v H'
structure Known (P : Program) (w : World) (K : PySem.W.Frag) (mg : Str → Option Value) (base : Heap) (k : Nat) (x : Str) (f : Fw) : Prop where
  ex : ∃ (fa : Addr) (fd : FuncData) (ps : List Str), FnOk P w K mg base CX0 k fa fd ps (spF K f) ∧ mg x = some (.ref fa) ∧ PySem.W.keepIn K (.ref fa) = true ∧ Binds K fd ps []
def start3 (N : List Str) (ds : List D) : En := ds.map (fun d => some (Lo.d d)) ++ List.replicate (N.length - ds.length) none
section
variable {X : Cx} {e : Expr} {es : List Expr} {ts : TDs} {p pos : Pos} {x : Str} {k : Nat} {f : Fw}
theorem q_call (h : Known X.prog X.w X.K X.mg X.base k x f) (hr : Room k X.A) (ha : QA X (e :: es) ts) (hg : Gl X x := by rfl) (hdb : (x == ("__debug__" : Str)) = false := by decide)
    (he : starEach (e :: es) X.env = (false, eval e X.env) :: starEach es X.env := by exact star_of rfl) (hpl : (backTo pos (starEach es X.env)).any (·.1) = false := by rfl) : QE X (.Call (.Name x p) (e :: es) [] pos) (cCall f ts) := by
  refine ⟨?_⟩
  intro B σ F H env Q rp hq
  obtain ⟨fa, fd, ps, G, hm, hk, hb⟩ := h.ex
  refine wE_of (pe_call G hr hg hm hk hb .nil pass0 pa_w hdb he hpl) ?_
  refine wA_mono (ha B σ F H env _ rp hq) fun vs H1 ⟨F1, ds, r1, s1, d1, hf⟩ => ?_
  rw [List.append_nil]
  exact ⟨F1, ds, Q, r1.fh, d1, hf, fun d v F' H' a b c n hd q => ⟨F', d, r1.ext a c b n, s1.trans a, hd, q⟩⟩
end
theorem start3_rep {K : PySem.W.Frag} {F H : Hp} {N : List Str} {ds : List D} {vs : List V} (fh : Same F H) (hd : DenL K F ds vs) :
    Rep K ⟨F, H, fun p => H p ≠ none ∧ F p = none, fun _ h => h.1⟩ F H (start N vs) (start3 N ds) := by
  have noown : ∀ (i : Nat) ys, (start3 N ds)[i]? = some (some (.own ys)) → False := fun i ys q => by
    unfold start3 at q
    by_cases hi : i < ds.length
    · rw [List.getElem?_append_left (by simpa using hi), List.getElem?_map] at q
      rw [List.getElem?_eq_getElem hi] at q
      cases q
    · rw [List.getElem?_append_right (by simpa using hi), List.getElem?_replicate] at q
      split at q <;> cases q
  have nodic : ∀ (i : Nat) ys, (start3 N ds)[i]? = some (some (.dic ys)) → False := fun i ys q => by
    unfold start3 at q
    by_cases hi : i < ds.length
    · rw [List.getElem?_append_left (by simpa using hi), List.getElem?_map] at q
      rw [List.getElem?_eq_getElem hi] at q
      cases q
    · rw [List.getElem?_append_right (by simpa using hi), List.getElem?_replicate] at q
      split at q <;> cases q
  refine ⟨Same.refl _, fh, Same.refl _, fun p h => h.2, fun i x q => ?_, fun i ys q => (noown i ys q).elim, fun i j xs ys p _ q => (noown i xs q).elim, fun i ys q => (nodic i ys q).elim, fun i j xs ys p _ q => (nodic i xs q).elim⟩
  unfold start3 at q
  by_cases hi : i < ds.length
  · rw [List.getElem?_append_left (by simpa using hi), List.getElem?_map] at q
    rw [List.getElem?_eq_getElem hi] at q
    cases q
    obtain ⟨v, h1, h2⟩ := hd.get (List.getElem?_eq_getElem hi)
    refine ⟨v, ?_, h2⟩
    unfold start
    rw [List.getElem?_append_left (by rw [List.length_map, ← hd.length]; exact hi), List.getElem?_map, h1]
    rfl
  · rw [List.getElem?_append_right (by simpa using hi), List.getElem?_replicate] at q
    split at q <;> cases q
section
variable {P : Program} {w : World} {K : PySem.W.Frag} {mg : Str → Option Value} {base : Heap}
theorem Fun.fnok {x qual : Str} {st : Stmt} {fa : Addr} {fd : FuncData} {N ps : List Str} {k : Nat} {f : Fw} (F : Fun K x qual st fa fd) (S : FnScope N ps (defScope st))
    (hl : ∀ ds Q, f ds Q → ds.length = ps.length)
    (hbody : ∀ (cdv : Value) (A : Around) (outer : List Env) (s : Shared) (H : Hp) (E : XK), Room k (A.deeper (envOfC qual (defScope st) s.heap.objs.size fa cdv)) →
      ∃ t, QSs (cxOf CX0 P w K mg base N qual (defScope st) fa cdv A outer s H E).nox (defBody st) t ∧ ∀ ds (Q : D → Prop), f ds Q → t { nx := fun _ => Q .non, rt := Q } (start3 N ds)) :
    FnOk P w K mg base CX0 (k + 1) fa fd ps (spF K f) := by
  refine F.ok S (fun vs H Q E h => ?_) (fun cdv A outer s H vs Q E hr h => ?_)
  · obtain ⟨F0, ds, P, _, hd, hf, _⟩ := h
    rw [← hd.length]; exact hl ds _ hf
  · obtain ⟨F0, ds, P, fh, hd, hf, kk⟩ := h
    obtain ⟨t, ht, hq⟩ := hbody cdv A outer s H E hr
    refine ⟨_, pss_w, ?_⟩
    have core := ht _ (start N vs) F0 H (start3 N ds) _ (start3_rep fh hd) (hq ds P hf)
    refine wSs_mono core (fun σ' H' ⟨F', env', r, q⟩ => ?_) (fun v H' ⟨F', d', r, dd, q⟩ => ?_) (fun _ _ ⟨_, _, _, q⟩ => q) (fun _ _ ⟨_, _, _, q⟩ => q)
    · exact kk .non .non F' H' r.f0 r.h0 r.fh (fun p h1 h2 => r.nf p ⟨h1, h2⟩) den_non q
    · exact kk d' v F' H' r.f0 r.h0 r.fh (fun p h1 h2 => r.nf p ⟨h1, h2⟩) dd q
theorem Fun.known {x qual : Str} {st : Stmt} {fa : Addr} {fd : FuncData} {N ps : List Str} {k : Nat} {f : Fw} (F : Fun K x qual st fa fd) (S : FnScope N ps (defScope st)) (hmg : mg x = some (.ref fa)) (hb : Binds K fd ps [])
    (hl : ∀ ds Q, f ds Q → ds.length = ps.length)
    (hbody : ∀ (cdv : Value) (A : Around) (outer : List Env) (s : Shared) (H : Hp) (E : XK), Room k (A.deeper (envOfC qual (defScope st) s.heap.objs.size fa cdv)) →
      ∃ t, QSs (cxOf CX0 P w K mg base N qual (defScope st) fa cdv A outer s H E).nox (defBody st) t ∧ ∀ ds (Q : D → Prop), f ds Q → t { nx := fun _ => Q .non, rt := Q } (start3 N ds)) :
    Known P w K mg base (k + 1) x f := ⟨fa, fd, ps, Fun.fnok F S hl hbody, hmg, F.kp, hb⟩
def fLaw (n : Nat) : Fw := fun ds Q => ∃ ns : List Int, ds = [.lst (ns.map D.int)] ∧ ns.length ≤ n ∧ Q (.bl true)
theorem law_sp {K : PySem.W.Frag} {H : Hp} {a : Addr} {ns : List Int} {n : Nat} (hl : ns.length ≤ n) (hS : SqL K H a (ns.map V.int)) : spF K (fLaw n) [.ref a] H (fun v _ => v = .bl true) fun _ _ _ => False := by
  refine ⟨H, [.lst (ns.map D.int)], fun d => d = .bl true, Same.refl _, denL_cons (den_lst hS (denL_ints ns)) denL_nil, ⟨ns, rfl, hl, rfl⟩, fun d v F' H' _ _ _ _ hd q => ?_⟩
  subst q
  simpa only [Den] using hd
end
section
variable {X : Cx} {a b c e : Expr} {es : List Expr} {ta tb tc : TD} {ts : TDs} {pos : Pos} {st : Stmt} {sts : List Stmt} {t u : TS3}
def dFreeze (i : Nat) (t : TS3) : TS3 := fun D env => ∃ xs, env[i]? = some (some (.own xs)) ∧ t D (env.set i (some (.d (.lst xs))))
theorem qs_freeze (i : Nat) (h : QS X st t) : QS X st (dFreeze i t) := by
  refine ⟨?_⟩
  intro B σ F H env D rp hq
  obtain ⟨xs, hx, q⟩ := hq
  obtain ⟨F', s', r'⟩ := rp.freeze hx
  exact h B σ F' H _ D r' q
def cIxOwn (i : Nat) (tj : TD) : TD := fun env Q => ∃ xs, env[i]? = some (some (.own xs)) ∧ tj env fun y => ∃ j v, y = .int j ∧ atI xs j = some v ∧ Q v
theorem q_ixOwn {x : Str} {px : Pos} (i : Nat) (hb : QE X b tb) (hs : PlainIx b) (hN : X.N[i]? = some x := by rfl) (hv : Vis X.env.scope x := by first | exact Or.inl rfl | exact Or.inr (Or.inl rfl) | exact Or.inr (Or.inr rfl)) (hd : (x == ("__debug__" : Str)) = false := by decide)
    (hcd : (x == ("__classdict__" : Str)) = false := by decide) : QE X (.Subscript (.Name x px) b pos) (cIxOwn i tb) := by
  refine ⟨?_⟩
  intro B σ F H env Q rp h
  refine wE_of (pe_ix ix_list (pe_var hN hv hd hcd) pe_w hs) ?_
  obtain ⟨xs, hx, h⟩ := h
  obtain ⟨p, vs, h1, h2, h3, h4, h5⟩ := rp.ov i xs hx
  refine ⟨.ref p, h1, ?_⟩
  refine wE_mono (hb B σ F H env _ rp h) fun y H1 ⟨F1, d, r1, s1, d1, j, v, hj, hv, q1⟩ => ?_
  subst hj
  simp only [Den] at d1
  obtain ⟨p', vs', g1, g2, g3, g4, g5⟩ := r1.ov i xs hx
  rw [h1] at g1; cases g1
  obtain ⟨w, hw, dw⟩ := g5.atI hv
  exact ⟨p, vs', j, w, rfl, d1, SqL.of g2, hw, F1, v, r1, s1, dw, q1⟩
def dPut (i : Nat) (tj te : TD) : TS3 := fun D env => te env fun x => ∃ xs, env[i]? = some (some (.own xs)) ∧ tj env fun y => ∃ (j : Int) (k : Nat), y = .int j ∧ ixN xs.length j = some k ∧ D.nx (env.set i (some (.own (xs.set k x))))
theorem qs_put {x : Str} {px p2 : Pos} (i : Nat) (hb : QE X b tb) (he : QE X e ta) (hN : X.N[i]? = some x := by rfl) (hv : Vis X.env.scope x := by first | exact Or.inl rfl | exact Or.inr (Or.inl rfl) | exact Or.inr (Or.inr rfl)) (hd : (x == ("__debug__" : Str)) = false := by decide)
    (hcd : (x == ("__classdict__" : Str)) = false := by decide) (hs : swapsWithSole [.Subscript (.Name x px) b p2] e pos.line X.env = pure false := by rfl) (hw : swappedStores [.Subscript (.Name x px) b p2] e X.env = pure none := by rfl)
    (h1 : (assignEach [.Subscript (.Name x px) b p2] X.env).map (·.2) = [assign (.Subscript (.Name x px) b p2) X.env] := by rfl)
    (ha : ∀ v, assign (.Subscript (.Name x px) b p2) X.env v = (do
      let ov ← holding [v] (eval (.Name x px) X.env)
      let iv ← holding [v, ov] (eval b X.env)
      standAt p2
      holding [v, ov, iv] (setItem ov iv v)
      release [v, ov, iv] []) := by intro _; rfl) : QS X (.Assign [.Subscript (.Name x px) b p2] e pos) (dPut i tb ta) := by
  refine ⟨?_⟩
  intro B σ F H env D rp h
  refine wS_of (ps_asg pe_w (pg_sub (pe_var hN hv hd hcd) pe_w set_list ha) hs hw h1) ?_
  refine wE_mono (he B σ F H env _ rp h) fun y H1 ⟨F1, d, r1, s1, d1, xs, hx, q1⟩ => ?_
  obtain ⟨p, vs, g1, g2, g3, g4, g5⟩ := r1.ov i xs hx
  refine ⟨.ref p, g1, ?_⟩
  refine wE_mono (hb B σ F1 H1 env _ r1 q1) fun z H2 ⟨F2, d2, r2, s2, dd2, j, k, hj, hk, q2⟩ => ?_
  subst hj
  simp only [Den] at dd2
  obtain ⟨p', vs', e1, e2, e3, e4, e5⟩ := r2.ov i xs hx
  rw [g1] at e1; cases e1
  exact ⟨p, vs', j, k, rfl, dd2, e2, by rw [← e5.length]; exact hk, F2, _, r2.change hx g1 (e5.set (Den.mono s2 _ _ d1) k), q2⟩
end
end L2.L3
set_option Elab.async false
set_option linter.all false
set_option maxRecDepth 100000
set_option maxHeartbeats 4000000
namespace L2.L3
open PySem PySem.Spec PyProof.Rows
def clOf (names : List (Str × NameKind)) (cells : List (Str × Addr)) (acc : List (Str × Addr)) : List (Str × Addr) := match names with
  | [] => acc
  | (n, k) :: r => if k = .free then (match cells.lookup n with | some c => clOf r cells ((n, c) :: acc) | none => clOf r cells acc) else clOf r cells acc
theorem closureFor_from {env : Env} : ∀ (names : List (Str × NameKind)) (acc : List (Str × Addr)), (∀ y ∈ names, y.2 = .free → ∃ c, env.cells.lookup y.1 = some c) →
    (forIn names acc fun (x : Str × NameKind) r => if (x.2 == NameKind.free) = true then (do let a ← cellOf env x.1; pure (ForInStep.yield ((x.1, a) :: r))) else pure (ForInStep.yield r) : Sem (List (Str × Addr))) = pure (clOf names env.cells acc)
  | [], acc, _ => rfl
  | (n, k) :: r, acc, h => by
    rw [List.forIn_cons]
    by_cases hk : k = .free
    · subst hk
      obtain ⟨c, hc⟩ := h (n, .free) List.mem_cons_self rfl
      have hc' : env.cells.lookup n = some c := hc
      have ih := closureFor_from r ((n, c) :: acc) fun y hy => h y (List.mem_cons_of_mem _ hy)
      simp only [beq_self_eq_true, if_true, cellOf, hc', clOf]
      exact ih
    · have ih := closureFor_from r acc fun y hy => h y (List.mem_cons_of_mem _ hy)
      have hb : (k == NameKind.free) = false := by simpa using hk
      simp only [hb, Bool.false_eq_true, if_false, clOf, if_neg hk]
      exact ih
theorem closureFor_eq {scope : Scope} {env : Env} (h : ∀ y ∈ scope.names, y.2 = .free → ∃ c, env.cells.lookup y.1 = some c) : closureFor scope env = pure (clOf scope.names env.cells []) := by
  have e := closureFor_from (env := env) scope.names [] h
  have e2 : closureFor scope env = ((forIn scope.names ([] : List (Str × Addr)) fun (x : Str × NameKind) r => if (x.2 == NameKind.free) = true then (do let a ← cellOf env x.1; pure (ForInStep.yield ((x.1, a) :: r))) else pure (ForInStep.yield r)) >>= fun cs => pure cs) := rfl
  rw [e2, e]; rfl
theorem clOf_sub {cells : List (Str × Addr)} : ∀ (names : List (Str × NameKind)) (acc : List (Str × Addr)), (∀ x c, acc.lookup x = some c → cells.lookup x = some c) → ∀ x c, (clOf names cells acc).lookup x = some c → cells.lookup x = some c
  | [], acc, h, x, c, q => h x c q
  | (n, k) :: r, acc, h, x, c, q => by
    unfold clOf at q
    split at q
    · split at q
      · rename_i c' e
        refine clOf_sub r _ (fun y d w => ?_) x c q
        rw [List.lookup_cons] at w
        split at w
        · rename_i z
          have : y = n := by simpa using z
          subst this
          cases w; exact e
        · exact h y d w
      · exact clOf_sub r _ h x c q
    · exact clOf_sub r _ h x c q
theorem clOf_acc {cells : List (Str × Addr)} : ∀ (names : List (Str × NameKind)) (acc : List (Str × Addr)) (x : Str), (acc.lookup x).isSome = true → ((clOf names cells acc).lookup x).isSome = true
  | [], acc, x, q => q
  | (n, k) :: r, acc, x, q => by
    unfold clOf
    split
    · split
      · refine clOf_acc r _ x ?_
        rw [List.lookup_cons]
        split
        · rfl
        · exact q
      · exact clOf_acc r _ x q
    · exact clOf_acc r _ x q
theorem clOf_has {cells : List (Str × Addr)} : ∀ (names : List (Str × NameKind)) (acc : List (Str × Addr)) (x : Str), (x, NameKind.free) ∈ names → (cells.lookup x).isSome = true → ((clOf names cells acc).lookup x).isSome = true
  | [], acc, x, h, _ => by simp at h
  | (n, k) :: r, acc, x, h, q => by
    rcases List.mem_cons.mp h with e | h
    · cases e
      unfold clOf
      rw [if_pos rfl]
      split
      · exact clOf_acc r _ _ (by rw [List.lookup_cons]; simp)
      · rename_i e; rw [e] at q; cases q
    · unfold clOf
      split
      · split <;> exact clOf_has r _ x h q
      · exact clOf_has r _ x h q
def compCx (X : Cx) (N' : List Str) (scope : Scope) (C : Addr) (s : Shared) (H : Hp) (fp : List Addr) (pins : List (Addr × Obj)) : Cx :=
  { X with N := N', s₀ := s, H₀ := H, env := compEnvC scope (clOf scope.names X.env.cells []) C X.env, outer := X.stack, stack := X.stack, ex := fp, fn := fun _ => false, pn := X.pn ++ pins, xe := fun _ _ => False }
structure CompOk (X : Cx) (N' : List Str) (nt : Nat) (ix : List Nat) (scope : Scope) : Prop where
  kind : scope.kind = .function
  nocell : ∀ x ∈ scope.names, x.2 ≠ .cell
  names : ∀ x ∈ scope.names, x.2 = .local → scope.names.lookup x.1 = some .local
  free : ∀ x ∈ scope.names, x.2 = .free → X.env.scope.names.lookup x.1 = some .cell
  caps : ∀ (j : Nat) (i : Nat), ix[j]? = some i → ∃ x, N'[nt + j]? = some x ∧ X.N[i]? = some x ∧ (x, NameKind.free) ∈ scope.names ∧ (relabel scope X.env).names.lookup x = some .cell
  len : N'.length = nt + ix.length
section
variable {prog : Program} {w : World} {A : Around} {R : Result → Shared → Prop} {s : Shared}
theorem compLoop_gen {elt target iter : Expr} {ifs : List Expr} {scope : Scope} {pos : Pos} {it acc : Value} {env : Env} (I : Nat → Shared → Prop)
    (turn : ∀ n s, I n s → wpAny (model prog w) A (pyNext it) (fun r s₁ => match r with
      | none => R (.ok .next) s₁
      | some v => wpAny (model prog w) A (letOwnedTupleGo target it v) (fun _ s₁' => wpAny (model prog w) A (assign target env v) (fun _ s₂ =>
          wpAny (model prog w) A (forIn ifs true fun c r => if r = true then do let ok ← isTrue c env (eval c env); pure (ForInStep.yield ok) else pure (ForInStep.yield r)) (fun ok s₃ =>
            if ok = true then wpAny (model prog w) A (eval elt env) (fun x s₄ =>
              wpAny (model prog w) A (call (.builtin "list.append") [acc, x]) (fun _ s₅ => ∃ m, m < n ∧ I m s₅) (fun _ _ => False) s₄) (fun _ _ => False) s₃
            else ∃ m, m < n ∧ I m s₃) (fun _ _ => False) s₂) (fun _ _ => False) s₁') (fun _ _ => False) s₁) (fun _ _ => False) s)
    (n : Nat) (h : I n s) :
    codeAny (model prog w) A (.compLoop (.ListComp elt [⟨target, iter, ifs, 0⟩] scope pos) 0 it acc env) R s := by
  refine codeAny_loop rfl I (fun n s hI => ?_) n h
  show wpAny _ A ((compTurn (.ListComp elt [⟨target, iter, ifs, 0⟩] scope pos) 0 it acc env).onRaise (fun x => do noteFrame x env; theTreesLotGoes x)) _ _ s
  refine wpAny_noted ?_
  rw [compTurn_list]
  refine wpAny_bind (wpAny_standAt (wpAny_bind (wpAny_mono (turn n s hI) (fun r s₁ h₁ => ?_) fun _ _ h' => h'.elim)))
  cases r with
  | none => exact wpAny_pure h₁
  | some v =>
    refine wpAny_bind (wpAny_mono h₁ (fun _ s₁' h₁' => ?_) fun _ _ h' => h'.elim)
    refine wpAny_bind (wpAny_mono h₁' (fun _ s₂ h₂ => wpAny_bind (wpAny_mono h₂ (fun ok s₃ h₃ => ?_) fun _ _ h' => h'.elim)) fun _ _ h' => h'.elim)
    cases ok with
    | false => exact wpAny_pure ⟨rfl, h₃⟩
    | true =>
      exact wpAny_bind (wpAny_bind (wpAny_mono h₃ (fun x s₄ h₄ => wpAny_bind (wpAny_mono h₄ (fun _ s₅ h₅ => wpAny_pure (wpAny_pure ⟨rfl, h₅⟩)) fun _ _ h' => h'.elim)) fun _ _ h' => h'.elim))
end
def capS (nt : Nat) (ix : List Nat) (σ : St) : St := List.replicate nt none ++ ix.map fun i => (σ[i]?).join
theorem lookup_mem {α β : Type} [BEq α] [LawfulBEq α] {l : List (α × β)} {x : α} {y : β} (h : l.lookup x = some y) : (x, y) ∈ l := by
  induction l with
  | nil => simp at h
  | cons p r ih =>
    obtain ⟨a, b⟩ := p
    rw [List.lookup_cons] at h
    split at h
    · rename_i e
      have : x = a := by simpa using e
      subst this; cases h; exact List.mem_cons_self
    · exact List.mem_cons_of_mem _ (ih h)
section
variable {X : Cx} {pins : List (Addr × Obj)} {σ : St} {H : Hp} {s : Shared} {N' : List Str} {nt : Nat} {ix : List Nat} {scope : Scope}
theorem relabel_mem {x : Str} {k : NameKind} (h : (x, k) ∈ (relabel scope X.env).names) : (x, k) ∈ scope.names ∨ ((x, NameKind.free) ∈ scope.names ∧ k = .cell) := by
  unfold relabel at h
  obtain ⟨⟨n, k'⟩, hm, e⟩ := List.mem_map.mp h
  dsimp only at e
  split at e
  · rename_i hc
    cases e
    simp only [Bool.and_eq_true, beq_iff_eq] at hc
    exact .inr ⟨by rw [← hc.1.1]; exact hm, rfl⟩
  · cases e; exact .inl hm
theorem comp_start (I : Inv X pins σ H s) (O : CompOk X N' nt ix scope) {fp : List Addr} (hf : ∀ b ∈ fp, FpOk X pins H b) (hlt : ∀ b ∈ fp, b < s.heap.objs.size) {h1 : Heap} {tk : Nat}
    (hns : h1.Ns s.heap.objs.size (fun _ => none)) (hsb : ∀ b o, s.heap.get? b = some o → h1.get? b = some o) :
    Inv (compCx X N' scope s.heap.objs.size s H fp pins) [] (capS nt ix σ) H { s with heap := h1, toks := tk } := by
  have cellsAt : ∀ x c, (clOf scope.names X.env.cells []).lookup x = some c → X.env.cells.lookup x = some c := fun x c q => clOf_sub scope.names [] (fun y d w => by simp at w) x c q
  have clt : ∀ x c, X.env.cells.lookup x = some c → c < s.heap.objs.size := fun x c e => let ⟨_, q⟩ := I.cell x c e; q.lt
  refine ⟨⟨I.ok.mod, O.kind, I.ok.glob, I.ok.blt, Nat.le_refl _, fun x y c h1 h2 => I.ok.inj x y c (cellsAt _ _ h1) (cellsAt _ _ h2), fun x hx => ?_, fun x c h => (by cases h), I.ok.hd, I.ok.frames, .inl rfl, fun b hb => ⟨Nat.ne_of_lt (hlt b hb), fun x c e => (hf b hb).2.2.2.2.1 x c (cellsAt _ _ e)⟩, I.bs,
      Nat.le_trans I.ok.bsz I.sz, fun b o e hb => ?_, fun b hb z => ?_, I.stack, I.stkFree⟩,
    rfl, I.bare, Un.kept hsb, ⟨_, hns, fun j x v e1 e2 e3 => ?_⟩, fun x c e => ?_, I.hok.fresh (Nat.le_refl _), fun x c e => I.freeC x c (cellsAt _ _ e), fun p hp => ?_, I.hok.kept hsb, ?_⟩
  ·
    have hx' : ((relabel scope X.env).names.lookup x = some .cell ∨ (relabel scope X.env).names.lookup x = some .free) := hx
    have key : (x, NameKind.free) ∈ scope.names := by
      rcases hx' with h | h
      · rcases relabel_mem (lookup_mem h) with q | q
        · exact absurd rfl (O.nocell _ q)
        · exact q.1
      · rcases relabel_mem (lookup_mem h) with q | q
        · exact q
        · exact q.1
    obtain ⟨c, hc⟩ := I.ok.has x (.inl (O.free _ key rfl))
    exact Option.isSome_iff_exists.mp (clOf_has scope.names [] x key (by rw [hc]; rfl))
  · rcases (hf b hb).2.2.2.1 with z | z
    · exact I.ok.noex b o e z
    · exact absurd (Nat.lt_of_lt_of_le (Heap.lt_size (I.ok.bs b o e).1) z) (Nat.lt_irrefl _)
  · rcases List.mem_cons.mp (I.stkSub b z) with e | e
    · exact (hf b hb).2.1 e
    · exact (hf b hb).2.2.1 e
  ·
    unfold capS at e2
    by_cases hj : j < nt
    · rw [List.getElem?_append_left (by simpa using hj), List.getElem?_replicate] at e2
      split at e2 <;> cases e2
    · rw [List.getElem?_append_right (by simpa using hj), List.getElem?_map, List.length_replicate] at e2
      cases hi : ix[j - nt]? with
      | none => rw [hi] at e2; cases e2
      | some i =>
        rw [hi] at e2
        have hs : σ[i]? = some (some v) := by
          simp only [Option.map_some, Option.some.injEq] at e2
          cases q : σ[i]? with
          | none => rw [q] at e2; cases e2
          | some o => rw [q] at e2; simp only [Option.join] at e2; rw [show o = some v from e2]
        obtain ⟨y, n1, n2, n3, n4⟩ := O.caps (j - nt) i hi
        have hjj : nt + (j - nt) = j := by omega
        rw [hjj] at n1
        have e1' : N'[j]? = some x := e1
        rw [n1] at e1'; cases e1'
        obtain ⟨m, hn, hl⟩ := I.loc
        have hk : X.env.scope.names.lookup x = some .cell := O.free _ n3 rfl
        obtain ⟨u, r, l⟩ := hl i x v n2 hs (.inr (.inl hk))
        refine ⟨u, r, ?_⟩
        rcases l with ⟨k, _⟩ | ⟨_, c, ec, z⟩
        · have k' : X.env.scope.names.lookup x = some .local := k
          rw [hk] at k'; cases k'
        · have hc2 := Option.isSome_iff_exists.mp (clOf_has (cells := X.env.cells) scope.names [] x n3 (by rw [ec]; rfl))
          obtain ⟨c2, hc2⟩ := hc2
          have := cellsAt x c2 hc2
          rw [ec] at this; cases this
          exact .inr ⟨.inl n4, c, hc2, z.keeps hsb⟩
  · obtain ⟨v, z⟩ := I.cell x c (cellsAt _ _ e)
    exact ⟨v, z.keeps hsb⟩
  · rw [List.append_nil] at hp
    obtain ⟨e, n, ne, nf, d⟩ := I.pin p hp
    refine ⟨hsb _ _ e, n, Nat.ne_of_lt (Heap.lt_size e), fun z => ?_, d⟩
    rcases List.mem_cons.mp (I.stkSub p.1 z) with q | q
    · exact ne q
    · exact nf q
  · unfold capS
    show _ = N'.length
    rw [O.len, List.length_append, List.length_replicate, List.length_map]
theorem comp_end (I : Inv X pins σ H s) {fp : List Addr} (hf : ∀ b ∈ fp, FpOk X pins H b) {σ' : St} {H' : Hp} {s' : Shared} (J : Inv (compCx X N' scope s.heap.objs.size s H fp pins) [] σ' H' s') {h' : Heap} (hs : Heap.SameBut s.heap.objs.size s'.heap h') :
    Inv X pins σ H' { s' with heap := h' } := by
  have ne : ∀ b o, s.heap.get? b = some o → b ≠ s.heap.objs.size := fun b o e => Nat.ne_of_lt (Heap.lt_size e)
  have jb := J.base
  refine I.call' (ch := fp) J.os ⟨fun b o e n h1 h2 => (hs.2 b (ne b o e)).trans (jb.keep b o e n h1 h2), fun b o e n h1 h2 => ?_, jb.free, fun b o e h2 => ?_, jb.tups, jb.frzs, jb.tbls⟩ (fun b o e => ?_) J.bare fun b hb => ?_
  · obtain ⟨sl, q⟩ := jb.slot b o e n h1 h2
    exact ⟨sl, (hs.2 b (ne b o e)).trans q⟩
  · obtain ⟨o', q⟩ := jb.there b o e h2
    exact ⟨o', (hs.2 b (ne b o e)).trans q⟩
  · have jf : H' s.heap.objs.size = none := J.free
    refine (J.hok b o e).stay (fun c u hc q => (hs.2 c ?_).trans q) (fun _ q => q) fun _ _ q => q
    intro z
    subst z
    rcases hc with z | z
    · rw [← z, jf] at e; cases e
    · rw [jf] at z; cases z
  · obtain ⟨f0, f1, f2, f3, f4, f5⟩ := hf b hb
    exact ⟨f3, f1, f4, f5⟩
end
end L2.L3
set_option Elab.async false
set_option linter.all false
set_option maxRecDepth 100000
set_option maxHeartbeats 4000000
namespace L2.L3
open PySem PySem.Spec PyProof.Rows
def wIfs (X : Cx) (ifs : List Expr) : TT := fun σ H Q => ∀ (pins : List (Addr × Obj)) (s : Shared), Inv X pins σ H s →
  wpAny (model X.prog X.w) X.A (forIn ifs true fun c r => if r = true then do let ok ← isTrue c X.env (eval c X.env); pure (ForInStep.yield ok) else pure (ForInStep.yield r)) (TP X pins σ Q) (fun _ _ => False) s
def tComp (X : Cx) (N' : List Str) (nt : Nat) (ix : List Nat) (scope : Scope) (elt target : Expr) (ifs : List Expr) (wi : TI) : TE := fun σ H Q => wi σ H fun J H1 => ∀ (a C : Addr) (s : Shared) (fp : List Addr) (pins : List (Addr × Obj)), H1 a = none →
  ∃ W : Nat → Nat → St → Hp → Prop, (∃ m, W 0 m (capS nt ix σ) (upd H1 a (.lst []))) ∧ ∀ i m σ' H', W i m σ' H' → (J.stop i H' ∧ Q (.ref a) H') ∨ (J.go i H' ∧ ∀ x H2, J.yld i H' x H2 →
    wG (compCx X N' scope C s (upd H1 a (.lst [])) fp pins) target x σ' H2 fun σ2 H3 => wIfs (compCx X N' scope C s (upd H1 a (.lst [])) fp pins) ifs σ2 H3 fun ok H4 => if ok = true then
      wE (compCx X N' scope C s (upd H1 a (.lst [])) fp pins) elt σ2 H4 fun y H5 => ∃ ys, H5 a = some (.lst ys) ∧ ys.length < sizeLine ∧ ∃ m', m' < m ∧ W (i + 1) m' σ2 (upd H5 a (.lst (ys ++ [y])))
      else ∃ m', m' < m ∧ W (i + 1) m' σ2 H4)
section
variable {X : Cx} {N' : List Str} {nt : Nat} {ix : List Nat} {scope : Scope}
theorem CompOk.clos {pins : List (Addr × Obj)} {σ : St} {H : Hp} {s : Shared} (O : CompOk X N' nt ix scope) (I : Inv X pins σ H s) : closureFor scope X.env = pure (clOf scope.names X.env.cells []) :=
  closureFor_eq fun y hy hk => I.ok.has y.1 (.inl (O.free y hy hk))
theorem comp_run {elt target iter : Expr} {ifs : List Expr} {pos : Pos} {pins : List (Addr × Obj)} {σ : St} {s2 : Shared} {Q : VK} {R : It → Hp → Prop} {itv : Value} {RR : Value → Addr → Result → Shared → Prop} (hc : X.calm = true) (O : CompOk X N' nt ix scope)
    (h2 : PIE X pins σ target R itv s2)
    (hR : ∀ J H1, R J H1 → ∀ (a C : Addr) (s : Shared) (fp : List Addr) (pins : List (Addr × Obj)), H1 a = none →
      ∃ W : Nat → Nat → St → Hp → Prop, (∃ m, W 0 m (capS nt ix σ) (upd H1 a (.lst []))) ∧ ∀ i m σ' H', W i m σ' H' → (J.stop i H' ∧ Q (.ref a) H') ∨ (J.go i H' ∧ ∀ x H2, J.yld i H' x H2 →
        wG (compCx X N' scope C s (upd H1 a (.lst [])) fp pins) target x σ' H2 fun σ2 H3 => wIfs (compCx X N' scope C s (upd H1 a (.lst [])) fp pins) ifs σ2 H3 fun ok H4 => if ok = true then
          wE (compCx X N' scope C s (upd H1 a (.lst [])) fp pins) elt σ2 H4 fun y H5 => ∃ ys, H5 a = some (.lst ys) ∧ ys.length < sizeLine ∧ ∃ m', m' < m ∧ W (i + 1) m' σ2 (upd H5 a (.lst (ys ++ [y])))
          else ∃ m', m' < m ∧ W (i + 1) m' σ2 H4))
    (hRR : ∀ (a C : Addr) (H' : Hp) (s6 : Shared) (m : Str → Option Value), Q (.ref a) H' → s6.heap.Ns C m → H' C = none → C ≠ X.env.locals → X.s₀.heap.objs.size ≤ C → (∀ x c, X.env.cells.lookup x = some c → c ≠ C) → (∀ p ∈ X.pn ++ pins, p.1 ≠ C) →
      (∀ h', Heap.SameBut C s6.heap h' → Inv X pins σ H' { s6 with heap := h' }) → RR (.ref a) C (.ok .next) s6) :
    wpAny (model X.prog X.w) X.A (newList []) (fun acc s3 => wpAny (model X.prog X.w) X.A (newFunctionEnv scope X.env.globals (clOf scope.names X.env.cells []) [] X.env.qual none .none (some X.env)) (fun cenv s4 =>
      codeAny (model X.prog X.w) X.A (.compStart (.ListComp elt [⟨target, iter, ifs, 0⟩] scope pos) 0 itv acc { cenv with scope := relabel scope X.env }) (RR acc cenv.locals) s4) X.xe s3) X.xe s2 := by
  obtain ⟨it, fp, tn, J, H2, e, I2, T, st2, f2, hq0⟩ := h2
  have hq := hR J H2 hq0
  subst e
  have hlt2 : ∀ b ∈ fp, b < s2.heap.objs.size := fun b hb => let ⟨o, e, _⟩ := T.obj _ _ st2 b hb; Heap.lt_size e
  refine wpAny_newObj_type ?_
  generalize hs3 : ({ s2 with heap := s2.heap.push { cls := .type "list", dict := none, data := .seq ([] : List Value).toArray } } : Shared) = s3
  have k3 : ∀ b o, s2.heap.get? b = some o → s3.heap.get? b = some o := fun b o e => by rw [← hs3]; exact Heap.get?_push_of_some _ e
  have ha : H2 s2.heap.objs.size = none := I2.hok.fresh (Nat.le_refl _)
  have I3 : Inv X pins σ (upd H2 s2.heap.objs.size (.lst [])) s3 := by
    rw [← hs3]
    exact I2.laid (t' := s2.toks) (fun b u e => Heap.get?_push_of_some _ e) (Nat.le_refl _) ⟨Nat.zero_le _, [], 0, .nil, Heap.get?_push_size _ rfl⟩
  have f3 : ∀ b ∈ fp, FpOk X pins (upd H2 s2.heap.objs.size (.lst [])) b := fun b hb => ⟨by rw [upd_ne (Nat.ne_of_lt (hlt2 b hb))]; exact (f2 b hb).1, (f2 b hb).2⟩
  have st3 : tn 0 s3.heap := T.keep _ _ _ st2 fun b hb o e => k3 b o e
  have hlt3 : ∀ b ∈ fp, b < s3.heap.objs.size := fun b hb => let ⟨o, e, _⟩ := T.obj _ _ st3 b hb; Heap.lt_size e
  refine wpAny_newFunctionEnv O.nocell (by intro y hy; simp at hy) (fun h1 hns hsb => ?_) O.kind
  have k4 : ∀ b o, s3.heap.get? b = some o → h1.get? b = some o := fun b o e => (hsb.2 b (Nat.ne_of_lt (Heap.lt_size e))).trans (Heap.get?_push_of_some _ e)
  have I4 := comp_start (tk := s3.toks + ([] : List (Str × Value)).length) I3 O f3 hlt3 hns k4
  have st4 : tn 0 h1 := T.keep _ _ _ st3 fun b hb o e => k4 b o e
  obtain ⟨W, ⟨m0, w0⟩, turn⟩ := hq s2.heap.objs.size s3.heap.objs.size s3 fp pins ha
  have fr3 : ∀ b ∈ fp, (upd H2 s2.heap.objs.size (.lst [])) b = none := fun b hb => (f3 b hb).1
  have stat : ∀ {H' : Hp}, (∀ b ∈ fp, H' b = none) → ∀ b ∈ fp, FpOk (compCx X N' scope s3.heap.objs.size s3 (upd H2 s2.heap.objs.size (.lst [])) fp pins) [] H' b := fun {H'} hn b hb => by
    refine ⟨hn b hb, Nat.ne_of_lt (hlt3 b hb), fun z => ?_, .inl hb, fun x c e => (f3 b hb).2.2.2.2.1 x c (clOf_sub scope.names [] (fun y d w => by simp at w) x c e), fun p hp => ?_⟩
    · rcases List.mem_cons.mp (I3.stkSub b z) with q | q
      · exact (f3 b hb).2.1 q
      · exact (f3 b hb).2.2.1 q
    · rw [List.append_nil] at hp
      exact (f3 b hb).2.2.2.2.2 p hp
  generalize hX : compCx X N' scope s3.heap.objs.size s3 (upd H2 s2.heap.objs.size (.lst [])) fp pins = X' at I4 turn stat
  have eP : X'.prog = X.prog := by rw [← hX]; rfl
  have eW : X'.w = X.w := by rw [← hX]; rfl
  have eK : X'.K = X.K := by rw [← hX]; rfl
  have eA : X'.A = X.A := by rw [← hX]; rfl
  have eC : X'.calm = true := by rw [← hX]; exact hc
  have eE : X'.env = compEnvC scope (clOf scope.names X.env.cells []) s3.heap.objs.size X.env := by rw [← hX]; rfl
  have eX : X'.xe = fun _ _ => False := by rw [← hX]; rfl
  have loop : codeAny (model X.prog X.w) X.A (.compLoop (.ListComp elt [⟨target, iter, ifs, 0⟩] scope pos) 0 (.ref it) (.ref s2.heap.objs.size) (compEnvC scope (clOf scope.names X.env.cells []) s3.heap.objs.size X.env))
      (RR (.ref s2.heap.objs.size) s3.heap.objs.size) { s3 with heap := h1, toks := s3.toks + ([] : List (Str × Value)).length } := by
    refine compLoop_gen (fun n s' => ∃ i σ' H', Inv X' [] σ' H' s' ∧ tn i s'.heap ∧ (∀ b ∈ fp, H' b = none) ∧ W i n σ' H') ?_ m0 ⟨0, _, _, I4, st4, fr3, w0⟩
    rintro n s5 ⟨i, σ5, H5, I5, st5, fr5, w5⟩
    rcases turn i n σ5 H5 w5 with ⟨stop, q⟩ | ⟨go, step⟩
    · have := T.done X' eP eW eK eC i [] s5 σ5 H5 (fun _ _ => False) I5 (stat fr5) st5 stop
      rw [eA] at this
      refine thn this fun r s6 ⟨hr, I6⟩ => ?_
      subst hr
      obtain ⟨m, hm, _⟩ := id I6.loc
      rw [eE] at hm
      have fre : H5 s3.heap.objs.size = none := by have z := I6.free; rw [eE] at z; exact z
      refine hRR _ _ H5 s6 m q hm fre (Nat.ne_of_gt I3.lt) I3.sz (fun x c e z => ?_) (fun p hp z => ?_) fun h' hsb' => ?_
      · obtain ⟨v, w⟩ := I3.cell x c e
        exact absurd w.lt (by rw [z]; exact Nat.lt_irrefl _)
      · exact absurd (Heap.lt_size (I3.pin p hp).1) (by rw [z]; exact Nat.lt_irrefl _)
      · rw [← hX] at I6
        exact comp_end I3 f3 I6 hsb'
    · have := T.item X' eP eW eK eC i [] s5 σ5 H5 (fun _ _ => False) I5 (stat fr5) st5 go
      rw [eA] at this
      refine thn this fun r s6 ⟨u, hr, h6⟩ => ?_
      subst hr
      refine thn h6 fun _ s7 ⟨x, H7, I7, r7, y7, st7, fr7⟩ => ?_
      have I7' := I7.pinned (stat fr7) (T.obj _ _ st7)
      have g7 := step x H7 y7 _ s7 u I7' r7
      rw [eP, eW, eA, eE, eX] at g7
      refine thn g7 fun _ s8 ⟨σ8, H8, I8, q8⟩ => ?_
      have t8 := q8 _ s8 I8
      rw [eP, eW, eA, eE] at t8
      refine thn t8 fun ok s9 ⟨H9, I9, q9⟩ => ?_
      have back : ∀ {σz : St} {Hz : Hp} {sz : Shared} {m' : Nat}, Inv X' ([] ++ pinsAt fp s7.heap) σz Hz sz → m' < n → W (i + 1) m' σz Hz → ∃ m, m < n ∧ ∃ i σ' H', Inv X' [] σ' H' sz ∧ tn i sz.heap ∧ (∀ b ∈ fp, H' b = none) ∧ W i m σ' H' := fun {σz Hz sz m'} Iz hm wz => by
        refine ⟨m', hm, i + 1, σz, Hz, Iz.unpinned, T.keep _ _ _ st7 fun b hb o e => (Iz.pin (b, o) (List.mem_append_right _ (List.mem_append_right _ (mem_pinsAt hb e)))).1, fun b hb => ?_, wz⟩
        obtain ⟨o, e, d⟩ := T.obj _ _ st7 b hb
        exact (Iz.pin (b, o) (List.mem_append_right _ (List.mem_append_right _ (mem_pinsAt hb e)))).2.1
      cases ok with
      | false =>
        obtain ⟨m', hm, w9⟩ := q9
        exact back I9 hm w9
      | true =>
        have e9 := q9 _ s9 I9
        rw [eP, eW, eA, eE, eX] at e9
        refine thn e9 fun uy s10 ⟨y, H10, I10, r10, ys, hys, hl, m', hm, w10⟩ => ?_
        have ap := mt_append (X := X') _ s10 σ8 H10 (.ref s2.heap.objs.size) [y] (.ref s2.heap.objs.size) [uy] (fun _ H' => H' = upd H10 s2.heap.objs.size (.lst (ys ++ [y]))) I10 rfl (.cons r10 .nil) ⟨_, ys, y, rfl, rfl, hys, hl, rfl⟩
        rw [eP, eW, eA, eX] at ap
        refine thn ap fun _ s11 ⟨_, H11, I11, _, q11⟩ => ?_
        have q11' : H11 = upd H10 s2.heap.objs.size (.lst (ys ++ [y])) := q11
        subst q11'
        exact back I11 hm w10
  exact codeAny_compStart_list loop (T.self _ _ _ _ _ st4 loop)
theorem pe_comp {elt target iter : Expr} {ifs : List Expr} {pos : Pos} {wi : TI} (hc : X.calm = true) (hi : PI X target iter wi) (O : CompOk X N' nt ix scope) (hs : ∀ x, foldedSetIterable iter X.env x = pure x := by intro _; rfl) :
    PE X (.ListComp elt [⟨target, iter, ifs, 0⟩] scope pos) (tComp X N' nt ix scope elt target ifs wi) := by
  intro pins s σ H Q I h
  rw [eval_ListComp]
  refine wpAny_comprehension_free (use := none) rfl hs (O.clos I) O.kind O.names ?_
  refine thn (hi pins s σ H _ I h) fun v s1 h1 => thn h1 fun itv s2 h2 => ?_
  refine comp_run (Q := Q) (RR := fun acc C => compPost (model X.prog X.w) X.A X.xe none (EP X pins σ Q) acc C) hc O h2 (fun J H1 z => z) ?_
  intro a C H' s6 m q hm _ _ _ _ _ hI
  exact ⟨m, hm, fun h' hsb => ⟨.ref a, H', hI h' hsb, rfl, q⟩⟩
theorem ps_setComp {elt target iter : Expr} {ifs : List Expr} {pos spos py : Pos} {y : Str} {i : Nat} {wi : TI} (hc : X.calm = true) (hi : PI X target iter wi) (O : CompOk X N' nt ix scope) (hN : X.N.Nodup) (hy : X.N[i]? = some y) (hx : Loc X.env.scope y)
    (hsw : swapsWith (.ListComp elt [⟨target, iter, ifs, 0⟩] scope pos) (some (.Name y py)) spos.line X.env = pure true)
    (hf : X.fn y = true ∨ X.env.scope.names.lookup y = some .local) (hs : ∀ x, foldedSetIterable iter X.env x = pure x := by intro _; rfl) :
    PS X (.Assign [.Name y py] (.ListComp elt [⟨target, iter, ifs, 0⟩] scope pos) spos) (fun D => fun σ H => tComp X N' nt ix scope elt target ifs wi σ H fun v H' => D.nx (σ.set i (some v)) H') := by
  intro pins s σ H D I h
  rw [exec_Assign_Name_used _ _ _ _ hsw]
  refine wpAny_bind (wpAny_standAt (wpAny_bind ?_))
  show wpAny _ X.A (do let _ ← comprehension (.ListComp elt [⟨target, iter, ifs, 0⟩] scope pos) scope X.env _ (newList []) false (eval iter X.env) (some (assign (.Name y py) X.env))) _ _ s
  refine wpAny_bind (wpAny_mono (wpAny_comprehension_free (use := some (assign (.Name y py) X.env)) (Q := fun _ s' => SP X pins D .next s') rfl hs (O.clos I) O.kind O.names ?_) (fun _ s' hq => wpAny_pure (wpAny_pure hq)) fun _ _ e => e)
  refine thn (hi pins s σ H _ I h) fun v s1 h1 => thn h1 fun itv s2 h2 => ?_
  refine comp_run (Q := fun v H' => D.nx (σ.set i (some v)) H') (RR := fun acc C => compPost (model X.prog X.w) X.A X.xe (some (assign (.Name y py) X.env)) (fun _ s' => SP X pins D .next s') acc C) hc O h2 (fun J H1 z => z) ?_
  intro a C H' s6 m q hm hC n1 n2 n3 n4 hI
  have I6 : Inv X pins σ H' s6 := hI s6.heap (.refl ..)
  show wpAny _ X.A (assign (.Name y py) X.env (.ref a)) _ _ _
  refine wpAny_assign_Name (store_ok2 I6 hN hy hx (v := .ref a) rfl (fun s7 I7 hsame => ?_) hf)
  obtain ⟨b, hb, hbx⟩ := hsame
  have hne : C ≠ b := by
    rcases hbx with e | e
    · rw [e]; exact n1
    · exact Ne.symm (n3 y b e)
  refine ⟨m, hm.sameBut hb hne, fun h' hsb => ⟨_, H', ?_, q⟩⟩
  exact I7.turned (t' := s7.toks) (fun c o hc' e => (hsb.2 c hc').trans e) hC n1 (.inr n2) n3 n4
end
end L2.L3
set_option Elab.async false
set_option linter.all false
set_option maxRecDepth 100000
set_option maxHeartbeats 4000000
namespace L2.L3
open PySem PySem.Spec PyProof.Rows
def capE (nt : Nat) (ix : List Nat) (env : En) : En := List.replicate nt none ++ ix.map fun i => match env[i]? with
  | some (some (.d x)) => some (.d x)
  | _ => none
theorem capE_noown {nt : Nat} {ix : List Nat} {env : En} (i : Nat) (ys : List D) : (capE nt ix env)[i]? ≠ some (some (.own ys)) := fun q => by
  unfold capE at q
  by_cases hj : i < nt
  · rw [List.getElem?_append_left (by simpa using hj), List.getElem?_replicate] at q
    split at q <;> cases q
  · rw [List.getElem?_append_right (by simpa using hj), List.getElem?_map] at q
    cases e : ix[i - (List.replicate nt (none : Option Lo)).length]? with
    | none => rw [e] at q; cases q
    | some k =>
      rw [e] at q
      simp only [Option.map_some, Option.some.injEq] at q
      split at q <;> cases q
theorem capE_nodic {nt : Nat} {ix : List Nat} {env : En} (i : Nat) (ys : List (D × D)) : (capE nt ix env)[i]? ≠ some (some (.dic ys)) := fun q => by
  unfold capE at q
  by_cases hj : i < nt
  · rw [List.getElem?_append_left (by simpa using hj), List.getElem?_replicate] at q
    split at q <;> cases q
  · rw [List.getElem?_append_right (by simpa using hj), List.getElem?_map] at q
    cases e : ix[i - (List.replicate nt (none : Option Lo)).length]? with
    | none => rw [e] at q; cases q
    | some k =>
      rw [e] at q
      simp only [Option.map_some, Option.some.injEq] at q
      split at q <;> cases q
def Base.here (F H : Hp) : Base := ⟨F, H, fun p => H p ≠ none ∧ F p = none, fun _ h => h.1⟩
theorem cap_rep {K : PySem.W.Frag} {B : Base} {F H : Hp} {σ : St} {env : En} {nt : Nat} {ix : List Nat} {a : Addr} {o : HO} (r : Rep K B F H σ env) (ha : H a = none) : Rep K (Base.here F H) F (upd H a o) (capS nt ix σ) (capE nt ix env) := by
  refine ⟨Same.refl _, r.fh.trans (same_upd ha), same_upd ha, fun p h => h.2, fun j x q => ?_, fun j ys q => (capE_noown j ys q).elim, fun i j xs ys p _ q => (capE_noown i xs q).elim, fun j ys q => (capE_nodic j ys q).elim, fun i j xs ys p _ q => (capE_nodic i xs q).elim⟩
  unfold capE at q
  by_cases hj : j < nt
  · rw [List.getElem?_append_left (by simpa using hj), List.getElem?_replicate] at q
    split at q <;> cases q
  · rw [List.getElem?_append_right (by simpa using hj), List.getElem?_map, List.length_replicate] at q
    cases e : ix[j - nt]? with
    | none => rw [e] at q; cases q
    | some k =>
      rw [e] at q
      simp only [Option.map_some, Option.some.injEq] at q
      split at q
      · rename_i x' h'
        cases q
        obtain ⟨v, h1, h2⟩ := r.dv k x h'
        refine ⟨v, ?_, h2⟩
        unfold capS
        rw [List.getElem?_append_right (by simpa using hj), List.getElem?_map, List.length_replicate, e]
        simp only [Option.map_some, h1, Option.join]
        rfl
      · cases q
theorem Rep.here {K : PySem.W.Frag} {B : Base} {F H : Hp} {σ : St} {env : En} (r : Rep K B F H σ env) (no : ∀ (i : Nat) ys, env[i]? ≠ some (some (.own ys))) (no' : ∀ (i : Nat) ys, env[i]? ≠ some (some (.dic ys))) : Rep K (Base.here F H) F H σ env :=
  ⟨Same.refl _, r.fh, Same.refl _, fun p h => h.2, r.dv, fun i ys q => (no i ys q).elim, fun i j xs ys p _ q => (no i xs q).elim, fun i ys q => (no' i ys q).elim, fun i j xs ys p _ q => (no' i xs q).elim⟩
theorem Rep.there {K : PySem.W.Frag} {B : Base} {F H F' H' : Hp} {σ : St} {env env0 : En} (r : Rep K (Base.here F H) F' H' σ env) (f0 : Same B.F F) (h0 : Same B.H H) (nf : ∀ p, B.N p → F p = none) (he : ∀ (i : Nat) l, env0[i]? = some (some l) → env[i]? = some (some l)) (no : ∀ (i : Nat) ys, env0[i]? ≠ some (some (.own ys))) (no' : ∀ (i : Nat) ys, env0[i]? ≠ some (some (.dic ys))) : Rep K B F' H' σ env0 := by
  refine ⟨f0.trans r.f0, r.fh, h0.trans r.h0, fun p hp => ?_, fun i x q => r.dv i x (he i _ q), fun i ys q => (no i ys q).elim, fun i j xs ys p _ q => (no i xs q).elim, fun i ys q => (no' i ys q).elim, fun i j xs ys p _ q => (no' i xs q).elim⟩
  refine r.nf p ⟨fun z => ?_, nf p hp⟩
  have q := B.nb p hp
  cases w : B.H p with
  | none => exact q w
  | some o => rw [h0 _ _ w] at z; cases z
structure Steps (K : PySem.W.Frag) (J : It) (F1 : Hp) (xs : List D) : Prop where
  go : ∀ (i : Nat) (G H' : Hp), Same F1 G → Same G H' → i < xs.length → J.go i H'
  yld : ∀ (i : Nat) (G H' : Hp) (y : V) (H'' : Hp) (x : D), Same F1 G → Same G H' → xs[i]? = some x → J.yld i H' y H'' → H'' = H' ∧ Den K G x y
  stop : ∀ (G H' : Hp), Same F1 G → Same G H' → J.stop xs.length H'
theorem steps_list {K : PySem.W.Frag} {F1 : Hp} {a : Addr} {vs : List V} {xs : List D} (q : SqL K F1 a vs) (r : DenL K F1 xs vs) : Steps K (Itl K a) F1 xs where
  go := fun i G H' s1 s2 hi => by
    have : i < vs.length := by rw [← r.length]; exact hi
    exact ⟨vs, vs[i], s2.seq (s1.seq q), by simp [this]⟩
  yld := fun i G H' y H'' x s1 s2 hx hy => by
    obtain ⟨v, h1, h2⟩ := r.get hx
    obtain ⟨e1, e2⟩ := hy
    have := e2 vs (s2.seq (s1.seq q))
    rw [h1] at this; cases this
    exact ⟨e1, Den.mono s1 _ _ h2⟩
  stop := fun G H' s1 s2 => ⟨vs, s2.seq (s1.seq q), by rw [r.length]; exact Nat.le_refl _⟩
theorem steps_tup {K : PySem.W.Frag} {F1 : Hp} {a : Addr} {vs : List V} {xs : List D} (q : SqT K F1 a vs) (r : DenL K F1 xs vs) : Steps K (Itt K a) F1 xs where
  go := fun i G H' s1 s2 hi => by
    have : i < vs.length := by rw [← r.length]; exact hi
    exact ⟨vs, vs[i], Same.seqT s2 (Same.seqT s1 q), by simp [this]⟩
  yld := fun i G H' y H'' x s1 s2 hx hy => by
    obtain ⟨v, h1, h2⟩ := r.get hx
    obtain ⟨e1, e2⟩ := hy
    have := e2 vs (Same.seqT s2 (Same.seqT s1 q))
    rw [h1] at this; cases this
    exact ⟨e1, Den.mono s1 _ _ h2⟩
  stop := fun G H' s1 s2 => ⟨vs, Same.seqT s2 (Same.seqT s1 q), by rw [r.length]; exact Nat.le_refl _⟩
theorem steps_str {K : PySem.W.Frag} {F1 : Hp} {z : Str} : Steps K (Its z) F1 (signsD z) where
  go := fun i G H' s1 s2 hi => by
    show i < z.cps.size
    simpa [signsD] using hi
  yld := fun i G H' y H'' x s1 s2 hx hy => by
    obtain ⟨e1, c, hc, rfl⟩ := hy
    unfold signsD at hx
    rw [List.getElem?_map, Array.getElem?_toList, hc] at hx
    cases hx
    exact ⟨e1, den_str⟩
  stop := fun G H' s1 s2 => by
    show z.cps.size ≤ _
    simp [signsD]
theorem steps_range {K : PySem.W.Frag} {F1 : Hp} {lo : Int} {n : Nat} : Steps K (Itr lo n) F1 (intsD lo n) where
  go := fun i G H' s1 s2 hi => by
    have : i < n := by simpa [intsD] using hi
    exact this
  yld := fun i G H' y H'' x s1 s2 hx hy => by
    obtain ⟨e1, e2⟩ := hy
    have hi : i < n := by
      have := (List.getElem?_eq_some_iff.mp hx).1
      simpa [intsD] using this
    have : (intsD lo n)[i]? = some (D.int (lo + (i : Int))) := by simp [intsD, hi]
    rw [this] at hx; cases hx
    exact ⟨e1, by rw [e2]; exact den_int⟩
  stop := fun G H' s1 s2 => by
    have : (intsD lo n).length = n := by simp [intsD]
    rw [this]; exact Nat.le_refl n
def comps (tt : TB) (te : TD) (env0 : En) (Q : List D → Prop) : List D → List D → Prop
  | [], acc => Q acc
  | x :: xs, acc => tt (env0.set 0 (some (.d x))) fun ok => if ok = true then te (env0.set 0 (some (.d x))) fun y => acc.length < sizeLine ∧ comps tt te env0 Q xs (acc ++ [y]) else comps tt te env0 Q xs acc
structure QIfs (X : Cx) (ifs : List Expr) (t : TB) : Prop where
  of ::
  run : ∀ (B : Base) (σ : St) (F H : Hp) (env : En) (Q : Bool → Prop), Rep X.K B F H σ env → t env Q → wIfs X ifs σ H (RB X B σ env F Q)
instance {X : Cx} {ifs : List Expr} {t : TB} : CoeFun (QIfs X ifs t) (fun _ => ∀ (B : Base) (σ : St) (F H : Hp) (env : En) (Q : Bool → Prop), Rep X.K B F H σ env → t env Q → wIfs X ifs σ H (RB X B σ env F Q)) := ⟨QIfs.run⟩
def cTrue : TB := fun _ Q => Q true
section
variable {X : Cx}
theorem qifs_nil : QIfs X [] cTrue := ⟨fun B σ F H env Q rp h pins s I => wpAny_tests_nil ⟨H, I, F, rp, Same.refl _, h⟩⟩
variable {N' : List Str} {nt : Nat} {ix : List Nat} {scope : Scope} {elt iter a b : Expr} {ifs : List Expr} {x : Str} {px pos : Pos} {tt : TB} {te ti : TD} {ts : TDs}
theorem comp_core (hN : N'.Nodup) (h0 : N'[0]? = some x) (hx : (relabel scope X.env).names.lookup x = some .local)
    (ht : ∀ C s H fp pins, QIfs (compCx X N' scope C s H fp pins) ifs tt) (he : ∀ C s H fp pins, QE (compCx X N' scope C s H fp pins) elt te)
    {B : Base} {σ : St} {F F1 H1 : Hp} {env : En} {Q : List D → Prop} {J : It} {xs : List D} (sF : Same F F1) (r1 : Rep X.K B F1 H1 σ env) (S : Steps X.K J F1 xs) (q1 : comps tt te (capE 1 ix env) Q xs []) :
    ∀ (a C : Addr) (s : Shared) (fp : List Addr) (pins : List (Addr × Obj)), H1 a = none →
      ∃ W : Nat → Nat → St → Hp → Prop, (∃ m, W 0 m (capS 1 ix σ) (upd H1 a (.lst []))) ∧ ∀ i m σ' H', W i m σ' H' → (J.stop i H' ∧ RF X B σ env F Q (.ref a) H') ∨ (J.go i H' ∧ ∀ y H2, J.yld i H' y H2 →
        wG (compCx X N' scope C s (upd H1 a (.lst [])) fp pins) (.Name x px) y σ' H2 fun σ2 H3 => wIfs (compCx X N' scope C s (upd H1 a (.lst [])) fp pins) ifs σ2 H3 fun ok H4 => if ok = true then
          wE (compCx X N' scope C s (upd H1 a (.lst [])) fp pins) elt σ2 H4 fun y H5 => ∃ ys, H5 a = some (.lst ys) ∧ ys.length < sizeLine ∧ ∃ m', m' < m ∧ W (i + 1) m' σ2 (upd H5 a (.lst (ys ++ [y])))
          else ∃ m', m' < m ∧ W (i + 1) m' σ2 H4) := by
  intro a C s fp pins ha
  have hF1a : F1 a = none := r1.fnone ha
  refine ⟨fun i m σ' H' => m = xs.length - i ∧ i ≤ xs.length ∧ ∃ (F' : Hp) (acc : List D) (ys : List V), Rep X.K (Base.here F1 H1) F' H' σ' (capE 1 ix env) ∧ H' a = some (.lst ys) ∧ F' a = none ∧ DenL X.K F' acc ys ∧ comps tt te (capE 1 ix env) Q (xs.drop i) acc,
    ⟨xs.length, by simp, Nat.zero_le _, F1, [], [], cap_rep r1 ha, upd_same, hF1a, denL_nil, by simpa using q1⟩, ?_⟩
  rintro i m σ2 H2 ⟨rfl, hi2, F2, acc, ys, r2, hys, hFa, hd, q2⟩
  have sH : Same H1 H2 := r2.h0
  by_cases hlt : i < xs.length
  · have hxi : xs[i]? = some xs[i] := by simp [hlt]
    rw [drop_cons hxi] at q2
    refine .inr ⟨S.go i F2 H2 r2.f0 r2.fh hlt, fun y H3 hy => ?_⟩
    obtain ⟨eH, dy⟩ := S.yld i F2 H2 y H3 xs[i] r2.f0 r2.fh hxi hy
    subst eH
    have r2' := r2.here capE_noown capE_nodic
    have g := qg_name (X := compCx X N' scope C s (upd H1 a (.lst [])) fp pins) (pos := px) 0 hN h0 (.inl hx) (.inr hx)
    refine wG_mono (g (Base.here F2 H3) σ2 F2 H3 (capE 1 ix env) (fun e => e = (capE 1 ix env).set 0 (some (.d xs[i]))) xs[i] y r2' dy rfl) fun σ3 H4 ⟨F4, env4, r4, s4, q4⟩ => ?_
    subst q4
    intro pins' s' I'
    refine wpAny_mono (ht C s (upd H1 a (.lst [])) fp pins (Base.here F2 H3) σ3 F4 H4 _ _ r4 q2 pins' s' I') (fun ok s5 ⟨H5, I5, F5, r5, s5', q5⟩ => ⟨H5, I5, ?_⟩) fun _ _ e => e
    have weak' : ∀ (j : Nat) l, (capE 1 ix env)[j]? = some (some l) → ((capE 1 ix env).set 0 (some (.d xs[i])))[j]? = some (some l) := fun j l hj => by
      have hj0 : j ≠ 0 := fun z => by
        subst z
        simp [capE] at hj
      rw [List.getElem?_set_ne (Ne.symm hj0)]; exact hj
    cases ok with
    | false =>
      have q5' : comps tt te (capE 1 ix env) Q (xs.drop (i + 1)) acc := q5
      refine ⟨xs.length - (i + 1), by omega, rfl, by omega, F5, acc, ys, r5.there r2.f0 sH (fun p hp => r2.nf p hp) weak' capE_noown capE_nodic, r5.h0 _ _ hys, r5.nf a ⟨by rw [hys]; simp, hFa⟩, DenL.mono r5.f0 _ _ hd, q5'⟩
    | true =>
      have q5' : te ((capE 1 ix env).set 0 (some (.d xs[i]))) fun y => acc.length < sizeLine ∧ comps tt te (capE 1 ix env) Q (xs.drop (i + 1)) (acc ++ [y]) := q5
      refine wE_mono (he C s (upd H1 a (.lst [])) fp pins (Base.here F2 H3) σ3 F5 H5 _ _ r5 q5') fun z H6 ⟨F6, d, r6, s6, d6, hl, q6⟩ => ?_
      have ha6 : H6 a = some (.lst ys) := r6.h0 _ _ hys
      have hF6 : F6 a = none := r6.nf a ⟨by rw [hys]; simp, hFa⟩
      refine ⟨ys, ha6, by rw [← hd.length]; exact hl, xs.length - (i + 1), by omega, rfl, by omega, F6, acc ++ [d], ys ++ [z], ?_, upd_same, hF6, (DenL.mono r6.f0 _ _ hd).append (denL_cons d6 denL_nil), q6⟩
      have r7 : Rep X.K (Base.here F1 H1) F6 H6 σ3 (capE 1 ix env) := r6.there r2.f0 sH (fun p hp => r2.nf p hp) weak' capE_noown capE_nodic
      refine ⟨r7.f0, fun b o hb => ?_, fun b o hb => ?_, r7.nf, r7.dv, fun j zs q => (capE_noown j zs q).elim, r7.ne, fun j zs q => (capE_nodic j zs q).elim, r7.nm⟩
      · have : b ≠ a := fun w => by subst w; rw [hF6] at hb; cases hb
        rw [upd_ne this]; exact r7.fh _ _ hb
      · have : b ≠ a := fun w => by subst w; have hb' : H1 b = some o := hb; rw [ha] at hb'; cases hb'
        rw [upd_ne this]; exact r7.h0 _ _ hb
  · have e : i = xs.length := by omega
    subst e
    rw [List.drop_eq_nil_of_le (Nat.le_refl _)] at q2
    refine .inl ⟨S.stop F2 H2 r2.f0 r2.fh, F2, fun b => if b = a then none else H2 b, a, ys, acc, rfl, if_pos rfl, ?_, ?_, sF.trans r2.f0, hd, q2⟩
    · funext b
      unfold upd
      by_cases z : b = a
      · rw [if_pos z, z]; exact hys
      · rw [if_neg z]
        show H2 b = if b = a then none else H2 b
        rw [if_neg z]
    · refine r1.ext r2.f0 (fun b o hb => ?_) (fun b o hb => ?_) fun p h1 h2 => r2.nf p ⟨h1, h2⟩
      · have : b ≠ a := fun w => by subst w; rw [hFa] at hb; cases hb
        show (if b = a then none else H2 b) = _
        rw [if_neg this]; exact r2.fh _ _ hb
      · have : b ≠ a := fun w => by subst w; rw [ha] at hb; cases hb
        show (if b = a then none else H2 b) = _
        rw [if_neg this]; exact sH _ _ hb
theorem RF.rv {B : Base} {σ : St} {env : En} {F : Hp} {Q : D → Prop} {v : V} {H : Hp} (h : RF X B σ env F (fun ds => Q (.lst ds)) v H) : RV X B σ env F Q v H := by
  obtain ⟨F', H1, p, vs, ds, rfl, hp, rfl, r, s, hd, q⟩ := h
  exact (RV.newLst r hd q p hp).weaken s
def cFresh (ts : TDs) : TD := fun env Q => ts env fun ds => Q (.lst ds)
theorem QF.e {e : Expr} {ts : TDs} (h : QF X e ts) : QE X e (cFresh ts) := ⟨fun B σ F H env Q rp hq => wE_mono (h B σ F H env _ rp hq) fun v H' z => z.rv⟩
def cComp (ix : List Nat) (ti : TD) (tt : TB) (te : TD) : TDs := fun env Q => ti env fun d => ∃ xs, itemsD d = some xs ∧ comps tt te (capE 1 ix env) Q xs []
theorem comp_seq {B : Base} {σ : St} {F H : Hp} {env : En} {P : List D → Prop} {R : It → Hp → Prop} (hi : QE X iter ti) (rp : Rep X.K B F H σ env) (h : ti env fun d => ∃ xs, itemsD d = some xs ∧ P xs)
    (hR : ∀ (J : It) (F1 H1 : Hp) (xs : List D), Rep X.K B F1 H1 σ env → Same F F1 → Steps X.K J F1 xs → P xs → R J H1) : iSeq X.K (wE X iter) σ H R := by
  refine wE_mono (hi B σ F H env _ rp h) fun v H1 ⟨F1, d, r1, s1, d1, xs, hx, q1⟩ => ?_
  cases d with
  | lst ys =>
    simp only [itemsD] at hx; cases hx
    simp only [Den] at d1
    obtain ⟨a, vs, rfl, q, r⟩ := d1
    exact .inl ⟨a, rfl, .inl ⟨⟨vs, r1.fh.seq q⟩, hR _ F1 H1 _ r1 s1 (steps_list q r) q1⟩⟩
  | tup ys =>
    simp only [itemsD] at hx; cases hx
    simp only [Den] at d1
    obtain ⟨a, vs, rfl, q, r⟩ := d1
    exact .inl ⟨a, rfl, .inr ⟨⟨vs, Same.seqT r1.fh q⟩, hR _ F1 H1 _ r1 s1 (steps_tup q r) q1⟩⟩
  | str z =>
    simp only [itemsD] at hx; cases hx
    simp only [Den] at d1
    subst d1
    exact .inr ⟨z, rfl, hR _ F1 H1 _ r1 s1 steps_str q1⟩
  | _ => simp only [itemsD] at hx; cases hx
theorem qf_comp (hc : X.calm = true) (O : CompOk X N' 1 ix scope) (hN : N'.Nodup) (h0 : N'[0]? = some x) (hx : (relabel scope X.env).names.lookup x = some .local) (hi : QE X iter ti)
    (ht : ∀ C s H fp pins, QIfs (compCx X N' scope C s H fp pins) ifs tt) (he : ∀ C s H fp pins, QE (compCx X N' scope C s H fp pins) elt te) (hs : ∀ x, foldedSetIterable iter X.env x = pure x := by intro _; rfl) :
    QF X (.ListComp elt [⟨.Name x px, iter, ifs, 0⟩] scope pos) (cComp ix ti tt te) := by
  refine ⟨?_⟩
  intro B σ F H env Q rp h
  refine wE_of (pe_comp hc (pi_seq pe_w) O hs) ?_
  exact comp_seq hi rp h fun J F1 H1 xs r1 s1 S q => comp_core hN h0 hx ht he s1 r1 S q
def cCompR (f : List D → (Int → Nat → Prop) → Prop) (ix : List Nat) (ts : TDs) (tt : TB) (te : TD) : TDs := fun env Q => ts env fun xs => f xs fun lo n => comps tt te (capE 1 ix env) Q (intsD lo n) []
theorem qf_compR1 {p pos2 : Pos} (hc : X.calm = true) (O : CompOk X N' 1 ix scope) (hN : N'.Nodup) (h0 : N'[0]? = some x) (hx : (relabel scope X.env).names.lookup x = some .local) (hgl : Gl X "range") (hm : X.mg "range" = none) (ha : QA X [a] ts)
    (ht : ∀ C s H fp pins, QIfs (compCx X N' scope C s H fp pins) ifs tt) (he : ∀ C s H fp pins, QE (compCx X N' scope C s H fp pins) elt te) (hst : starEach [a] X.env = [(false, eval a X.env)] := by rfl)
    (hs : ∀ x, foldedSetIterable (.Call (.Name "range" p) [a] [] pos2) X.env x = pure x := by intro _; rfl) :
    QF X (.ListComp elt [⟨.Name x px, .Call (.Name "range" p) [a] [] pos2, ifs, 0⟩] scope pos) (cCompR rng1 ix ts tt te) := by
  refine ⟨?_⟩
  intro B σ F H env Q rp h
  refine wE_of (pe_comp hc (pi_range1 hgl hm pa_w hst) O hs) ?_
  refine wA_mono (ha B σ F H env _ rp h) fun vs H1 ⟨F1, ds, r1, s1, d1, q1⟩ => ?_
  dsimp only at q1; unfold rng1 at q1
  split at q1
  · simp only [DenL, Den] at d1
    obtain ⟨v, r, rfl, rfl, rfl⟩ := d1
    exact ⟨_, rfl, q1.1.1, q1.1.2, comp_core hN h0 hx ht he s1 r1 steps_range q1.2⟩
  · exact q1.elim
end
end L2.L3
set_option Elab.async false
set_option linter.all false
set_option maxRecDepth 100000
set_option maxHeartbeats 4000000
namespace L2.L3
open PySem PySem.Spec PyProof.Rows
section
variable {X : Cx} {a b c e : Expr} {es : List Expr} {ta tb tc : TD} {tA tB' : TB} {ts : TDs} {p p2 pos : Pos} {rest : List Expr}
theorem q_abs (hm : X.mg "abs" = none) (ha : QA X [e] ts) (hg : Gl X "abs" := by rfl) (he : starEach [e] X.env = (false, eval e X.env) :: starEach [] X.env := by exact star_of rfl) : QE X (.Call (.Name "abs" p) [e] [] pos) (cCall absF ts) :=
  q_callB call_abs c3_abs hg hm boot_abs' ha (he := he)
theorem q_len (hm : X.mg "len" = none) (ha : QA X [e] ts) (hg : Gl X "len" := by rfl) (he : starEach [e] X.env = (false, eval e X.env) :: starEach [] X.env := by exact star_of rfl) : QE X (.Call (.Name "len" p) [e] [] pos) (cCall lenF ts) :=
  q_callB (call_len_seq.or call_len_str) c3_len hg hm boot_len' ha (he := he)
theorem q_max (hm : X.mg "max" = none) (ha : QA X [a, b] ts) (hg : Gl X "max" := by rfl) (hc : X.calm = true := by rfl) (he : starEach [a, b] X.env = (false, eval a X.env) :: starEach [b] X.env := by exact star_of rfl) (hpl : (backTo pos (starEach [b] X.env)).any (·.1) = false := by rfl) : QE X (.Call (.Name "max" p) [a, b] [] pos) (cCall maxF ts) :=
  q_callB (call_max2 hc) c3_max hg hm boot_max' ha (he := he) (hpl := hpl)
theorem q_min (hm : X.mg "min" = none) (ha : QA X [a, b] ts) (hg : Gl X "min" := by rfl) (hc : X.calm = true := by rfl) (he : starEach [a, b] X.env = (false, eval a X.env) :: starEach [b] X.env := by exact star_of rfl) (hpl : (backTo pos (starEach [b] X.env)).any (·.1) = false := by rfl) : QE X (.Call (.Name "min" p) [a, b] [] pos) (cCall minF ts) :=
  q_callB (call_min2 hc) c3_min hg hm boot_min' ha (he := he) (hpl := hpl)
theorem q_intOf (hm : X.mg "int" = none) (ha : QA X [e] ts) (hg : Gl X "int" := by rfl) (he : starEach [e] X.env = (false, eval e X.env) :: starEach [] X.env := by exact star_of rfl) : QE X (.Call (.Name "int" p) [e] [] pos) (cCall intF ts) :=
  q_callTy call_int1 c3_int hg hm boot_int' ha (he := he)
theorem q_tupleOf (hm : X.mg "tuple" = none) (ha : QA X [e] ts) (hg : Gl X "tuple" := by rfl) (he : starEach [e] X.env = (false, eval e X.env) :: starEach [] X.env := by exact star_of rfl) : QE X (.Call (.Name "tuple" p) [e] [] pos) (cCall tupleF ts) :=
  q_callTy call_tuple_of c3_tuple hg hm boot_tuple' ha (he := he)
def isiR (n : String) (x : D) (Q : D → Prop) : Prop := ∃ k, isiK (kdD x) n = some k ∧ Q (.bl k)
def cIsi (n : String) (ta : TD) : TD := fun env Q => ta env fun x => isiR n x Q
theorem q_isi {n : Str} {m : String} (hm : X.mg "isinstance" = none) (ht : X.mg n = none) (hb : bootBuiltins n = some (.type m)) (ha : QE X a ta) (hg : Gl X "isinstance" := by rfl) (hg2 : Gl X n := by rfl) (hn : n ≠ "__name__" := by decide) (hd : (n == ("__debug__" : Str)) = false := by decide)
    (he : starEach [a, .Name n p2] X.env = (false, eval a X.env) :: starEach [.Name n p2] X.env := by exact star_of rfl) (hpl : (backTo pos (starEach [.Name n p2] X.env)).any (·.1) = false := by rfl)
    (he2 : starEach [.Name n p2] X.env = (false, eval (.Name n p2) X.env) :: starEach [] X.env := by exact star_of rfl) : QE X (.Call (.Name "isinstance" p) [a, .Name n p2] [] pos) (cIsi m ta) := by
  have h := q_callB (p := p) (pos := pos) call_isi c3_isi hg hm boot_isi' (qa_cons ha (qa_cons (qty hg2 ht hb hn hd) qa_nil he2) he) (he := he) (hpl := hpl)
  exact ⟨fun B σ F H env Q rp hq => h B σ F H env Q rp hq⟩
variable {N' : List Str} {nt : Nat} {ix : List Nat} {scope : Scope} {elt iter : Expr} {ifs : List Expr} {x : Str} {px py spos : Pos} {tt : TB} {te ti : TD}
theorem CompOk.of (sc : Scope) (hsc : X.env.scope = sc) (kind : scope.kind = .function) (nocell : ∀ x ∈ scope.names, x.2 ≠ .cell) (names : ∀ x ∈ scope.names, x.2 = .local → scope.names.lookup x.1 = some .local)
    (free : ∀ x ∈ scope.names, x.2 = .free → sc.names.lookup x.1 = some .cell)
    (caps : ∀ (j : Nat) (i : Nat), ix[j]? = some i → ∃ x, N'[nt + j]? = some x ∧ X.N[i]? = some x ∧ (x, NameKind.free) ∈ scope.names ∧ (relabel scope X.env).names.lookup x = some .cell) (len : N'.length = nt + ix.length) : CompOk X N' nt ix scope :=
  ⟨kind, nocell, names, by rw [hsc]; exact free, caps, len⟩
end
end L2.L3
set_option Elab.async false
set_option linter.all false
set_option maxRecDepth 100000
set_option maxHeartbeats 4000000
namespace L2.L3
open PySem PySem.Spec PyProof.Rows
def Base.guard (B : Base) (p : Addr) (o : HO) : Base := ⟨B.F, upd B.H p o, fun a => a = p ∨ B.N a, fun a h => by
  by_cases e : a = p
  · subst e; rw [upd_same]; simp
  · rw [upd_ne e]; exact B.nb a (h.resolve_left e)⟩
section
variable {K : PySem.W.Frag} {B : Base} {F H : Hp} {σ : St} {env : En} {p : Addr} {o o' : HO}
theorem Rep.guarded (r : Rep K B F H σ env) (hp : H p = none) : Rep K (B.guard p o) F (upd H p o) σ env where
  f0 := r.f0
  fh := r.fh.trans (same_upd hp)
  h0 := fun b u q => by
    by_cases e : b = p
    · subst e; rw [upd_same]; have q' : upd B.H b o b = some u := q; rw [upd_same] at q'; exact q'
    · rw [upd_ne e]; have q' : upd B.H p o b = some u := q; rw [upd_ne e] at q'; exact r.h0 _ _ q'
  nf := fun a h => by
    rcases h with rfl | h
    · exact r.fnone hp
    · exact r.nf a h
  dv := r.dv
  ov := fun i xs h => by
    obtain ⟨q, vs, h1, h2, h3, h4, h5⟩ := r.ov i xs h
    have ne : q ≠ p := fun e => by subst e; rw [hp] at h2; cases h2
    exact ⟨q, vs, h1, by rw [upd_ne ne]; exact h2, h3, by show upd B.H p o q = none; rw [upd_ne ne]; exact h4, h5⟩
  ne := r.ne
  mv := fun i xs h => by
    obtain ⟨q, ep, us, vs, h1, h2, h3, h4, h5⟩ := r.mv i xs h
    have ne : q ≠ p := fun e => by subst e; rw [hp] at h2; cases h2
    exact ⟨q, ep, us, vs, h1, by rw [upd_ne ne]; exact h2, h3, by show upd B.H p o q = none; rw [upd_ne ne]; exact h4, h5⟩
  nm := r.nm
theorem Rep.unguard (r : Rep K (B.guard p o) F H σ env) (hb : B.H p = none) : Rep K B F H σ env ∧ H p = some o ∧ F p = none := by
  refine ⟨⟨r.f0, r.fh, fun b u q => r.h0 b u ?_, fun a h => r.nf a (.inr h), r.dv, fun i xs h => ?_, r.ne, fun i xs h => ?_, r.nm⟩, r.h0 p o upd_same, r.nf p (.inl rfl)⟩
  · show upd B.H p o b = some u
    have : b ≠ p := fun e => by subst e; rw [hb] at q; cases q
    rw [upd_ne this]; exact q
  · obtain ⟨q, vs, h1, h2, h3, h4, h5⟩ := r.ov i xs h
    have h4' : upd B.H p o q = none := h4
    have ne : q ≠ p := fun e => by subst e; rw [upd_same] at h4'; cases h4'
    rw [upd_ne ne] at h4'
    exact ⟨q, vs, h1, h2, h3, h4', h5⟩
  · obtain ⟨q, ep, us, vs, h1, h2, h3, h4, h5⟩ := r.mv i xs h
    have h4' : upd B.H p o q = none := h4
    have ne : q ≠ p := fun e => by subst e; rw [upd_same] at h4'; cases h4'
    rw [upd_ne ne] at h4'
    exact ⟨q, ep, us, vs, h1, h2, h3, h4', h5⟩
end
section
variable {X : Cx} {a b : Expr} {ta tb : TD} {pos : Pos}
end
end L2.L3
set_option Elab.async false
set_option linter.all false
set_option maxRecDepth 100000
set_option maxHeartbeats 4000000
namespace L2.L3
open PySem PySem.Spec PyProof.Rows
section
variable {X : Cx} {e : Expr} {ts : TDs} {pos : Pos}
end
end L2.L3
set_option Elab.async false
set_option linter.all false
set_option maxRecDepth 100000
set_option maxHeartbeats 4000000
namespace L2.L3
open PySem PySem.Spec PyProof.Rows
end L2.L3
set_option Elab.async false
set_option linter.all false
set_option maxRecDepth 100000
set_option maxHeartbeats 4000000
namespace L2.L3
open PySem PySem.Spec PyProof.Rows
section
variable {X : Cx} {pins : List (Addr × Obj)} {σ : St} {H H' : Hp} {a : Addr} {C : Value} {dd : Option Addr} {s s' : Shared}
end
section
variable {X : Cx} {c e : Expr} {es : List Expr} {st : Stmt} {sts xs ys : List Stmt} {t u : TS3} {p q : TS4} {tc : TB} {te : TD} {ts : TDs} {pos : Pos}
end
end L2.L3
set_option Elab.async false
set_option linter.all false
set_option maxRecDepth 100000
set_option maxHeartbeats 4000000
namespace L2.L3
open PySem PySem.Spec PyProof.Rows
section
variable {X : Cx} {e : Expr} {es : List Expr} {ts : TDs} {tx : TX} {p pos : Pos} {x : Str} {k : Nat} {f : FwX}
end
section
variable {X : Cx} {pins : List (Addr × Obj)} {σ : St} {H H' : Hp} {a : Addr} {s s' : Shared}
end
end L2.L3
set_option Elab.async false
set_option linter.all false
set_option maxRecDepth 100000
set_option maxHeartbeats 4000000
namespace L2.L3
open PySem PySem.Spec PyProof.Rows
end L2.L3
set_option Elab.async false
set_option linter.all false
set_option maxRecDepth 100000
set_option maxHeartbeats 4000000
namespace L2.L3
open PySem PySem.Spec PyProof.Rows
end L2.L3
set_option Elab.async false
set_option linter.all false
set_option maxRecDepth 100000
set_option maxHeartbeats 4000000
namespace L2.L3
open PySem PySem.Spec PyProof.Rows
section
variable {X : Cx} {e : Expr} {ts : TDs} {p pos : Pos}
def listOfR (ds : List D) (Q : List D → Prop) : Prop := match ds with
  | [.lst xs] => Q xs
  | [.tup xs] => Q xs
  | _ => False
theorem listOfR_l {xs : List D} {Q : List D → Prop} : listOfR [.lst xs] Q = Q xs := rfl
theorem listOfR_t {xs : List D} {Q : List D → Prop} : listOfR [.tup xs] Q = Q xs := rfl
def cListOf (ts : TDs) : TDs := fun env Q => ts env fun ds => listOfR ds Q
theorem qf_listOf (hm : X.mg "list" = none) (ha : QA X [e] ts) (hg : Gl X "list" := by rfl) (he : starEach [e] X.env = (false, eval e X.env) :: starEach [] X.env := by exact star_of rfl) (hpl : (backTo pos (starEach ([] : List Expr) X.env)).any (·.1) = false := by rfl) :
    QF X (.Call (.Name "list" p) [e] [] pos) (cListOf ts) := by
  refine ⟨fun B σ F H env Q rp h => wE_of (pe_callTy call_list_of hg hm boot_list' pa_w (by decide) (by decide) he hpl) ?_⟩
  refine wA_mono (ha B σ F H env _ rp h) fun vs H1 ⟨F1, ds, r1, s1, d1, q1⟩ => ?_
  replace q1 : listOfR ds Q := q1
  unfold listOfR at q1
  split at q1
  · simp only [DenL, Den] at d1
    obtain ⟨v, r, rfl, ⟨p, ys, rfl, q, r⟩, rfl⟩ := d1
    exact ⟨p, ys, rfl, .inl (r1.fh.seq q), fun w hw => ⟨F1, H1, w, ys, _, rfl, hw, rfl, r1, s1, r, q1⟩⟩
  · simp only [DenL, Den] at d1
    obtain ⟨v, r, rfl, ⟨p, ys, rfl, q, r⟩, rfl⟩ := d1
    exact ⟨p, ys, rfl, .inr (Same.seqT r1.fh q), fun w hw => ⟨F1, H1, w, ys, _, rfl, hw, rfl, r1, s1, r, q1⟩⟩
  · exact q1.elim
end
section
variable {X : Cx} {es : List Expr} {pos : Pos}
end
end L2.L3
set_option Elab.async false
set_option linter.all false
set_option maxRecDepth 100000
set_option maxHeartbeats 4000000
namespace L2.L3
open PySem PySem.Spec PyProof.Rows
section
variable {X : Cx} {a b c e : Expr} {ta tb tc : TD} {ts : TDs} {pos : Pos}
theorem strs_are : ∀ {ys : List Str} {us : List Value}, Vals (ys.map V.str) us → StrsAre us ys
  | [], us, h => by cases h; exact .nil
  | y :: ys, us, h => by
    cases h with
    | cons h1 h2 =>
      obtain ⟨t, rfl⟩ := h1
      exact .cons y t (strs_are h2)
theorem denL_strs {K : PySem.W.Frag} {F : Hp} : ∀ {ys : List Str} {vs : List V}, DenL K F (ys.map D.str) vs → vs = ys.map V.str
  | [], vs, h => by simpa only [List.map_nil, DenL] using h
  | y :: ys, vs, h => by
    simp only [List.map_cons, DenL, Den] at h
    obtain ⟨v, r, rfl, rfl, h⟩ := h
    rw [denL_strs h]; rfl
end
end L2.L3
set_option Elab.async false
set_option linter.all false
set_option maxRecDepth 100000
set_option maxHeartbeats 4000000
namespace L2.L3
open PySem PySem.Spec PyProof.Rows
section
variable {X : Cx} {p pos : Pos}
def cLenOwn (i : Nat) : TD := fun env Q => ∃ xs, env[i]? = some (some (.own xs)) ∧ Q (.int xs.length)
theorem q_lenOwn {x : Str} {px : Pos} (i : Nat) (hm : X.mg "len" = none) (hg : Gl X "len" := by rfl) (hN : X.N[i]? = some x := by rfl) (hv : Vis X.env.scope x := by first | exact Or.inl rfl | exact Or.inr (Or.inl rfl) | exact Or.inr (Or.inr rfl)) (hd : (x == ("__debug__" : Str)) = false := by decide)
    (hcd : (x == ("__classdict__" : Str)) = false := by decide) (he : starEach [.Name x px] X.env = (false, eval (.Name x px) X.env) :: starEach [] X.env := by exact star_of rfl) (hpl : (backTo pos (starEach ([] : List Expr) X.env)).any (·.1) = false := by rfl) :
    QE X (.Call (.Name "len" p) [.Name x px] [] pos) (cLenOwn i) := by
  refine ⟨fun B σ F H env Q rp h => wE_of (pe_callB call_len_seq hg hm boot_len' (pa_cons (pe_var hN hv hd hcd) pa_nil he) (by decide) (by decide) he hpl) ?_⟩
  obtain ⟨xs, hx, q⟩ := h
  obtain ⟨p, vs, h1, h2, h3, h4, h5⟩ := rp.ov i xs hx
  refine ⟨.ref p, h1, p, vs, rfl, .inl (SqL.of h2), F, .int xs.length, rp, Same.refl _, ?_, q⟩
  rw [h5.length]; exact den_int
end
end L2.L3
set_option Elab.async false
set_option linter.all false
set_option maxRecDepth 100000
set_option maxHeartbeats 4000000
set_option Elab.async false
set_option linter.all false
set_option maxRecDepth 100000
set_option maxHeartbeats 4000000
namespace L2.L3
open PySem PySem.Spec PyProof.Rows
section
variable {X : Cx} {b : Expr} {tb : TD} {x : Str} {tab : List (Str × Str)} {a : Addr} {es : Array DictEntry} {n : Nat} {p pos : Pos}
end
end L2.L3
set_option Elab.async false
set_option linter.all false
set_option maxRecDepth 100000
set_option maxHeartbeats 4000000
namespace L2.L3
open PySem PySem.Spec PyProof.Rows
section
variable {X : Cx} {e : Expr} {ts : TDs} {p pos : Pos}
end
end L2.L3
set_option Elab.async false
set_option linter.all false
set_option maxRecDepth 100000
set_option maxHeartbeats 4000000
namespace L2.L3
open PySem
section
variable {Q : D → Prop} {i j : Int} {xs ys : List D} {z z' : Str} {C : Int → Int → Prop} {g : Int → Int → D} {k : Bool}
theorem ii_eq : iiD C g (.int i) (.int j) Q = (C i j ∧ Q (g i j)) := rfl
theorem addD_ii : addD (.int i) (.int j) Q = Q (.int (i + j)) := rfl
theorem addD_ll : addD (.lst xs) (.lst ys) Q = (xs.length + ys.length ≤ sizeLine ∧ Q (.lst (xs ++ ys))) := rfl
theorem addD_tt : addD (.tup xs) (.tup ys) Q = (xs.length + ys.length ≤ sizeLine ∧ Q (.tup (xs ++ ys))) := rfl
theorem addD_ss : addD (.str z) (.str z') Q = (z.length + z'.length ≤ sizeLine ∧ Q (.str (z ++ z'))) := rfl
theorem negD_i : negD (.int i) Q = Q (.int (-i)) := rfl
theorem eqF_ii : eqF (.int i) (.int j) Q = Q (.bl (decide (i = j))) := by
  unfold eqF DepOk; simp only [dep, eqD, Nat.zero_le, and_self, true_and]; rw [Bool.beq_eq_decide_eq]
theorem neF_ii : neF (.int i) (.int j) Q = Q (.bl (!decide (i = j))) := by
  unfold neF DepOk; simp only [dep, eqD, Nat.zero_le, and_self, true_and]; rw [Bool.beq_eq_decide_eq]
theorem eqF_ss : eqF (.str z) (.str z') Q = Q (.bl (z == z')) := by
  unfold eqF DepOk; simp only [dep, eqD, Nat.zero_le, and_self, true_and]
theorem eqF_bb {k' : Bool} : eqF (.bl k) (.bl k') Q = Q (.bl (k == k')) := by
  unfold eqF DepOk; simp only [dep, eqD, Nat.zero_le, and_self, true_and]
theorem absF_i : absF [.int i] Q = Q (.int i.natAbs) := by
  show Q _ = Q _
  congr 2
  split <;> omega
theorem lenF_l : lenF [.lst xs] Q = Q (.int xs.length) := rfl
theorem lenF_t : lenF [.tup xs] Q = Q (.int xs.length) := rfl
theorem lenF_s : lenF [.str z] Q = (z.length ≤ sizeLine ∧ Q (.int z.length)) := rfl
theorem maxF_ii : maxF [.int i, .int j] Q = Q (.int (max i j)) := by
  show Q _ = Q _
  congr 2
  split <;> omega
theorem minF_ii : minF [.int i, .int j] Q = Q (.int (min i j)) := by
  show Q _ = Q _
  congr 2
  split <;> omega
theorem intF_i : intF [.int i] Q = Q (.int i) := rfl
theorem intF_b : intF [.bl k] Q = Q (.int (if k then 1 else 0)) := rfl
theorem tupleF_l : tupleF [.lst xs] Q = Q (.tup xs) := rfl
theorem tupleF_t : tupleF [.tup xs] Q = Q (.tup xs) := rfl
theorem itemsD_l : itemsD (.lst xs) = some xs := rfl
theorem itemsD_t : itemsD (.tup xs) = some xs := rfl
theorem slD_l {lo hi : Option Int} : slD (.lst xs) lo hi Q = Q (.lst (cutD xs lo hi)) := rfl
theorem rng1_i {R : Int → Nat → Prop} : rng1 [.int j] R = ((-(2 ^ 62) ≤ j ∧ j < 2 ^ 62) ∧ R 0 j.toNat) := rfl
theorem rng2_i {R : Int → Nat → Prop} : rng2 [.int i, .int j] R = ((-(2 ^ 62) ≤ i ∧ i < 2 ^ 62 ∧ -(2 ^ 62) ≤ j ∧ j < 2 ^ 62) ∧ R i (j - i).toNat) := rfl
def Pl (x : D) : Prop := kdD x ≠ .oth
def isStr : D → Bool | .str _ => true | _ => false
theorem isi_str {x : D} (h : Pl x) (q : Q (.bl (isStr x))) : isiR "str" x Q := by cases x <;> first | exact ⟨_, rfl, q⟩ | exact absurd rfl h
end
def cons1 (xs : List D) (R : D → List D → Prop) : Prop := match xs with | x :: r => R x r | _ => False
theorem cons1_eq {x : D} {r : List D} {R : D → List D → Prop} : cons1 (x :: r) R = R x r := rfl
theorem kCons_eq (g : TG3) (gs : TGs3) (xs : List D) (env : En) (Q : En → Prop) : kCons g gs xs env Q = cons1 xs fun x r => g x env fun env' => gs r env' Q := by
  unfold kCons cons1
  apply propext
  constructor
  · rintro ⟨x, y, rfl, h⟩; exact h
  · intro h; split at h
    · exact ⟨_, _, rfl, h⟩
    · exact h.elim
theorem turns_of {g : TG3} {tb : TS3} {Z : Ends3} {xs : List D} (I : Nat → En → Prop)
    (step : ∀ (i : Nat) (x : D) (env : En) (N : En → Prop), xs[i]? = some x → I i env → (∀ e, I (i + 1) e → N e) → g x env fun e => tb { Z with nx := N, ct := N, bk := Z.nx } e)
    (done : ∀ env, I xs.length env → Z.nx env) {env : En} (h0 : I 0 env) : turns g tb Z xs env := by
  have go : ∀ (n k : Nat) (env : En), k + n = xs.length → I k env → turns g tb Z (xs.drop k) env := by
    intro n
    induction n with
    | zero =>
      intro k env hk h
      rw [List.drop_eq_nil_of_le (by omega)]
      exact done env (by rw [← hk]; exact h)
    | succ n ih =>
      intro k env hk h
      have hx : xs[k]? = some (xs[k]'(by omega)) := by simp
      rw [drop_cons hx]
      exact step k _ env _ hx h fun e he => ih (k + 1) e (by omega) he
  simpa using go xs.length 0 env (by omega) h0
theorem comps_map {te : TD} {env0 : En} {Q : List D → Prop} (f : D → D) : ∀ (xs acc : List D), (∀ x ∈ xs, ∀ N : D → Prop, N (f x) → te (env0.set 0 (some (.d x))) N) → acc.length + xs.length ≤ sizeLine → Q (acc ++ xs.map f) → comps cTrue te env0 Q xs acc
  | [], acc, _, _, q => by simpa [comps] using q
  | x :: xs, acc, h, hl, q => by
    simp only [comps, cTrue, if_true]
    refine h x List.mem_cons_self _ ⟨by simp at hl; omega, comps_map f xs _ (fun y hy => h y (List.mem_cons_of_mem _ hy)) (by simp at hl ⊢; omega) (by simpa using q)⟩
theorem comps_rel {te : TD} {env0 : En} {Q : List D → Prop} (R : D → D → Prop) : ∀ (xs acc : List D), (∀ x ∈ xs, ∀ N : D → Prop, (∀ y, R x y → N y) → te (env0.set 0 (some (.d x))) N) → acc.length + xs.length ≤ sizeLine → (∀ ys, ys.length = xs.length → (∀ (i : Nat) (x y : D), xs[i]? = some x → ys[i]? = some y → R x y) → Q (acc ++ ys)) → comps cTrue te env0 Q xs acc
  | [], acc, _, _, q => by simpa [comps] using q [] rfl (by simp)
  | x :: xs, acc, h, hl, q => by
    simp only [comps, cTrue, if_true]
    refine h x List.mem_cons_self _ fun y hy => ⟨by simp at hl; omega, comps_rel R xs _ (fun y hy => h y (List.mem_cons_of_mem _ hy)) (by simp at hl ⊢; omega) fun ys hl2 hr => ?_⟩
    rw [List.append_assoc]
    refine q (y :: ys) (by simpa using hl2) fun i a b ha hb => ?_
    cases i with
    | zero => simp at ha hb; subst ha hb; exact hy
    | succ i => exact hr i a b (by simpa using ha) (by simpa using hb)
theorem atI_nat {α : Type} {xs : List α} {i : Int} (h0 : 0 ≤ i) (h1 : i < xs.length) : atI xs i = xs[i.toNat]? := by
  unfold L2.atI ixN
  rw [if_pos h0, if_pos h1]; rfl
theorem fmod_range {a b : Int} (h : 0 < b) : 0 ≤ a.fmod b ∧ a.fmod b < b := ⟨Int.fmod_nonneg_of_pos a h, Int.fmod_lt_of_pos a h⟩
def Bits (n : Nat) (a : Int) : Prop := a.natAbs < 2 ^ n
theorem bits_le {n m : Nat} {a : Int} (h : Bits n a) (hm : n ≤ m) : Bits m a := Nat.lt_of_lt_of_le h (Nat.pow_le_pow_right (by decide) hm)
theorem intBits_of {n : Nat} {a : Int} (h : Bits n a) : Builtin.Int.intBits a ≤ n := by
  unfold Builtin.Int.intBits
  by_cases e : a = 0
  · subst e; simp
  · rw [if_neg (by simpa using e)]
    have : a.natAbs ≠ 0 := by omega
    exact (Nat.log2_lt this).mpr h
theorem mul_ok {n m : Nat} {a b : Int} (ha : Bits n a) (hb : Bits m b) (h : n + m ≤ 1000000) : IntMulOk a b := by
  have h1 := intBits_of ha
  have h2 := intBits_of hb
  unfold IntMulOk Builtin.Int.intTooBig
  have : ¬ ((Builtin.Int.intBits a : Int) + (Builtin.Int.intBits b : Int) > (bitsLine : Int)) := by
    have : (1000000 : Int) ≤ (bitsLine : Int) := by decide
    omega
  simp only [Bool.and_eq_true, decide_eq_true_eq]
  rintro ⟨_, h3⟩
  exact this h3
theorem bits_add {n m : Nat} {a b : Int} (ha : Bits n a) (hb : Bits m b) : Bits (max n m + 1) (a + b) := by
  unfold Bits at *
  have h1 : (2:Nat) ^ n ≤ 2 ^ max n m := Nat.pow_le_pow_right (by decide) (Nat.le_max_left _ _)
  have h2 : (2:Nat) ^ m ≤ 2 ^ max n m := Nat.pow_le_pow_right (by decide) (Nat.le_max_right _ _)
  rw [Nat.pow_succ]
  omega
theorem div_ok {n : Nat} {a b : Int} (hb : Bits n b) (h0 : b ≠ 0) (hn : n ≤ 9000) : DivOk a b := by
  refine ⟨h0, ?_⟩
  have : b.natAbs ≠ 0 := by omega
  exact Nat.lt_of_lt_of_le ((Nat.log2_lt this).mpr hb) hn
theorem mul_ok_l {a b : Int} (h1 : -(2 ^ 64) < a) (h2 : a < 2 ^ 64) : IntMulOk a b := .of_left (intBits_le_64 h1 h2)
theorem mul_ok_r {a b : Int} (h1 : -(2 ^ 64) < b) (h2 : b < 2 ^ 64) : IntMulOk a b := .of_right (intBits_le_64 h1 h2)
theorem divL {c : Int} (j : Int) (h : j ≠ 0 ∧ j.natAbs < 2 ^ 256) : DivOk c j := div_ok (n := 256) h.2 h.1 (by decide)
theorem powL (i j : Int) (h : 0 ≤ j ∧ j ≤ 1000000 ∧ i.natAbs < 2 ^ 64) : CPow i j := h
theorem modL {c : Int} (j : Int) (h : j ≠ 0) : ModOk c j := h
theorem bitsL (n : Nat) (a : Int) (h : a.natAbs < 2 ^ n) : Bits n a := h
end L2.L3
local macro_rules | `(tactic| simp_all_arith only [$ls,*]) => `(tactic| simp only [$ls,*, L2.L3.dSeq, L2.L3.dIf, L2.L3.dRet, L2.L3.dNext, L2.L3.dBreak, L2.L3.dSet, L2.L3.dAsg, L2.L3.dFor, L2.L3.dForR, L2.L3.dSetOwn, L2.L3.dAppend, L2.L3.dFreeze, L2.L3.dPut, L2.L3.cVar, L2.L3.cC, L2.L3.cOp, L2.L3.cUn, L2.L3.cTest, L2.L3.cNot, L2.L3.cAnd, L2.L3.cOr, L2.L3.cCall, L2.L3.cCons, L2.L3.cNil, L2.L3.cTup, L2.L3.cLst, L2.L3.cIsi, L2.L3.cFresh, L2.L3.cFew, L2.L3.cSl, L2.L3.cPart, L2.L3.cIxOwn, L2.L3.kName, L2.L3.kTup, L2.L3.kCons_eq, L2.L3.cons1_eq, L2.L3.kNil, L2.L3.cTrue, L2.L3.start3, List.map_cons, List.map_nil, List.length_cons, List.length_nil, List.cons_append, List.nil_append, List.append_nil, List.getElem?_cons_zero, List.getElem?_cons_succ, List.getElem?_nil, List.set_cons_zero, List.set_cons_succ, Option.some.injEq, L2.L3.Lo.d.injEq, L2.L3.Lo.own.injEq, L2.L3.D.bl.injEq, L2.L3.D.int.injEq, exists_eq_left', exists_eq_left, Nat.reduceAdd, Nat.reduceSub, Nat.sub_self, Nat.add_one_sub_one, List.replicate_succ, List.replicate_zero, L2.L3.D.tup.injEq, List.cons.injEq, and_assoc, L2.L3.cComp, L2.L3.cCompR, L2.L3.ii_eq, L2.L3.addD_ii, L2.L3.addD_ll, L2.L3.addD_tt, L2.L3.addD_ss, L2.L3.negD_i, L2.L3.eqF_ii, L2.L3.neF_ii, L2.L3.eqF_ss, L2.L3.eqF_bb, L2.L3.absF_i, L2.L3.lenF_l, L2.L3.lenF_t, L2.L3.lenF_s, L2.L3.maxF_ii, L2.L3.minF_ii, L2.L3.intF_i, L2.L3.intF_b, L2.L3.tupleF_l, L2.L3.tupleF_t, L2.L3.itemsD_l, L2.L3.itemsD_t, L2.L3.slD_l, L2.L3.rng1_i, L2.L3.rng2_i, decide_eq_true_eq, true_and, and_true, if_true, if_false, Bool.false_eq_true, Bool.not_eq_true', decide_eq_false_iff_not, PySem.sizeLine_eq, Int.reduceToNat, Int.reducePow, Int.reduceMul, Int.reduceAdd, Int.reduceNeg, Int.reduceSub, Int.reduceLT, Int.reduceLE, Int.reduceEq, Nat.reduceEqDiff, decide_true, decide_false, Nat.reduceLeDiff, Nat.reduceLT, Bool.true_eq_false, Bool.not_true, Bool.not_false, Bool.not_not])
local macro_rules | `(tactic| simp_arith! only [$ls,*] $[$loc]?) => `(tactic| simp only [$ls,*, L2.L3.dSeq, L2.L3.dIf, L2.L3.dRet, L2.L3.dNext, L2.L3.dBreak, L2.L3.dSet, L2.L3.dAsg, L2.L3.dFor, L2.L3.dForR, L2.L3.dSetOwn, L2.L3.dAppend, L2.L3.dFreeze, L2.L3.dPut, L2.L3.cVar, L2.L3.cC, L2.L3.cOp, L2.L3.cUn, L2.L3.cTest, L2.L3.cNot, L2.L3.cAnd, L2.L3.cOr, L2.L3.cCall, L2.L3.cCons, L2.L3.cNil, L2.L3.cTup, L2.L3.cLst, L2.L3.cIsi, L2.L3.cFresh, L2.L3.cFew, L2.L3.cSl, L2.L3.cPart, L2.L3.cIxOwn, L2.L3.kName, L2.L3.kTup, L2.L3.kCons_eq, L2.L3.cons1_eq, L2.L3.kNil, L2.L3.cTrue, L2.L3.start3, List.map_cons, List.map_nil, List.length_cons, List.length_nil, List.cons_append, List.nil_append, List.append_nil, List.getElem?_cons_zero, List.getElem?_cons_succ, List.getElem?_nil, List.set_cons_zero, List.set_cons_succ, Option.some.injEq, L2.L3.Lo.d.injEq, L2.L3.Lo.own.injEq, L2.L3.D.bl.injEq, L2.L3.D.int.injEq, exists_eq_left', exists_eq_left, Nat.reduceAdd, Nat.reduceSub, Nat.sub_self, Nat.add_one_sub_one, List.replicate_succ, List.replicate_zero, L2.L3.D.tup.injEq, List.cons.injEq, and_assoc, L2.L3.cComp, L2.L3.cCompR, L2.L3.ii_eq, L2.L3.addD_ii, L2.L3.addD_ll, L2.L3.addD_tt, L2.L3.addD_ss, L2.L3.negD_i, L2.L3.eqF_ii, L2.L3.neF_ii, L2.L3.eqF_ss, L2.L3.eqF_bb, L2.L3.absF_i, L2.L3.lenF_l, L2.L3.lenF_t, L2.L3.lenF_s, L2.L3.maxF_ii, L2.L3.minF_ii, L2.L3.intF_i, L2.L3.intF_b, L2.L3.tupleF_l, L2.L3.tupleF_t, L2.L3.itemsD_l, L2.L3.itemsD_t, L2.L3.slD_l, L2.L3.rng1_i, L2.L3.rng2_i, decide_eq_true_eq, true_and, and_true, if_true, if_false, Bool.false_eq_true, Bool.not_eq_true', decide_eq_false_iff_not, PySem.sizeLine_eq, Int.reduceToNat, Int.reducePow, Int.reduceMul, Int.reduceAdd, Int.reduceNeg, Int.reduceSub, Int.reduceLT, Int.reduceLE, Int.reduceEq, Nat.reduceEqDiff, decide_true, decide_false, Nat.reduceLeDiff, Nat.reduceLT, Bool.true_eq_false, Bool.not_true, Bool.not_false, Bool.not_not, L2.L3.cListOf, L2.L3.listOfR_l, L2.L3.listOfR_t, L2.L3.D.lst.injEq, L2.L3.cLenOwn] $[$loc]?)
set_option Elab.async false
set_option linter.all false
set_option maxRecDepth 100000
set_option maxHeartbeats 4000000
namespace L2.L3
open PySem
def F1 (P : D → (D → Prop) → Prop) : Fw := fun ds Q => ∃ x, ds = [x] ∧ P x Q
def F2 (P : D → D → (D → Prop) → Prop) : Fw := fun ds Q => ∃ x y, ds = [x, y] ∧ P x y Q
def F3 (P : D → D → D → (D → Prop) → Prop) : Fw := fun ds Q => ∃ x y z, ds = [x, y, z] ∧ P x y z Q
theorem lenF1 {P} : ∀ ds Q, F1 P ds Q → ds.length = 1 := by rintro ds Q ⟨x, rfl, _⟩; rfl
theorem lenF2 {P} : ∀ ds Q, F2 P ds Q → ds.length = 2 := by rintro ds Q ⟨x, y, rfl, _⟩; rfl
theorem lenF3 {P} : ∀ ds Q, F3 P ds Q → ds.length = 3 := by rintro ds Q ⟨x, y, z, rfl, _⟩; rfl
theorem F1_eq {P} {x : D} {Q} : F1 P [x] Q = P x Q := by
  unfold F1; apply propext; constructor
  · rintro ⟨x', e, h⟩; cases e; exact h
  · intro h; exact ⟨_, rfl, h⟩
theorem F2_eq {P} {x y : D} {Q} : F2 P [x, y] Q = P x y Q := by
  unfold F2; apply propext; constructor
  · rintro ⟨x', y', e, h⟩; cases e; exact h
  · intro h; exact ⟨_, _, rfl, h⟩
theorem F3_eq {P} {x y z : D} {Q} : F3 P [x, y, z] Q = P x y z Q := by
  unfold F3; apply propext; constructor
  · rintro ⟨x', y', z', e, h⟩; cases e; exact h
  · intro h; exact ⟨_, _, _, rfl, h⟩
end L2.L3
set_option Elab.async false
set_option linter.all false
set_option maxRecDepth 100000
set_option maxHeartbeats 4000000
namespace L2.L3
open PySem
def cellZ (ns : List Int) (k : Int) : Int := if k < ns.length then ns.getD k.toNat 0 else 0
def pCell (x y : D) (Q : D → Prop) : Prop := ∃ (ns : List Int) (k : Int), x = .lst (ns.map D.int) ∧ y = .int k ∧ 0 ≤ k ∧ Q (.int (cellZ ns k))
def f_law_cell : Fw := F2 pCell
def t_law_cell : TS3 := (dSeq (dIf (cTest (cOp ltD (cVar 1) (cCall lenF (cCons (cVar 0) cNil)))) (dRet (cOp ixD (cVar 0) (cVar 1))) dNext) (dRet (cC (.int 0))))
theorem ob_law_cell : ∀ ds (Q : D → Prop), f_law_cell ds Q → t_law_cell { nx := fun _ => Q .non, rt := Q } (start3 ["_law_script", "_law_k"] ds) := by
  rintro ds Q ⟨x, y, rfl, ns, k, rfl, rfl, hk, h⟩
  simp_all_arith only [t_law_cell, List.length_map]
  unfold cellZ at h
  by_cases hl : k < ns.length
  · rw [if_pos hl] at h ⊢
    have hn : k.toNat < ns.length := by omega
    refine ⟨.int (ns.getD k.toNat 0), ?_, h⟩
    rw [atI_nat hk (by simpa using hl)]
    simp [hn]
  · rw [if_neg hl] at h ⊢; exact h
end L2.L3
set_option Elab.async false
set_option linter.all false
set_option maxRecDepth 100000
set_option maxHeartbeats 4000000
set_option Elab.async false
set_option linter.all false
set_option maxRecDepth 100000
set_option maxHeartbeats 4000000
namespace L2
open PySem PySem.Spec PyProof.Rows
theorem Inv.turnedL {X : Cx} {pins : List (Addr × Obj)} {σ : St} {H : Hp} {s : Shared} {h' : Heap} {t' : Nat} {ch : List Addr} (I : Inv X pins σ H s) (k : ∀ b o, b ∉ ch → s.heap.get? b = some o → h'.get? b = some o) (hf : ∀ b ∈ ch, FpOk X pins H b) :
    Inv X pins σ H { s with heap := h', toks := t' } := by
  have far : ∀ b u, H b = some u → b ∉ ch := fun b u e z => by rw [(hf b z).1] at e; cases e
  refine I.step (g' := s.gens) (d' := s.drawn) (ch := ch) (fun b hb => ⟨(hf b hb).2.2.2.1, (hf b hb).2.1, (hf b hb).2.2.2.2.1, (hf b hb).2.2.2.2.2⟩) (fun b o _ _ hc e _ => k b o hc e) (fun b o _ _ hc e _ => ⟨o.slots, k b o hc e⟩)
    (fun _ _ _ _ n => n) (fun b o hc e => ⟨o, k b o hc e⟩) (fun _ _ e => e) (fun _ _ _ e => e) (fun b ps e => ⟨#[], by rw [e]; simp⟩) (fun m hm => ?_) (fun b u e => ?_) I.bare
  · obtain ⟨o, es, ep, ho, r⟩ := hm
    exact ⟨o, es, ep, k _ o (fun z => (hf _ z).2.1 rfl) ho, r⟩
  · refine (I.hok b u e).stay (fun c v hc q => k c v ?_ q) (fun _ q => q) fun _ _ q => q
    rcases hc with z | z
    · rw [z]; exact far b u e
    · exact far c _ z
section
variable {prog : Program} {w : World} {A : Around} {E : Value → Shared → Prop} {s : Shared}
theorem nx_tup {j l : Addr} {k : Nat} {its : Array Value} {y : Value} {Q : Value → Shared → Prop} (hj : s.heap.IsTupleIter j l k) (hl : s.heap.IsTuple l its) (hy : its[k]? = some y)
    (q : ∀ h1, h1.IsTupleIter j l (k + 1) → Heap.SameBut j s.heap h1 → Q y { s with heap := h1 }) : wpAny (model prog w) A (Builtin.SmallTypes.nextOf (.ref j)) Q E s := by
  obtain ⟨oj, e1, c1, d1⟩ := id hj
  obtain ⟨ot, e2, _, _, d2⟩ := hl
  unfold Builtin.SmallTypes.nextOf
  refine wpAny_bind (wpAny_callSpecial?_slot (name := Str.ofString "__next__") hj.typeIs F.slot_tuple_iterator_next (wpAny_call_entry F.slot_tuple_iterator_next hj.typeIs F.entry_tuple_iterator_next ?_ (F.args_tuple_iterator_next_1 _)))
  show wpAny _ _ (field (.ref j) 0 >>= _) _ _ s
  refine wpAny_bind (wpAny_field e1 d1 (x := .ref l) rfl ?_)
  show wpAny _ _ (if (Value.ref l == Value.none) = true then _ else _) _ _ s
  rw [if_neg (show ¬ ((Value.ref l == Value.none) = true) from Bool.false_ne_true)]
  show wpAny _ _ (field (.ref j) 1 >>= _) _ _ s
  refine wpAny_bind (wpAny_field e1 d1 (x := .int k 0) rfl ?_)
  show wpAny _ _ (seqItems? (.ref l) >>= _) _ _ s
  refine wpAny_bind (wpAny_seqItems e2 d2 ?_)
  simp only [Int.toNat_natCast, hy]
  refine wpAny_bind (wpAny_setField e1 d1 (by simp) (wpAny_pure ⟨y, rfl, wpAny_pure (q _ ?_ (Heap.SameBut.update ..))⟩))
  exact ⟨_, Heap.get?_update_self _ e1 (Obj.isFreed_of_fields (Obj.data_mapFields d1 _)), (Obj.cls_mapFields ..).trans c1, by rw [Obj.data_mapFields d1]; simp [rawInt]⟩
theorem nx_tup_end {j l : Addr} {k : Nat} {its : Array Value} {Q : Value → Shared → Prop} (hh : A.handled = none) (hj : s.heap.IsTupleIter j l k) (hl : s.heap.IsTuple l its) (hy : its[k]? = none)
    (q : ∀ h1 e, Heap.ExtBut j s.heap h1 → (∃ o, h1.get? e = some o ∧ o.cls = .type "StopIteration") → E (.ref e) { s with heap := h1 }) : wpAny (model prog w) A (Builtin.SmallTypes.nextOf (.ref j)) Q E s := by
  obtain ⟨oj, e1, c1, d1⟩ := id hj
  obtain ⟨ot, e2, _, _, d2⟩ := hl
  unfold Builtin.SmallTypes.nextOf
  refine wpAny_bind (wpAny_callSpecial?_slot (name := Str.ofString "__next__") hj.typeIs F.slot_tuple_iterator_next (wpAny_call_entry F.slot_tuple_iterator_next hj.typeIs F.entry_tuple_iterator_next ?_ (F.args_tuple_iterator_next_1 _)))
  show wpAny _ _ (field (.ref j) 0 >>= _) _ _ s
  refine wpAny_bind (wpAny_field e1 d1 (x := .ref l) rfl ?_)
  show wpAny _ _ (if (Value.ref l == Value.none) = true then _ else _) _ _ s
  rw [if_neg (show ¬ ((Value.ref l == Value.none) = true) from Bool.false_ne_true)]
  show wpAny _ _ (field (.ref j) 1 >>= _) _ _ s
  refine wpAny_bind (wpAny_field e1 d1 (x := .int k 0) rfl ?_)
  show wpAny _ _ (seqItems? (.ref l) >>= _) _ _ s
  refine wpAny_bind (wpAny_seqItems e2 d2 ?_)
  simp only [Int.toNat_natCast, hy]
  refine wpAny_bind (wpAny_rule (wpAny_bind (wpAny_setField e1 d1 (by simp) (show wpAny _ _ (newExc (.type "StopIteration") [] >>= _) _ _ _ from wpAny_bind ?_))))
  simp only [newExc, newTuple]
  refine wpAny_bind (wpAny_newObj_type (wpAny_bind (m := firstArgMember _ _) (wpAny_of_eq (a := Value.none) (by first | rfl | (simp only [firstArgMember]; rfl)) (wpAny_newObj_type ?_ (by size_fits)))) (by size_fits))
  simp only [raiseNew]
  refine wpAny_bind (wpAny_handled ?_)
  first | rw [show A.in1.handled = none from hh] | rw [hh]
  exact wpAny_bind (wpAny_pure (wpAny_throw (q _ _ (((Heap.SameBut.update ..).extBut.push _).push _) ⟨_, Heap.get?_push_size _ rfl, rfl⟩)))
theorem en_item {e j : Addr} {k : Nat} {y z : Value} {T : Heap → Prop} {Q : Value → Shared → Prop} (he : IsEnum s.heap e j k z) (ne : e ≠ j)
    (nx : ∀ R : Value → Shared → Prop, (∀ h1, T h1 → Heap.SameBut j s.heap h1 → R y { s with heap := h1 }) → wpAny (model prog w) A (Builtin.SmallTypes.nextOf (.ref j)) R E s)
    (mv : ∀ h1 h2 : Heap, T h1 → (∀ o, h1.get? j = some o → h2.get? j = some o) → T h2) (hj : ∀ h1, T h1 → ∃ o, h1.get? j = some o)
    (q : ∀ h1, IsEnumOut h1 e j ((k : Int) + 1) y s.heap.objs.size → T h1 → h1.get? s.heap.objs.size = some { cls := .type "tuple", data := .seq #[.int k s.toks, y] } → (∀ b o, b ≠ e → b ≠ j → s.heap.get? b = some o → h1.get? b = some o) →
      Q (.ref s.heap.objs.size) { s with heap := h1, toks := s.toks + 1 }) :
    wpAny (model prog w) A (Builtin.«enumerate.__next__» ⟨[.ref e], []⟩) (fun fin s' => ∃ v, fin = .done (.ret v) ∧ Q v s') E s := by
  obtain ⟨hp, g, d, tk, os⟩ := s
  show wpAny _ _ (field (.ref e) 2 >>= _) _ _ _
  refine wpAny_bind (wpAny_field he rfl (x := .ref j) rfl (wpAny_bind (nx _ fun g1 t1 b1 => ?_)))
  replace b1 : Heap.SameBut j hp g1 := b1
  have i1 : IsEnum g1 e j k z := (b1.2 e ne).trans he
  show wpAny _ _ (field (.ref e) 3 >>= _) _ _ ⟨g1, g, d, tk, os⟩
  refine wpAny_bind (wpAny_field i1 rfl (x := rawInt k) rfl ?_)
  show wpAny _ _ (field (.ref e) 4 >>= _) _ _ ⟨g1, g, d, tk, os⟩
  refine wpAny_bind (wpAny_field i1 rfl (x := .none) rfl ?_)
  show wpAny _ _ (mkInt k >>= _) _ _ ⟨g1, g, d, tk, os⟩
  refine wpAny_bind (wpAny_mkInt ?_)
  show wpAny _ _ (setField (.ref e) 3 (rawInt ((k : Int) + 1)) >>= _) _ _ ⟨g1, g, d, tk + 1, os⟩
  refine wpAny_bind (wpAny_setField_rec i1 (by simp) fun g2 i2 b2 => ?_)
  replace b2 : Heap.SameBut e g1 g2 := b2
  replace i2 : IsEnum g2 e j ((k : Int) + 1) z := i2
  show wpAny _ _ (setField (.ref e) 4 .none >>= _) _ _ ⟨g2, g, d, tk + 1, os⟩
  refine wpAny_bind (wpAny_setField_rec i2 (by simp) fun g3 i3 b3 => ?_)
  replace b3 : Heap.SameBut e g2 g3 := b3
  replace i3 : IsEnum g3 e j ((k : Int) + 1) z := i3
  show wpAny _ _ (newTuple [.int k tk, y] >>= _) _ _ ⟨g3, g, d, tk + 1, os⟩
  refine wpAny_bind (wpAny_newTuple ?_)
  have i4 : IsEnum (g3.push { cls := .type "tuple", data := .seq #[.int k tk, y] }) e j ((k : Int) + 1) z := Heap.get?_push_of_some _ i3
  generalize eg : g3.push { cls := .type "tuple", data := .seq #[.int k tk, y] } = g4 at i4
  have sz : g3.objs.size = hp.objs.size := by rw [b3.1, b2.1, b1.1]
  have lt : e < hp.objs.size := Heap.lt_size he
  have t4 : g4.get? hp.objs.size = some { cls := .type "tuple", data := .seq #[.int k tk, y] } := by rw [← eg, ← sz]; exact Heap.get?_push_size _ rfl
  have k4 : ∀ b o, b ≠ e → b ≠ j → hp.get? b = some o → g4.get? b = some o := fun b o n1 n2 hb => by
    rw [← eg]; exact Heap.get?_push_of_some _ (b3.extBut b o n1 (b2.extBut b o n1 (b1.extBut b o n2 hb)))
  have T4 : T g4 := mv g1 g4 t1 fun o ho => by rw [← eg]; exact Heap.get?_push_of_some _ (b3.extBut j o (Ne.symm ne) (b2.extBut j o (Ne.symm ne) ho))
  show wpAny _ _ (Builtin.SmallTypes.ownedTupleIsFree (.ref e) >>= _) _ _ ⟨g4, g, d, tk + 1, os⟩
  rw [sz]
  clear eg i3 b3 i2 b2 i1 b1 t1 sz g3 g2 g1
  refine wpAny_bind ?_
  unfold Builtin.SmallTypes.ownedTupleIsFree
  refine wpAny_bind (wpAny_field i4 rfl (x := .none) rfl (wpAny_pure ?_))
  simp only [if_true]
  refine wpAny_bind (wpAny_rule (wpAny_bind (wpAny_field i4 rfl (x := z) rfl (wpAny_bind (wpAny_setField_rec i4 (by simp) fun g5 i5 b5 => ?_)))))
  replace b5 : Heap.SameBut e g4 g5 := b5
  replace i5 : IsEnum g5 e j ((k : Int) + 1) y := i5
  show wpAny _ _ (Builtin.SmallTypes.ownedTupleHandOut (.ref e) (.ref hp.objs.size) >>= _) _ _ ⟨g5, g, d, tk + 1, os⟩
  refine wpAny_bind ?_
  unfold Builtin.SmallTypes.ownedTupleHandOut
  refine wpAny_bind (wpAny_setField_rec i5 (by simp) fun g6 i6 b6 => ?_)
  replace b6 : Heap.SameBut e g5 g6 := b6
  replace i6 : IsEnumOut g6 e j ((k : Int) + 1) y hp.objs.size := i6
  refine wpAny_setField_rec i6 (by simp) fun g7 i7 b7 => ?_
  replace b7 : Heap.SameBut e g6 g7 := b7
  replace i7 : IsEnumOut g7 e j ((k : Int) + 1) y hp.objs.size := i7
  have far : ∀ b o, b ≠ e → g4.get? b = some o → g7.get? b = some o := fun b o n hb => b7.extBut _ _ n (b6.extBut _ _ n (b5.extBut _ _ n hb))
  refine wpAny_bind (wpAny_letGo (wpAny_pure ⟨_, rfl, q g7 i7 (mv g4 g7 T4 fun o ho => far j o (Ne.symm ne) ho) (far _ _ (Nat.ne_of_gt lt) t4) fun b o n1 n2 hb => far b o n1 (k4 b o n1 n2 hb)⟩))
theorem en_next {e j : Addr} {k : Nat} {y z : Value} {T : Heap → Prop} {Q : Option Value → Shared → Prop} (he : IsEnum s.heap e j k z) (ne : e ≠ j)
    (nx : ∀ (A' : Around) (E' : Value → Shared → Prop) (R : Value → Shared → Prop), (∀ h1, T h1 → Heap.SameBut j s.heap h1 → R y { s with heap := h1 }) → wpAny (model prog w) A' (Builtin.SmallTypes.nextOf (.ref j)) R E' s)
    (mv : ∀ h1 h2 : Heap, T h1 → (∀ o, h1.get? j = some o → h2.get? j = some o) → T h2) (hj : ∀ h1, T h1 → ∃ o, h1.get? j = some o)
    (q : ∀ h1, IsEnumOut h1 e j ((k : Int) + 1) y s.heap.objs.size → T h1 → h1.get? s.heap.objs.size = some { cls := .type "tuple", data := .seq #[.int k s.toks, y] } → (∀ b o, b ≠ e → b ≠ j → s.heap.get? b = some o → h1.get? b = some o) →
      Q (some (.ref s.heap.objs.size)) { s with heap := h1, toks := s.toks + 1 }) : wpAny (model prog w) A (pyNext (.ref e)) Q E s := by
  have ty : s.TypeIs (.ref e) "enumerate" := ⟨_, he, rfl⟩
  unfold pyNext
  exact wpAny_bind (wpAny_attempt (wpAny_callSpecial?_slot (name := Str.ofString "__next__") ty F.slot_enumerate_next (wpAny_call_entry F.slot_enumerate_next ty F.entry_enumerate_next
    (en_item he ne (fun R hR => nx _ _ R hR) mv hj fun h1 a b c d => wpAny_pure (q h1 a b c d)) (F.args_enumerate_next_1 _))))
theorem en_end {e j : Addr} {k : Nat} {z : Value} {Q : Option Value → Shared → Prop} (he : IsEnum s.heap e j k z)
    (nx : ∀ (A' : Around) (E' : Value → Shared → Prop), A'.handled = A.handled → (∀ h1 x, Heap.ExtBut j s.heap h1 → (∃ o, h1.get? x = some o ∧ o.cls = .type "StopIteration") → E' (.ref x) { s with heap := h1 }) → wpAny (model prog w) A' (Builtin.SmallTypes.nextOf (.ref j)) (fun _ _ => False) E' s)
    (q : ∀ h1, Heap.ExtBut j s.heap h1 → Q none { s with heap := h1 }) : wpAny (model prog w) A (pyNext (.ref e)) Q E s := by
  have ty : s.TypeIs (.ref e) "enumerate" := ⟨_, he, rfl⟩
  unfold pyNext
  refine wpAny_bind (wpAny_attempt (wpAny_callSpecial?_slot (name := Str.ofString "__next__") ty F.slot_enumerate_next (wpAny_call_entry F.slot_enumerate_next ty F.entry_enumerate_next ?_ (F.args_enumerate_next_1 _))))
  show wpAny _ _ (field (.ref e) 2 >>= _) _ _ _
  refine wpAny_bind (wpAny_field he rfl (x := .ref j) rfl (wpAny_bind (wpAny_mono (nx _ _ rfl fun h1 x b1 c1 => ?_) (fun _ _ f => f.elim) fun _ _ u => u)))
  obtain ⟨o, ho, hc⟩ := c1
  exact wpAny_bind (wpAny_isInstance (T := "StopIteration") (b := true) ⟨o, ho, hc⟩ isSubtype_stop (wpAny_pure (q _ b1)))
end
end L2
set_option Elab.async false
set_option linter.all false
set_option maxRecDepth 100000
set_option maxHeartbeats 4000000
namespace L2.L3
open PySem PySem.Spec PyProof.Rows
def Ien (S : Hp → List V → Prop) : It :=
  ⟨fun i H => ∃ xs x, S H xs ∧ xs[i]? = some x, fun i H y H' => ∃ p x, (∀ xs, S H xs → xs[i]? = some x) ∧ H p = none ∧ y = .ref p ∧ H' = upd H p (.tup [.int i, x]), fun i H => ∃ xs, S H xs ∧ xs.length ≤ i⟩
theorem en_inv {X : Cx} {pins : List (Addr × Obj)} {σ : St} {H : Hp} {s : Shared} {e j : Addr} {i : Nat} {x : V} {u : Value} {h2 : Heap} (I : Inv X pins σ H s) (hf : ∀ b ∈ [e, j], FpOk X pins H b) (ru : RelV x u)
    (lt : e < s.heap.objs.size) (lj : j < s.heap.objs.size) (t1 : h2.get? s.heap.objs.size = some { cls := .type "tuple", data := .seq #[.int i s.toks, u] }) (fr : ∀ b o, b ≠ e → b ≠ j → s.heap.get? b = some o → h2.get? b = some o) :
    Inv X pins σ (upd H s.heap.objs.size (.tup [.int i, x])) { s with heap := h2, toks := s.toks + 1 } ∧ H s.heap.objs.size = none := by
  have hn : H s.heap.objs.size = none := I.hok.fresh (Nat.le_refl _)
  refine ⟨?_, hn⟩
  have I1 : Inv X pins σ (upd H s.heap.objs.size (.tup [.int i, x])) { s with heap := s.heap.push { cls := .type "tuple", data := .seq #[.int i s.toks, u] }, toks := s.toks } :=
    I.laid (t' := s.toks) (fun b o e => Heap.get?_push_of_some _ e) (Nat.le_refl _) (show ObjOk X.prog X.w _ _ _ (.tup [.int i, x]) from ⟨by simp [PySem.sizeLine_eq], [.int i s.toks, u], .cons ⟨_, rfl⟩ (.cons ru .nil), TupN.new _ _⟩)
  refine Inv.turnedL (s := { s with heap := s.heap.push { cls := .type "tuple", data := .seq #[.int i s.toks, u] }, toks := s.toks }) (h' := h2) (t' := s.toks + 1) (ch := [e, j]) I1 (fun b o hb hg => ?_) fun b hb => ?_
  · have nb1 : b ≠ e := fun z => hb (by simp [z])
    have nb2 : b ≠ j := fun z => hb (by simp [z])
    rcases Heap.get?_push_cases hg with ⟨rfl, rfl⟩ | hg
    · exact t1
    · exact fr b o nb1 nb2 hg
  · obtain ⟨f0, f⟩ := hf b hb
    refine ⟨?_, f⟩
    rw [upd_ne]; exact f0
    rcases List.mem_cons.mp hb with rfl | hb
    · exact Nat.ne_of_lt lt
    · rw [List.mem_singleton.mp hb]; exact Nat.ne_of_lt lj
theorem turn_enL {P : Program} {w : World} {K : PySem.W.Frag} {elts : List Expr} {x1 : Nat} {tp : Pos} (a e j : Addr) (ne : e ≠ j) : Turn P w K (.Tuple elts x1 tp) (Ien fun H xs => SqL K H a xs) [e, j] e (fun i h => (∃ z, IsEnum h e j i z) ∧ h.IsListIter j a i) where
  mem := by simp
  obj := fun i h st b hb => by
    obtain ⟨⟨z, e1⟩, o, e2, c, d⟩ := st
    rcases List.mem_cons.mp hb with rfl | hb
    · exact ⟨_, e1, fun v q => by
        have q' : Data.fields _ = Data.cell v := q
        cases q'⟩
    · rw [List.mem_singleton.mp hb]; exact ⟨o, e2, fun v q => by rw [d] at q; cases q⟩
  keep := fun i h h' st k => ⟨⟨st.1.choose, k e (by simp) _ st.1.choose_spec⟩, st.2.at fun o q => k j (by simp) o q⟩
  item := by
    intro X hP hw hK hc i pins s σ H E I hf st hg
    subst hP hw hK
    obtain ⟨⟨z, he⟩, hj⟩ := st
    obtain ⟨xs, x, hq, hx⟩ := hg
    obtain ⟨its, rv, p, hz⟩ := I.list hq
    obtain ⟨u, hu, ru⟩ := rv.get hx
    have lt : e < s.heap.objs.size := Heap.lt_size he
    have lj : j < s.heap.objs.size := by obtain ⟨_, q, _⟩ := hj; exact Heap.lt_size q
    refine en_next (T := fun h => h.IsListIter j a (i + 1)) he ne (fun A' E' R hR => wpAny_nextOf_list_item hj p.isList (x := u) (by simpa using hu) hR) (fun h1 h2 t k => t.at fun o q => k o q) (fun h1 t => let ⟨o, q, _⟩ := t; ⟨o, q⟩) fun h1 o1 t1 n1 fr => ?_
    refine ⟨_, rfl, wpAny_letOwnedTupleGo_enum o1 fun h2 e2 b2 => ?_⟩
    have n2 : h2.get? s.heap.objs.size = some { cls := .type "tuple", data := .seq #[.int i s.toks, u] } := (b2.2 _ (Nat.ne_of_gt lt)).trans n1
    obtain ⟨I2, hn⟩ := en_inv (h2 := h2) I hf ru lt lj n2 fun b o q1 q2 q3 => (b2.2 b q1).trans (fr b o q1 q2 q3)
    refine ⟨.ref s.heap.objs.size, _, I2, rfl, ⟨_, x, fun ys hy => by rw [I.list_inj hy hq]; exact hx, hn, rfl, rfl⟩, ⟨⟨u, by simpa using e2⟩, t1.at fun o q => (b2.2 j (Ne.symm ne)).trans q⟩, fun b hb => ?_⟩
    rw [upd_ne]; exact (hf b hb).1
    rcases List.mem_cons.mp hb with rfl | hb
    · exact Nat.ne_of_lt lt
    · rw [List.mem_singleton.mp hb]; exact Nat.ne_of_lt lj
  done := by
    intro X hP hw hK hc i pins s σ H E I hf st hg
    subst hP hw hK
    obtain ⟨⟨z, he⟩, hj⟩ := st
    obtain ⟨xs, hq, hx⟩ := hg
    obtain ⟨its, rv, p, hz⟩ := I.list hq
    have hl := rv.length
    refine en_end he (fun A' E' hA hE => wpAny_nextOf_list_end (hA.trans (I.ok.hd hc)) hj p.isList (by simp; omega) hE) fun h1 b1 => ⟨rfl, ?_⟩
    obtain ⟨f0, f1, f2, f3, f4, f5⟩ := hf j (by simp)
    exact I.turned (t' := s.toks) (fun b o hb e => b1 b o hb e) f0 f1 f3 f4 f5
  self := fun _ _ _ _ _ st h => wpAny_pyIter_enum st.1.choose_spec h
theorem turn_enT {P : Program} {w : World} {K : PySem.W.Frag} {elts : List Expr} {x1 : Nat} {tp : Pos} (a e j : Addr) (ne : e ≠ j) : Turn P w K (.Tuple elts x1 tp) (Ien fun H xs => SqT K H a xs) [e, j] e (fun i h => (∃ z, IsEnum h e j i z) ∧ h.IsTupleIter j a i) where
  mem := by simp
  obj := fun i h st b hb => by
    obtain ⟨⟨z, e1⟩, o, e2, c, d⟩ := st
    rcases List.mem_cons.mp hb with rfl | hb
    · exact ⟨_, e1, fun v q => by
        have q' : Data.fields _ = Data.cell v := q
        cases q'⟩
    · rw [List.mem_singleton.mp hb]; exact ⟨o, e2, fun v q => by rw [d] at q; cases q⟩
  keep := fun i h h' st k => ⟨⟨st.1.choose, k e (by simp) _ st.1.choose_spec⟩, st.2.at fun o q => k j (by simp) o q⟩
  item := by
    intro X hP hw hK hc i pins s σ H E I hf st hg
    subst hP hw hK
    obtain ⟨⟨z, he⟩, hj⟩ := st
    obtain ⟨xs, x, hq, hx⟩ := hg
    obtain ⟨its, rv, p, hz⟩ := I.tuple hq
    obtain ⟨u, hu, ru⟩ := rv.get hx
    have lt : e < s.heap.objs.size := Heap.lt_size he
    have lj : j < s.heap.objs.size := by obtain ⟨_, q, _⟩ := hj; exact Heap.lt_size q
    refine en_next (T := fun h => h.IsTupleIter j a (i + 1)) he ne (fun A' E' R hR => nx_tup hj (show s.heap.IsTuple a its.toArray from p) (y := u) (by simpa using hu) hR) (fun h1 h2 t k => t.at fun o q => k o q) (fun h1 t => let ⟨o, q, _⟩ := t; ⟨o, q⟩) fun h1 o1 t1 n1 fr => ?_
    refine ⟨_, rfl, wpAny_letOwnedTupleGo_enum o1 fun h2 e2 b2 => ?_⟩
    have n2 : h2.get? s.heap.objs.size = some { cls := .type "tuple", data := .seq #[.int i s.toks, u] } := (b2.2 _ (Nat.ne_of_gt lt)).trans n1
    obtain ⟨I2, hn⟩ := en_inv (h2 := h2) I hf ru lt lj n2 fun b o q1 q2 q3 => (b2.2 b q1).trans (fr b o q1 q2 q3)
    refine ⟨.ref s.heap.objs.size, _, I2, rfl, ⟨_, x, fun ys hy => by rw [I.tuple_inj hy hq]; exact hx, hn, rfl, rfl⟩, ⟨⟨u, by simpa using e2⟩, t1.at fun o q => (b2.2 j (Ne.symm ne)).trans q⟩, fun b hb => ?_⟩
    rw [upd_ne]; exact (hf b hb).1
    rcases List.mem_cons.mp hb with rfl | hb
    · exact Nat.ne_of_lt lt
    · rw [List.mem_singleton.mp hb]; exact Nat.ne_of_lt lj
  done := by
    intro X hP hw hK hc i pins s σ H E I hf st hg
    subst hP hw hK
    obtain ⟨⟨z, he⟩, hj⟩ := st
    obtain ⟨xs, hq, hx⟩ := hg
    obtain ⟨its, rv, p, hz⟩ := I.tuple hq
    have hl := rv.length
    refine en_end he (fun A' E' hA hE => nx_tup_end (hA.trans (I.ok.hd hc)) hj (show s.heap.IsTuple a its.toArray from p) (by simp; omega) hE) fun h1 b1 => ⟨rfl, ?_⟩
    obtain ⟨f0, f1, f2, f3, f4, f5⟩ := hf j (by simp)
    exact I.turned (t' := s.toks) (fun b o hb e => b1 b o hb e) f0 f1 f3 f4 f5
  self := fun _ _ _ _ _ st h => wpAny_pyIter_enum st.1.choose_spec h
section
variable {prog : Program} {w : World} {A : Around} {E : Value → Shared → Prop} {s : Shared}
open AutoSeq1 (wpAny_loadPart') in
theorem mk_enT (l : Addr) (its : Array Value) (o : Obj) (c : o.cls = .type "tuple") (n : Nat) (dd : o.data = .seq its n) :
    Meets (Builtin.«enumerate.__new__» ⟨[.type "enumerate", .ref l], []⟩) (fun _ R s => s.heap.get? l = some o ∧
      R (.ok (.ret (.ref (s.heap.push { cls := .type "tuple_iterator", data := .fields #[.ref l, .int 0 0] }).objs.size)))
        { s with heap := (s.heap.push { cls := .type "tuple_iterator", data := .fields #[.ref l, .int 0 0] }).push { cls := .type "enumerate", data := .fields #[.none, .bool false, .ref s.heap.objs.size, rawInt 0, .none, .none] } }) :=
  .of_wp fun prog w A R s hh => by
    obtain ⟨oc, od, odt, osl⟩ := o
    replace c : oc = .type "tuple" := c
    replace dd : odt = .seq its n := dd
    subst c dd
    obtain ⟨hp, gg, dr, tk, os⟩ := s; obtain ⟨hl, q⟩ := hh
    have hsub := sub_enumerate
    have hT : Heap.IsTuple (Shared.heap ⟨hp, gg, dr, tk, os⟩) l its := ⟨_, hl, rfl, n, rfl⟩
    wp_walk using wpAny_loadPart' hl
    refine wpAny_stack_any fun st => wpAny_pure ?_
    split
    · rename_i cc _ _ _ _ _
      cases (cc == Value.type "enumerate") <;> (wp_walk using wpAny_loadPart' hl, wpAny_pyIter_tuple hT; exact ⟨_, rfl, q⟩)
    · wp_walk using wpAny_loadPart' hl, wpAny_pyIter_tuple hT
      exact ⟨_, rfl, q⟩
theorem call_enT {l : Addr} {its : Array Value} {Q : Value → Shared → Prop} (hl : s.heap.IsTuple l its)
    (q : ∀ h1, IsEnum h1 (s.heap.objs.size + 1) s.heap.objs.size 0 .none → h1.IsTupleIter s.heap.objs.size l 0 → (∀ b o, s.heap.get? b = some o → h1.get? b = some o) → Q (.ref (s.heap.objs.size + 1)) { s with heap := h1 }) : wpAny (model prog w) A (call (.type "enumerate") [.ref l]) Q E s := by
  obtain ⟨o, e1, c1, n, d1⟩ := hl
  refine callType_new F.called_enumerate (by decide) (F.typeCall_enumerate_1 _) (F.newCall_enumerate_1 _) (fun ob => F.args_object_init_2 ob _) F.entry_enumerate_new (mk_enT l its o c1 n d1) ⟨e1, ?_⟩
  have z : (s.heap.push { cls := .type "tuple_iterator", data := .fields #[.ref l, .int 0 0] }).objs.size = s.heap.objs.size + 1 := Heap.size_push ..
  show _ ∧ _
  rw [z]
  have i1 : IsEnum ((s.heap.push { cls := .type "tuple_iterator", data := .fields #[.ref l, .int 0 0] }).push { cls := .type "enumerate", data := .fields #[.none, .bool false, .ref s.heap.objs.size, rawInt 0, .none, .none] }) (s.heap.objs.size + 1) s.heap.objs.size 0 .none := by
    have y := Heap.get?_push_size (s.heap.push { cls := .type "tuple_iterator", data := .fields #[.ref l, .int 0 0] }) (o := { cls := .type "enumerate", data := .fields #[.none, .bool false, .ref s.heap.objs.size, rawInt 0, .none, .none] }) rfl
    rw [z] at y; exact y
  exact ⟨⟨_, i1, rfl⟩, q _ i1 ⟨_, Heap.get?_push_of_some _ (Heap.get?_push_size _ rfl), rfl, rfl⟩ fun b o x => Heap.get?_push_of_some _ (Heap.get?_push_of_some _ x)⟩
end
section
variable {X : Cx}
def iEn (K : PySem.W.Frag) (ta : TA) : TI := fun σ H R => ta σ H fun vs H1 => ∃ a, vs = [.ref a] ∧ (((∃ xs, SqL K H1 a xs) ∧ R (Ien fun H xs => SqL K H a xs) H1) ∨ ((∃ xs, SqT K H1 a xs) ∧ R (Ien fun H xs => SqT K H a xs) H1))
theorem pi_en {elts : List Expr} {x1 : Nat} {tp : Pos} {a : Expr} {ta : TA} {p pos : Pos} (hg : Gl X "enumerate") (hm : X.mg "enumerate" = none) (ha : PA X [a] ta) (hs : starEach [a] X.env = [(false, eval a X.env)] := by rfl) :
    PI X (.Tuple elts x1 tp) (.Call (.Name "enumerate" p) [a] [] pos) (iEn X.K ta) := by
  intro pins s σ H R I h
  refine Call_ (ld_blt I hg hm boot_enumerate (PyProof.Rows.callWith_type1 (thn (ha pos pins s σ H _ I h) fun us s1 ⟨vs, H1, I1, r1, q1⟩ => ?_) hs rfl))
  obtain ⟨l, e, q⟩ := q1
  subst e
  cases r1 with
  | cons r rr =>
    cases rr
    cases r
    have fin : ∀ b ∈ [s1.heap.objs.size + 1, s1.heap.objs.size], FpOk X pins H1 b := fun b hb => by
      have hb' : s1.heap.objs.size ≤ b := by
        rcases List.mem_cons.mp hb with rfl | hb
        · omega
        · rw [List.mem_singleton.mp hb]; exact Nat.le_refl _
      exact I1.fpOk hb' (I1.hok.fresh hb')
    rcases q with ⟨⟨xs, hq⟩, q⟩ | ⟨⟨xs, hq⟩, q⟩
    · obtain ⟨its, rv, pl, hz⟩ := I1.list hq
      refine call_enumerate_list pl.isList fun h1 i1 j1 _ k1 => ?_
      refine wpAny_pyIter_enum i1 ⟨_, [s1.heap.objs.size + 1, s1.heap.objs.size], _, _, H1, rfl, I1.kept (t' := s1.toks) k1, turn_enL l (s1.heap.objs.size + 1) s1.heap.objs.size (Nat.succ_ne_self _), ⟨⟨_, i1⟩, j1⟩, fin, q⟩
    · obtain ⟨its, rv, pl, hz⟩ := I1.tuple hq
      refine call_enT (show s1.heap.IsTuple l its.toArray from pl) fun h1 i1 j1 k1 => ?_
      refine wpAny_pyIter_enum i1 ⟨_, [s1.heap.objs.size + 1, s1.heap.objs.size], _, _, H1, rfl, I1.kept (t' := s1.toks) k1, turn_enT l (s1.heap.objs.size + 1) s1.heap.objs.size (Nat.succ_ne_self _), ⟨⟨_, i1⟩, j1⟩, fin, q⟩
end
end L2.L3
set_option Elab.async false
set_option linter.all false
set_option maxRecDepth 100000
set_option maxHeartbeats 4000000
namespace L2.L3
open PySem PySem.Spec PyProof.Rows
structure StepsN (K : PySem.W.Frag) (J : It) (F1 : Hp) (xs : List D) : Prop where
  go : ∀ (i : Nat) (G H' : Hp), Same F1 G → Same G H' → i < xs.length → J.go i H'
  yld : ∀ (i : Nat) (G H' : Hp) (y : V) (H'' : Hp) (x : D) (B : Base) (σ : St) (env : En), Same F1 G → Rep K B G H' σ env → xs[i]? = some x → J.yld i H' y H'' → ∃ G', Rep K B G' H'' σ env ∧ Same G G' ∧ Den K G' x y
  stop : ∀ (G H' : Hp), Same F1 G → Same G H' → J.stop xs.length H'
def enumD (xs : List D) : List D := xs.mapIdx fun i x => .tup [.int (i : Int), x]
theorem enumD_at {xs : List D} {i : Nat} {y : D} (h : (enumD xs)[i]? = some y) : ∃ x, xs[i]? = some x ∧ y = .tup [.int (i : Int), x] := by
  unfold enumD at h
  rw [List.getElem?_mapIdx] at h
  cases e : xs[i]? with
  | none => rw [e] at h; cases h
  | some x => rw [e] at h; cases h; exact ⟨x, rfl, rfl⟩
theorem enumD_len {xs : List D} : (enumD xs).length = xs.length := by simp [enumD]
theorem steps_en {K : PySem.W.Frag} {F1 : Hp} {vs : List V} {xs : List D} {S : Hp → List V → Prop} (hS : ∀ G H', Same F1 G → Same G H' → S H' vs) (r : DenL K F1 xs vs) : StepsN K (Ien S) F1 (enumD xs) where
  go := fun i G H' s1 s2 hi => by
    rw [enumD_len] at hi
    have : i < vs.length := by rw [← r.length]; exact hi
    exact ⟨vs, vs[i], hS G H' s1 s2, by simp [this]⟩
  yld := fun i G H' y H'' x B σ env s1 rp hx hy => by
    obtain ⟨x', hx', rfl⟩ := enumD_at hx
    obtain ⟨v, h1, h2⟩ := r.get hx'
    obtain ⟨p, u, q1, q3, rfl, rfl⟩ := hy
    have q2 := q1 vs (hS G H' s1 rp.fh)
    rw [h1] at q2; cases q2
    obtain ⟨r2, s2⟩ := rp.laid (o := .tup [.int i, v]) q3
    exact ⟨_, r2, s2, den_tup (SqT.of upd_same) (denL_cons den_int (denL_cons (Den.mono (s1.trans s2) _ _ h2) denL_nil))⟩
  stop := fun G H' s1 s2 => ⟨vs, hS G H' s1 s2, by rw [enumD_len, r.length]; exact Nat.le_refl _⟩
section
variable {X : Cx} {N' : List Str} {ix : List Nat} {scope : Scope} {elt iter a b : Expr} {ifs : List Expr} {x y : Str} {px py tp pos : Pos} {c : Nat} {tt : TB} {te ti : TD} {ts : TDs}
def enD (d : D) : Option (List D) := match d with | .lst xs => some xs | .tup xs => some xs | _ => none
theorem en_seq {B : Base} {σ : St} {F H : Hp} {env : En} {P : List D → Prop} {R : It → Hp → Prop} (hi : QA X [a] ts) (rp : Rep X.K B F H σ env) (h : ts env fun ds => ∃ d xs, ds = [d] ∧ enD d = some xs ∧ P (enumD xs))
    (hR : ∀ (J : It) (F1 H1 : Hp) (xs : List D), Rep X.K B F1 H1 σ env → Same F F1 → StepsN X.K J F1 xs → P xs → R J H1) :
    iEn X.K (wA X [a]) σ H R := by
  refine wA_mono (hi B σ F H env _ rp h) fun vs H1 ⟨F1, ds, r1, s1, d1, d, xs, hx, hd, q1⟩ => ?_
  subst hx
  simp only [DenL] at d1
  obtain ⟨v, r, rfl, dv, rfl⟩ := d1
  cases d with
  | lst ys =>
    simp only [enD] at hd; cases hd
    simp only [Den] at dv
    obtain ⟨l, vs, rfl, q, r⟩ := dv
    exact ⟨l, rfl, .inl ⟨⟨vs, r1.fh.seq q⟩, hR _ F1 H1 _ r1 s1 (steps_en (fun G H' z1 z2 => z2.seq (z1.seq q)) r) q1⟩⟩
  | tup ys =>
    simp only [enD] at hd; cases hd
    simp only [Den] at dv
    obtain ⟨l, vs, rfl, q, r⟩ := dv
    exact ⟨l, rfl, .inr ⟨⟨vs, Same.seqT r1.fh q⟩, hR _ F1 H1 _ r1 s1 (steps_en (fun G H' z1 z2 => Same.seqT z2 (Same.seqT z1 q)) r) q1⟩⟩
  | _ => simp only [enD] at hd; cases hd
def dForE (ts : TDs) (g : TG3) (tb : TS3) : TS3 := fun D env => ts env fun ds => ∃ d xs, ds = [d] ∧ enD d = some xs ∧ turns g tb D (enumD xs) env
theorem for_steps {tg : Expr} {body : List Stmt} {g : TG3} {t : TS3} (hg : QG X tg g) (hb : QSs X body t) {B : Base} {σ : St} {F1 H1 : Hp} {env : En} {D : Ends3} {J : It} {xs : List L3.D} (r1 : Rep X.K B F1 H1 σ env) (S : StepsN X.K J F1 xs) (q1 : turns g t D xs env) :
    ∃ W : Nat → Nat → St → Hp → Prop, (∃ m, W 0 m σ H1) ∧ ∀ i m σ H, W i m σ H → (J.stop i H ∧ (RS X B D).nx σ H) ∨ (J.go i H ∧ ∃ N : St → Hp → Prop, (∀ σ' H', N σ' H' → ∃ m', m' < m ∧ W (i + 1) m' σ' H') ∧
        ∀ x H', J.yld i H x H' → wG X tg x σ H' fun σ2 H2 => wSs X body { RS X B D with nx := N, ct := N, bk := (RS X B D).nx } σ2 H2) := by
  have sm := RS.same (X := X) (B := B) (D := D) r1.f0
  refine ⟨fun i m σ H => m = xs.length - i ∧ i ≤ xs.length ∧ ∃ F env, Rep X.K ⟨F1, B.H, B.N, B.nb⟩ F H σ env ∧ turns g t D (xs.drop i) env, ⟨xs.length, by simp, Nat.zero_le _, F1, env, r1.now, by simpa using q1⟩, ?_⟩
  rintro i m σ2 H2 ⟨rfl, hi2, F2, env2, r2, q2⟩
  by_cases hlt : i < xs.length
  · have hxi : xs[i]? = some xs[i] := by simp [hlt]
    rw [drop_cons hxi] at q2
    refine .inr ⟨S.go i F2 H2 r2.f0 r2.fh hlt, fun σ' H' => ∃ F env, Rep X.K ⟨F1, B.H, B.N, B.nb⟩ F H' σ' env ∧ turns g t D (xs.drop (i + 1)) env, fun σ' H' ⟨F', env', r', q'⟩ => ⟨xs.length - (i + 1), by omega, rfl, by omega, F', env', r', q'⟩, fun z H' hz => ?_⟩
    obtain ⟨G, rG, sG, dz⟩ := S.yld i F2 H2 z H' xs[i] _ σ2 env2 r2.f0 r2 hxi hz
    refine wG_mono (hg _ σ2 G _ env2 _ _ _ rG dz q2) fun σ3 H3 ⟨F3, env3, r3, s3, q3⟩ => ?_
    exact wSs_mono (hb _ σ3 F3 H3 env3 _ r3 q3) (fun _ _ q => q) (fun v H q => sm.2.1 v H q) (fun v H q => sm.1 v H q) (fun _ _ q => q)
  · have e : i = xs.length := by omega
    subst e
    rw [List.drop_eq_nil_of_le (Nat.le_refl _)] at q2
    exact .inl ⟨S.stop F2 H2 r2.f0 r2.fh, sm.1 _ _ ⟨F2, env2, r2, q2⟩⟩
theorem qs_forE {elts : List Expr} {x1 : Nat} {body : List Stmt} {g : TG3} {t : TS3} {p pos2 : Pos} (hp : PassesOwn (model X.prog X.w) X.A X.env X.xe) (hc : X.calm = true) (hgl : Gl X "enumerate") (hm : X.mg "enumerate" = none) (ha : QA X [a] ts) (hg : QG X (.Tuple elts x1 tp) g) (hb : QSs X body t)
    (hst : starEach [a] X.env = [(false, eval a X.env)] := by rfl) (hs : ∀ x, foldedSetIterable (.Call (.Name "enumerate" p) [a] [] pos2) X.env x = pure x := by intro _; rfl) : QS X (.For (.Tuple elts x1 tp) (.Call (.Name "enumerate" p) [a] [] pos2) body [] pos) (dForE ts g t) := by
  refine ⟨fun B σ F H env D rp h => wS_of (ps_for hp hc (pi_en hgl hm pa_w hst) pg_w pss_w hs) ?_⟩
  exact en_seq (P := fun xs => turns g t D xs env) ha rp h fun J F1 H1 xs r1 s1 S q => for_steps hg hb r1 S q
end
end L2.L3
set_option Elab.async false
set_option linter.all false
set_option maxRecDepth 100000
set_option maxHeartbeats 4000000
namespace L2.L3
open PySem PySem.Spec PyProof.Rows
mutual
theorem eqD_sub : ∀ (a b c : D), eqD a b = true → eqD a c = eqD b c := by
  intro a b c h
  cases a <;> cases b <;> first | (simp only [eqD, Bool.false_eq_true] at h; done) | skip
  all_goals cases c <;> first | rfl | (simp only [eqD, beq_iff_eq] at h ⊢; subst h; rfl) | skip
  all_goals first
    | (simp only [eqD] at h ⊢; exact eqDs_sub _ _ _ h)
    | (simp only [eqD, beq_iff_eq] at h ⊢; rw [Bool.eq_iff_iff]; simp only [beq_iff_eq]; split at h <;> split <;> simp_all <;> omega)
    | (simp only [eqD, beq_iff_eq] at h ⊢; rw [Bool.eq_iff_iff]; simp only [beq_iff_eq]; split at h <;> simp_all)
    | (simp only [eqD, beq_iff_eq] at h ⊢; subst h; rw [Bool.eq_iff_iff]; simp only [beq_iff_eq]; split <;> simp_all)
    | (simp only [eqD, beq_iff_eq] at h ⊢; subst h; split <;> simp_all)
theorem eqDs_sub : ∀ (a b c : List D), eqDs a b = true → eqDs a c = eqDs b c := by
  intro a b c h
  cases a with
  | nil => cases b with
    | nil => rfl
    | cons y r => simp only [eqDs, Bool.false_eq_true] at h
  | cons x r => cases b with
    | nil => simp only [eqDs, Bool.false_eq_true] at h
    | cons y t =>
      simp only [eqDs, Bool.and_eq_true] at h
      cases c with
      | nil => rfl
      | cons z u => simp only [eqDs]; rw [eqD_sub x y z h.1, eqDs_sub r t u h.2]
end
section
variable {X : Cx} {pins : List (Addr × Obj)} {σ : St} {H F : Hp} {s : Shared}
open Classical in
noncomputable def eAtU (us : List Value) (ds : List D) (d : D) (u : Value) : Bool := decide (∃ (i : Nat) (x : D), us[i]? = some u ∧ ds[i]? = some x ∧ eqD x d = true)
open Classical in
theorem eAtU_of (I : Inv X pins σ H s) (fh : Same F H) {ds : List D} {vs : List V} {us : List Value} {d : D} (hd : depL ds < 1000) (dl : DenL X.K F ds vs) (rv : Vals vs us) {j : Nat} {x : D} {u : Value} (hx : ds[j]? = some x) (hu : us[j]? = some u) : eAtU us ds d u = eqD x d := by
  unfold eAtU
  have dle : ∀ (k : Nat) (y : D), ds[k]? = some y → dep y < 1000 := fun k y hy => by
    clear dl rv hx hu
    induction ds generalizing k with
    | nil => simp at hy
    | cons z r ih =>
      simp only [depL] at hd
      cases k with
      | zero => simp at hy; subst hy; omega
      | succ k => exact ih (by omega) k (by simpa using hy)
  cases hb : eqD x d with
  | true => exact decide_eq_true ⟨j, x, hu, hx, hb⟩
  | false =>
    refine decide_eq_false fun ⟨i, y, h1, h2, h3⟩ => ?_
    obtain ⟨v1, e1, d1⟩ := dl.get hx
    obtain ⟨v2, e2, d2⟩ := dl.get h2
    obtain ⟨w1, g1, r1⟩ := rv.get e1
    obtain ⟨w2, g2, r2⟩ := rv.get e2
    rw [hu] at g1; cases g1
    rw [h1] at g2; cases g2
    have := r1.inj r2
    subst this
    have k := den_inj I fh y x _ (dle _ _ h2) (dle _ _ hx) d2 d1
    rw [eqD_sub y x d k, hb] at h3
    cases h3
theorem eAtU_any (I : Inv X pins σ H s) (fh : Same F H) {ds : List D} {vs : List V} {us : List Value} {d : D} (hd : depL ds < 1000) (dl : DenL X.K F ds vs) (rv : Vals vs us) : us.map (eAtU us ds d) = ds.map fun x => eqD x d := by
  have l1 := dl.length
  have l2 := rv.length
  apply List.ext_getElem?
  intro i
  rw [List.getElem?_map, List.getElem?_map]
  by_cases hi : i < ds.length
  · have h1 : ds[i]? = some ds[i] := by simp [hi]
    have h2 : us[i]? = some (us[i]'(by omega)) := List.getElem?_eq_getElem _
    rw [h1, h2]
    simp only [Option.map_some]
    rw [eAtU_of I fh hd dl rv h1 h2]
  · rw [List.getElem?_eq_none (by omega), List.getElem?_eq_none (by omega)]; rfl
end
section
variable {X : Cx} {a b : Expr} {ta tb : TD} {pos : Pos}
def rInD (X : Cx) (neg : Bool) : R2 := fun x y H Q => ∃ (F : Hp) (d : D) (ds : List D) (vs : List V) (p : Addr), Same F H ∧ Den X.K F d x ∧ y = .ref p ∧ (SqL X.K F p vs ∨ SqT X.K F p vs) ∧ DenL X.K F ds vs ∧ X.A.units + 64 < cLine ∧ depL ds ≤ 60 ∧ dep d ≤ 60 ∧ Q (.bl (if neg then !ds.any (fun e => eqD e d) else ds.any fun e => eqD e d)) H
theorem any_map' {α : Type} (f : α → Bool) (l : List α) : l.any f = (l.map f).any id := by rw [List.any_map]; rfl
theorem in_items {X : Cx} {pins : List (Addr × Obj)} {σ : St} {H F : Hp} {s : Shared} (I : Inv X pins σ H s) (fh : Same F H) {ds : List D} {vs : List V} {us : List Value} {d : D} {x : V} {v : Value} (hu : X.A.units + 64 < cLine) (hds : depL ds ≤ 60) (hd : dep d ≤ 60) (dl : DenL X.K F ds vs) (rv : Vals vs us) (dx : Den X.K F d x) (rx : RelV x v) :
    ∀ u ∈ us, SeqAt.EqAt X.A.in1 s u v (eAtU us ds d u) := by
  intro u hu'
  obtain ⟨j, hj, e⟩ := List.getElem_of_mem hu'
  have h2 : us[j]? = some u := by rw [← e]; simp [hj]
  have l1 := dl.length
  have l2 := rv.length
  have h1 : ds[j]? = some (ds[j]'(by omega)) := List.getElem?_eq_getElem _
  rw [eAtU_of I fh (by omega) dl rv h1 h2]
  obtain ⟨w, g1, g2⟩ := dl.get h1
  obtain ⟨u', g3, g4⟩ := rv.get g1
  rw [h2] at g3; cases g3
  have dle : dep (ds[j]'(by omega)) ≤ 60 := by
    have go : ∀ (l : List D) (n : Nat), depL l ≤ n → ∀ y ∈ l, dep y ≤ n := by
      intro l
      induction l with
      | nil => intro n _ y hy; cases hy
      | cons z r ih =>
        intro n hn y hy
        simp only [depL] at hn
        rcases List.mem_cons.mp hy with rfl | hy
        · omega
        · exact ih n (by omega) y hy
    exact go ds 60 hds _ (List.getElem_mem _)
  exact eqAt_one I fh _ d X.A.in1 _ x u v (by rw [units_in1]; omega) (by omega) (by omega) g2 dx g4 rx
theorem op_ninD : OpR X (compareOp .NotIn) (rInD X true) := by
  intro pins s σ H x y v u Q I rx ry h
  obtain ⟨F, d, ds, vs, p, fh, dx, rfl, hq, dl, hu, h1, h2, q⟩ := h
  cases ry
  rcases hq with hq | hq
  · obtain ⟨its, r, pl, hz⟩ := I.list (fh.seq hq)
    refine SeqAt.notIn_listAt (eAtU its ds d) pl.isList (fun w hw => in_items I fh hu h1 h2 dl r dx rx w (by simpa using hw)) ⟨.bl _, H, I, rfl, ?_⟩
    rw [show its.toArray.any (eAtU its ds d) = its.any (eAtU its ds d) by simp, any_map', eAtU_any I fh (by omega) dl r, ← any_map']
    exact q
  · obtain ⟨its, r, pl, hz⟩ := I.tuple (Same.seqT fh hq)
    refine SeqAt.notIn_tupleAt (eAtU its ds d) pl (fun w hw => in_items I fh hu h1 h2 dl r dx rx w (by simpa using hw)) ⟨.bl _, H, I, rfl, ?_⟩
    rw [show its.toArray.any (eAtU its ds d) = its.any (eAtU its ds d) by simp, any_map', eAtU_any I fh (by omega) dl r, ← any_map']
    exact q
def inLD (neg : Bool) (x y : D) (Q : D → Prop) : Prop := ∃ ds, enD y = some ds ∧ depL ds ≤ 60 ∧ dep x ≤ 60 ∧ Q (.bl (if neg then !ds.any (fun e => eqD e x) else ds.any fun e => eqD e x))
theorem o3_inD (hu : X.A.units + 64 < cLine) (neg : Bool) : Op3 X (rInD X neg) (inLD neg) := by
  intro B σ F H env Q d d' x y Z rp h1 h2 hz hf
  obtain ⟨ds, e, l1, l2, q⟩ := hf
  cases d' with
  | lst xs =>
    simp only [enD] at e; cases e
    simp only [Den] at h2
    obtain ⟨p, vs, rfl, hq, dl⟩ := h2
    exact ⟨F, d, _, vs, p, rp.fh, h1, rfl, .inl hq, dl, hu, l1, l2, hz _ H F _ rp (Same.refl _) den_bl q⟩
  | tup xs =>
    simp only [enD] at e; cases e
    simp only [Den] at h2
    obtain ⟨p, vs, rfl, hq, dl⟩ := h2
    exact ⟨F, d, _, vs, p, rp.fh, h1, rfl, .inr hq, dl, hu, l1, l2, hz _ H F _ rp (Same.refl _) den_bl q⟩
  | _ => simp only [enD] at e; cases e
theorem t_ninL (hu : X.A.units + 64 < cLine) (ha : QE X a ta) (hb : QE X b tb) (hm : behindInMarks .NotIn b = false := by rfl) : QT X (.Compare a [.NotIn] [b] pos) (cTest (cOp (inLD true) ta tb)) := qt_cmp op_ninD (o3_inD hu true) ha hb hm
def isnoneD (neg : Bool) (x : D) : D := .bl (match x with | .non => !neg | _ => neg)
theorem den_non_iff {K : PySem.W.Frag} {F : Hp} {d : D} {v : V} (h : Den K F d v) : decide (v = .non) = (match d with | .non => true | _ => false) := by
  cases d <;> simp only [Den] at h <;> first | (subst h; rfl) | (obtain ⟨_, _, rfl, _⟩ := h; rfl) | (obtain ⟨_, rfl, _⟩ := h; rfl)
def isNoneF (neg : Bool) (x y : D) (Q : D → Prop) : Prop := y = .non ∧ Q (isnoneD neg x)
theorem o3_notN : Op3 X (fun x y H Q => y = .non ∧ Q (.bl (!decide (x = .non))) H) (isNoneF true) := by
  intro B σ F H env Q d d' x y Z rp h1 h2 hz hf
  obtain ⟨rfl, q⟩ := hf
  simp only [Den] at h2
  refine ⟨h2, hz _ H F _ rp (Same.refl _) ?_ q⟩
  rw [den_non_iff h1]
  unfold isnoneD
  cases d <;> exact den_bl
theorem t_isnN (ha : QE X a ta) (hb : QE X b tb) : QT X (.Compare a [.IsNot] [b] pos) (cTest (cOp (isNoneF true) ta tb)) := qt_cmp op_notN o3_notN ha hb (nomark _)
end
end L2.L3
set_option Elab.async false
set_option linter.all false
set_option maxRecDepth 100000
set_option maxHeartbeats 4000000
namespace L2
open PySem PySem.Spec PyProof.Rows
section
variable {X : Cx}
theorem Vals.insertAt {xs : List V} {us : List Value} {x : V} {u : Value} (h : Vals xs us) (r : RelV x u) (k : Nat) : Vals (xs.take k ++ x :: xs.drop k) (us.take k ++ u :: us.drop k) := by
  induction h generalizing k with
  | nil => simp; exact .cons r .nil
  | @cons y w ys ws q t ih =>
    cases k with
    | zero => exact .cons r (.cons q t)
    | succ k => exact .cons q (ih k)
def rInsert : V → List V → Hp → VK → Prop := fun x vs H Q => ∃ l xs i y, x = .ref l ∧ vs = [.int i, y] ∧ H l = some (.lst xs) ∧ 0 ≤ i ∧ i ≤ xs.length ∧ xs.length < sizeLine ∧ Q .non (upd H l (.lst (xs.take i.toNat ++ y :: xs.drop i.toNat)))
theorem mt_insert : MtM X "list.insert" rInsert := by
  intro pins s σ H x vs v us Q I rx rv h
  obtain ⟨l, xs, i, y, rfl, rfl, hH, h0, h1, h2, q⟩ := h
  cases rx
  obtain ⟨u, w, rfl, ru, rw'⟩ := rv.two
  obtain ⟨t, rfl⟩ := ru
  obtain ⟨z, its, n, r, hl, e⟩ := I.lstM hH
  have hs : xs.length ≤ 2 ^ 62 := by rw [sizeLine_eq] at h2; omega
  have hfit : ¬ (!Builtin.List.listFitsIndex i) = true := by
    rw [fitsIndex_both (by omega) (by omega)]
    exact Bool.false_ne_true
  refine call_meets F.slot_list_insert ⟨_, e, rfl⟩ F.entry_list_insert (F.args_list_insert_3 _ _ _) (AutoSeq1.list_insert_list_int_val_1 l its.toArray n i t w hfit (by rw [List.size_toArray]; omega)) ⟨e, ?_⟩
  refine ⟨.non, _, I.lset (its' := its.take i.toNat ++ w :: its.drop i.toNat) hH e ?_ (r.insertAt rw' i.toNat) ?_, rfl, q⟩
  · apply Array.toList_inj.mp
    have c1 : ¬ i < 0 := by omega
    have c2 : min i.toNat its.toArray.size = i.toNat := by rw [List.size_toArray]; omega
    simp only [c1, if_false, c2]
    simp
    exact List.take_of_length_le (by simp)
  · simp; omega
end
end L2
namespace L2.L3
open PySem PySem.Spec PyProof.Rows
section
variable {X : Cx} {e f : Expr} {te tf : TD} {ts : TDs} {pos : Pos}
def dInsert (i : Nat) (te tf : TD) : TS3 := fun D env => ∃ xs, env[i]? = some (some (.own xs)) ∧ te env fun y => tf env fun x => ∃ k : Int, y = .int k ∧ 0 ≤ k ∧ k ≤ xs.length ∧ xs.length < sizeLine ∧ D.nx (env.set i (some (.own (xs.take k.toNat ++ x :: xs.drop k.toNat))))
theorem qs_insert {x : Str} {px apos cpos : Pos} (i : Nat) (he : QE X e te) (hf : QE X f tf) (hN : X.N[i]? = some x := by rfl) (hv : Vis X.env.scope x := by first | exact Or.inl rfl | exact Or.inr (Or.inl rfl) | exact Or.inr (Or.inr rfl)) (hd : (x == ("__debug__" : Str)) = false := by decide) (hcd : (x == ("__classdict__" : Str)) = false := by decide)
    (hbase : attributeBase (.Name x px) "insert" X.env (eval (.Name x px) X.env) = eval (.Name x px) X.env := by rfl)
    (hfew : ((backTo cpos (starEach [e, f] X.env)).all (fun x => !x.1) && (backToKw cpos (keywordEach [] X.env)).all (fun x => x.1.isSome)
      && decide (([e, f] : List Expr).length + ([] : List Keyword).length + (if ([] : List Keyword).isEmpty then 0 else 1) < 30)) = true := by rfl)
    (hline : (apos.endLine == cpos.line) = true := by rfl) (hst : starEach [e, f] X.env = (false, eval e X.env) :: starEach [f] X.env := by exact star_of rfl) (hst2 : starEach [f] X.env = (false, eval f X.env) :: starEach [] X.env := by exact star_of rfl) (hplain : (backTo cpos (starEach ([f] : List Expr) X.env)).any (·.1) = false := by rfl)
    (hs : swapsWith (.Call (.Attribute (.Name x px) "insert" apos) [e, f] [] cpos) none pos.line X.env = pure false := by rfl) :
    QS X (.Expr (.Call (.Attribute (.Name x px) "insert" apos) [e, f] [] cpos) pos) (dInsert i te tf) := by
  refine ⟨?_⟩
  intro B σ F H env D rp h
  refine wS_of (ps_expr (pe_bm PySem.F.plainAttrs_list PySem.F.slot_list_insert PySem.F.type_list_insert mt_insert (pe_var hN hv hd hcd) (pa_cons pe_w (pa_cons pe_w pa_nil hst2) hst) hbase hfew hline hst hplain) hs) ?_
  obtain ⟨xs, hx, h⟩ := h
  obtain ⟨p, vs, h1, h2, h3, h4, h5⟩ := rp.ov i xs hx
  refine ⟨.ref p, h1, .inl ⟨rfl, vs, SqL.of h2⟩, ?_⟩
  refine wE_mono (he B σ F H env _ rp h) fun y H1 ⟨F1, d, r1, s1, d1, q1⟩ => ?_
  refine wE_mono (hf B σ F1 H1 env _ r1 q1) fun z H2 ⟨F2, d', r2, s2, d2, k, e1, k0, k1, k2, q2⟩ => ?_
  subst e1
  simp only [Den] at d1
  subst d1
  obtain ⟨p', vs', g1, g2, g3, g4, g5⟩ := r2.ov i xs hx
  rw [h1] at g1; cases g1
  have hl := g5.length
  exact ⟨p, vs', k, z, rfl, rfl, g2, k0, by omega, by omega, F2, _, r2.change hx h1 ((g5.take _).append (denL_cons d2 (g5.drop _))), q2⟩
def cOwnNe (i : Nat) : TB := fun env Q => ∃ xs, env[i]? = some (some (.own xs)) ∧ depL xs ≤ 50 ∧ Q (!xs.isEmpty)
theorem t_ownNe {x : Str} {px pl : Pos} (i : Nat) (hu : X.A.units + 64 < cLine) (hN : X.N[i]? = some x := by rfl) (hv : Vis X.env.scope x := by first | exact Or.inl rfl | exact Or.inr (Or.inl rfl) | exact Or.inr (Or.inr rfl)) (hd : (x == ("__debug__" : Str)) = false := by decide)
    (hcd : (x == ("__classdict__" : Str)) = false := by decide) : QT X (.Compare (.Name x px) [.NotEq] [.List [] pl] pos) (cOwnNe i) := by
  refine ⟨fun B σ F H env Q rp h => wT_of (pt_cmpR op_neD (pe_var hN hv hd hcd) (pe_lst pa_nil) (nomark _)) ?_⟩
  obtain ⟨xs, hx, hdep, q⟩ := h
  obtain ⟨p, vs, h1, h2, h3, h4, h5⟩ := rp.ov i xs hx
  refine ⟨.ref p, h1, by simp [PySem.sizeLine_eq], fun w hw => ?_⟩
  have ne : p ≠ w := fun z => by subst z; rw [h2] at hw; cases hw
  have s1 : Same F (upd F p (.lst vs)) := same_upd h3
  refine ⟨upd (upd F p (.lst vs)) w (.lst []), .lst xs, .lst [], ?_, ?_, ?_, by simp only [dep]; omega, by simp only [dep]; omega, by decide, !xs.isEmpty, ?_, F, rp.loose hw, Same.refl _, q⟩
  · refine same_upd2 fun b o hb => ?_
    by_cases z : b = p
    · subst z; rw [upd_same] at hb; cases hb; exact h2
    · rw [upd_ne z] at hb; exact rp.fh _ _ hb
  · have s2 : Same (upd F p (.lst vs)) (upd (upd F p (.lst vs)) w (.lst [])) := same_upd (by rw [upd_ne (Ne.symm ne)]; exact rp.fnone hw)
    exact den_lst (SqL.of (by rw [upd_ne ne]; exact upd_same)) (DenL.mono (s1.trans s2) _ _ h5)
  · exact den_lst (SqL.of upd_same) denL_nil
  · cases xs <;> rfl
def dSetPop (j i : Nat) (te : TD) : TS3 := fun Z env => ∃ xs, env[i]? = some (some (.own xs)) ∧ te env fun y => ∃ (k : Nat) (x : D), y = .int k ∧ xs[k]? = some x ∧ k < 2 ^ 62 ∧ Z.nx ((env.set i (some (.own (xs.eraseIdx k)))).set j (some (.d x)))
theorem DenL.eraseIdx {K : PySem.W.Frag} {F : Hp} : ∀ {ds : List D} {vs : List V} (k : Nat), DenL K F ds vs → DenL K F (ds.eraseIdx k) (vs.eraseIdx k)
  | [], vs, k, h => by simp only [DenL] at h; subst h; simpa using denL_nil
  | d :: ds, vs, 0, h => by
    simp only [DenL] at h
    obtain ⟨v, r, rfl, a, b⟩ := h
    exact b
  | d :: ds, vs, k + 1, h => by
    simp only [DenL] at h
    obtain ⟨v, r, rfl, a, b⟩ := h
    exact denL_cons a (DenL.eraseIdx k b)
theorem qs_setPop {x y : Str} {px py apos cpos : Pos} (j i : Nat) (nd : X.N.Nodup) (he : QE X e te) (hN : X.N[i]? = some x := by rfl) (hv : Vis X.env.scope x := by first | exact Or.inl rfl | exact Or.inr (Or.inl rfl) | exact Or.inr (Or.inr rfl)) (hd : (x == ("__debug__" : Str)) = false := by decide) (hcd : (x == ("__classdict__" : Str)) = false := by decide)
    (hj : X.N[j]? = some y := by rfl) (hy : Loc X.env.scope y := by first | exact Or.inl rfl | exact Or.inr rfl)
    (hbase : attributeBase (.Name x px) "pop" X.env (eval (.Name x px) X.env) = eval (.Name x px) X.env := by rfl)
    (hfew : ((backTo cpos (starEach [e] X.env)).all (fun x => !x.1) && (backToKw cpos (keywordEach [] X.env)).all (fun x => x.1.isSome)
      && decide (([e] : List Expr).length + ([] : List Keyword).length + (if ([] : List Keyword).isEmpty then 0 else 1) < 30)) = true := by rfl)
    (hline : (apos.endLine == cpos.line) = true := by rfl) (hst : starEach [e] X.env = (false, eval e X.env) :: starEach [] X.env := by exact star_of rfl) (hplain : (backTo cpos (starEach ([] : List Expr) X.env)).any (·.1) = false := by rfl)
    (hs : swapsWith (.Call (.Attribute (.Name x px) "pop" apos) [e] [] cpos) (some (.Name y py)) pos.line X.env = pure false := by rfl) (hf : X.fn y = true ∨ X.env.scope.names.lookup y = some .local := by first | exact .inl rfl | exact .inr rfl) :
    QS X (.Assign [.Name y py] (.Call (.Attribute (.Name x px) "pop" apos) [e] [] cpos) pos) (dSetPop j i te) := by
  refine ⟨fun B σ F H env D rp h pins s I => ?_⟩
  refine ps_set (i := j) nd hj hy (pe_bm PySem.F.plainAttrs_list PySem.F.slot_list_pop PySem.F.type_list_pop mt_popAt (pe_var hN hv hd hcd) (pa_cons pe_w pa_nil hst) hbase hfew hline hst hplain) hs hf pins s σ H _ I ?_
  obtain ⟨xs, hx, h⟩ := h
  obtain ⟨p, vs, h1, h2, h3, h4, h5⟩ := rp.ov i xs hx
  refine ⟨.ref p, h1, .inl ⟨rfl, vs, SqL.of h2⟩, ?_⟩
  refine wE_mono (he B σ F H env _ rp h) fun w H1 ⟨F1, d, r1, s1, d1, k, x', e1, hk, hk2, q1⟩ => ?_
  subst e1
  simp only [Den] at d1
  subst d1
  obtain ⟨p', vs', g1, g2, g3, g4, g5⟩ := r1.ov i xs hx
  rw [h1] at g1; cases g1
  obtain ⟨u, hu, du⟩ := g5.get hk
  have hl := g5.length
  have hkl := (List.getElem?_eq_some_iff.mp hk).1
  have hix : seqIndex? (k : Int) vs'.length = some k := (ixN_seq (n := vs'.length) (i := (k : Int)) (j := k) (by unfold ixN; rw [if_pos (by omega), if_pos (by omega)]; simp)).1
  refine ⟨p, vs', k, k, u, rfl, rfl, g2, by omega, by omega, hix, hu, F1, _, (r1.change hx h1 (g5.eraseIdx k)).set du ?_, q1⟩
  rw [I.len]; exact (List.getElem?_eq_some_iff.mp hj).1
theorem pe_range1 {a : Expr} {ta : TA} {p : Pos} (hg : Gl X "range") (hm : X.mg "range" = none) (ha : PA X [a] ta) (hs : starEach [a] X.env = [(false, eval a X.env)] := by rfl) :
    PE X (.Call (.Name "range" p) [a] [] pos) (fun σ H Q => ta σ H fun vs H1 => ∃ n : Int, vs = [.int n] ∧ ∀ r, H1 r = none → Q (.ref r) (upd H1 r (.rng 0 n))) := by
  intro pins s σ H Q I h
  refine Call_ (ld_blt I hg hm boot_range (PyProof.Rows.callWith_type1 (thn (ha pos pins s σ H _ I h) fun us s1 ⟨vs, H1, I1, r1, q1⟩ => ?_) hs rfl))
  obtain ⟨n, rfl, q⟩ := q1
  obtain ⟨u, rfl, ru⟩ := r1.one
  obtain ⟨t, rfl⟩ := ru
  refine call_range_1 ⟨.ref s1.heap.objs.size, _, I1.laid (fun b o e => Heap.get?_push_of_some _ e) (Nat.le_refl _) (show ObjOk X.prog X.w _ _ _ (.rng 0 n) from ⟨_, _, _, Heap.get?_push_size _ rfl⟩), rfl, q _ (I1.hok.fresh (Nat.le_refl _))⟩
theorem vals_ints {n : Nat} {acc : Array Value} (h : ItemsOf (fun i v => ∃ t, v = .int ((0 : Int) + i * 1) t) acc n) : Vals ((List.range n).map fun (i : Nat) => V.int (i : Int)) acc.toList := by
  have hl : acc.toList.length = n := by simpa using h.1
  have go : ∀ (l : List Value) (k : Nat), (∀ (j : Nat) (v : Value), l[j]? = some v → ∃ t, v = .int ((k + j : Nat) : Int) t) → Vals ((List.range' k l.length).map fun (i : Nat) => V.int (i : Int)) l := by
    intro l
    induction l with
    | nil => intro k _; exact .nil
    | cons v r ih =>
      intro k hk
      obtain ⟨t, e⟩ := hk 0 v rfl
      refine .cons ⟨t, by simpa using e⟩ (ih (k + 1) fun j w hw => ?_)
      obtain ⟨t', e'⟩ := hk (j + 1) w (by simpa using hw)
      exact ⟨t', by rw [e']; congr 1; omega⟩
  have := go acc.toList 0 fun j v hv => by
    obtain ⟨t, e⟩ := h.2 j v (by simpa using hv)
    exact ⟨t, by rw [e]; congr 1; omega⟩
  rw [hl, ← List.range_eq_range'] at this
  exact this
theorem call_listR (hc : X.calm = true) : CallR X (.type "list") (fun xs H Q => ∃ r n, xs = [.ref r] ∧ H r = some (.rng 0 n) ∧ (-(2 ^ 62) ≤ n ∧ n ≤ 16777216) ∧ ∀ l, H l = none → Q (.ref l) (upd H l (.lst ((List.range n.toNat).map fun (i : Nat) => V.int (i : Int))))) := by
  intro pins s σ H xs us Q I r h
  obtain ⟨a, n, rfl, hr, ⟨n1, n2⟩, q⟩ := h
  obtain ⟨u, rfl, rx⟩ := vals1 r
  cases rx
  obtain ⟨t, u, v, e⟩ := (show ObjOk X.prog X.w H s.heap a (.rng 0 n) from I.hok a _ hr)
  have hsz : Builtin.Range.rangeSize 0 n 1 = (n.toNat : Int) := by rw [rangeSize_one]; split <;> omega
  refine call_list_range (I.ok.hd hc) e (small_one (by decide) (by decide) n1 (by omega)) hsz (by omega) fun h' tk acc c kp e' it => ?_
  refine ⟨.ref s.heap.objs.size, _, I.laid (t' := tk) kp (Nat.le_refl _) (show ObjOk X.prog X.w _ h' _ (.lst ((List.range n.toNat).map fun (i : Nat) => V.int (i : Int))) from ⟨by simp [PySem.sizeLine_eq]; omega, acc.toList, c, vals_ints it, by simpa using e'⟩), rfl, q _ (I.hok.fresh (Nat.le_refl _))⟩
def cListR (ts : TDs) : TDs := fun env Q => ts env fun ds => ∃ n : Int, ds = [.int n] ∧ (-(2 ^ 62) ≤ n ∧ n ≤ 16777216) ∧ Q (intsD 0 n.toNat)
theorem denL_ints0 {K : PySem.W.Frag} {F : Hp} (n : Nat) : DenL K F (intsD 0 n) ((List.range n).map fun (i : Nat) => V.int (i : Int)) := by
  have e : intsD 0 n = ((List.range n).map fun (i : Nat) => (i : Int)).map D.int := by unfold intsD; rw [List.map_map]; congr 1; funext i; simp
  have e2 : ((List.range n).map fun (i : Nat) => V.int (i : Int)) = ((List.range n).map fun (i : Nat) => (i : Int)).map V.int := by rw [List.map_map]; rfl
  rw [e, e2]; exact denL_ints _
theorem qf_listR {a : Expr} {p p2 pos2 : Pos} (hm : X.mg "list" = none) (hm2 : X.mg "range" = none) (ha : QA X [a] ts) (hc : X.calm = true := by rfl) (hg : Gl X "list" := by rfl) (hg2 : Gl X "range" := by rfl) (hs : starEach [a] X.env = [(false, eval a X.env)] := by rfl)
    (he : starEach [.Call (.Name "range" p2) [a] [] pos2] X.env = (false, eval (.Call (.Name "range" p2) [a] [] pos2) X.env) :: starEach [] X.env := by exact star_of rfl) (hpl : (backTo pos (starEach ([] : List Expr) X.env)).any (·.1) = false := by rfl) :
    QF X (.Call (.Name "list" p) [.Call (.Name "range" p2) [a] [] pos2] [] pos) (cListR ts) := by
  refine ⟨fun B σ F H env Q rp h => wE_of (pe_callTy (call_listR hc) hg hm boot_list' (pa_cons (pe_range1 hg2 hm2 pa_w hs) pa_nil he) (by decide) (by decide) he hpl) ?_⟩
  refine wA_mono (ha B σ F H env _ rp h) fun vs H1 ⟨F1, ds, r1, s1, d1, n, e1, hn, q1⟩ => ?_
  subst e1
  simp only [DenL, Den] at d1
  obtain ⟨v, r, rfl, rfl, rfl⟩ := d1
  refine ⟨n, rfl, fun r hr => ?_⟩
  obtain ⟨r2, s2⟩ := r1.laid (o := .rng 0 n) hr
  exact ⟨r, n, rfl, upd_same, hn, fun w hw => ⟨_, _, w, _, _, rfl, hw, rfl, r2, s1.trans s2, denL_ints0 _, q1⟩⟩
end
section
variable {X : Cx} {N' : List Str} {ix : List Nat} {scope : Scope} {elt a : Expr} {ifs : List Expr} {x : Str} {px py pos spos p pos2 : Pos} {tt : TB} {te : TD} {ts : TDs}
theorem qs_setOwnCompR1 {y : Str} (i : Nat) (hNd : X.N.Nodup) (hc : X.calm = true) (O : CompOk X N' 1 ix scope) (hN : N'.Nodup) (h0 : N'[0]? = some x) (hx : (relabel scope X.env).names.lookup x = some .local) (hgl : Gl X "range") (hm : X.mg "range" = none) (ha : QA X [a] ts)
    (ht : ∀ C s H fp pins, QIfs (compCx X N' scope C s H fp pins) ifs tt) (he : ∀ C s H fp pins, QE (compCx X N' scope C s H fp pins) elt te) (hy : X.N[i]? = some y := by rfl) (hl : Loc X.env.scope y := by first | exact Or.inl rfl | exact Or.inr rfl)
    (hsw : swapsWith (.ListComp elt [⟨.Name x px, .Call (.Name "range" p) [a] [] pos2, ifs, 0⟩] scope pos) (some (.Name y py)) spos.line X.env = pure true := by rfl) (hf : X.fn y = true ∨ X.env.scope.names.lookup y = some .local := by first | exact .inl rfl | exact .inr rfl)
    (hst : starEach [a] X.env = [(false, eval a X.env)] := by rfl) (hs : ∀ x, foldedSetIterable (.Call (.Name "range" p) [a] [] pos2) X.env x = pure x := by intro _; rfl) :
    QS X (.Assign [.Name y py] (.ListComp elt [⟨.Name x px, .Call (.Name "range" p) [a] [] pos2, ifs, 0⟩] scope pos) spos) (dSetOwn i (cCompR rng1 ix ts tt te)) := by
  refine ⟨fun B σ F H env D rp h pins s I => ?_⟩
  refine ps_setComp hc (pi_range1 hgl hm pa_w hst) O hNd hy hl hsw hf hs pins s σ H _ I ?_
  refine wA_mono (ha B σ F H env _ rp h) fun vs H1 ⟨F1, ds, r1, s1, d1, q1⟩ => ?_
  dsimp only at q1; unfold rng1 at q1
  split at q1
  · simp only [DenL, Den] at d1
    obtain ⟨v, r, rfl, rfl, rfl⟩ := d1
    refine ⟨_, rfl, q1.1.1, q1.1.2, ?_⟩
    intro a' C s fp pins ha'
    obtain ⟨W, w0, step⟩ := comp_core (X := X) (px := px) hN h0 hx ht he s1 r1 steps_range q1.2 a' C s fp pins ha'
    refine ⟨W, w0, fun i' m σ' H' w => ?_⟩
    rcases step i' m σ' H' w with ⟨st, z⟩ | z
    · refine .inl ⟨st, ?_⟩
      obtain ⟨F', H2, p, vs, ds, e1, hp, e2, r', s', hd, q'⟩ := z
      cases e1
      subst e2
      refine ⟨F', _, r'.setOwn hp hd ?_, q'⟩
      rw [I.len]; exact (List.getElem?_eq_some_iff.mp hy).1
    · exact .inr z
  · exact q1.elim
end
end L2.L3
set_option Elab.async false
set_option linter.all false
set_option maxRecDepth 100000
set_option maxHeartbeats 4000000
namespace L2.L3
open PySem PySem.Spec PyProof.Rows
section
variable {X : Cx} {o e : Expr} {to te : TD} {apos cpos : Pos}
theorem in_itemsA {X : Cx} {pins : List (Addr × Obj)} {σ : St} {H F : Hp} {s : Shared} (I : Inv X pins σ H s) (fh : Same F H) {ds : List D} {vs : List V} {us : List Value} {d : D} {x : V} {v : Value} (A : Around) (hu : A.units + 62 < cLine) (hds : depL ds ≤ 60) (hd : dep d ≤ 60) (dl : DenL X.K F ds vs) (rv : Vals vs us) (dx : Den X.K F d x) (rx : RelV x v) :
    ∀ u ∈ us, SeqAt.EqAt A s u v (eAtU us ds d u) := by
  intro u hu'
  obtain ⟨j, hj, e⟩ := List.getElem_of_mem hu'
  have h2 : us[j]? = some u := by rw [← e]; simp [hj]
  have l1 := dl.length
  have l2 := rv.length
  have h1 : ds[j]? = some (ds[j]'(by omega)) := List.getElem?_eq_getElem _
  rw [eAtU_of I fh (by omega) dl rv h1 h2]
  obtain ⟨w, g1, g2⟩ := dl.get h1
  obtain ⟨u', g3, g4⟩ := rv.get g1
  rw [h2] at g3; cases g3
  have dle : dep (ds[j]'(by omega)) ≤ 60 := by
    have go : ∀ (l : List D) (n : Nat), depL l ≤ n → ∀ y ∈ l, dep y ≤ n := by
      intro l
      induction l with
      | nil => intro n _ y hy; cases hy
      | cons z r ih =>
        intro n hn y hy
        simp only [depL] at hn
        rcases List.mem_cons.mp hy with rfl | hy
        · omega
        · exact ih n (by omega) y hy
    exact go ds 60 hds _ (List.getElem_mem _)
  exact eqAt_one I fh _ d A _ x u v (by omega) (by omega) (by omega) g2 dx g4 rx
end
end L2.L3
set_option Elab.async false
set_option linter.all false
set_option maxRecDepth 100000
set_option maxHeartbeats 4000000
namespace L2.L3
open PySem PySem.Spec PyProof.Rows
section
variable {X : Cx} {a b e : Expr} {ta te : TD} {pos p2 : Pos}
end
end L2.L3
local macro_rules | `(tactic| simp_arith only [$ls,*] $[$loc]?) => `(tactic| simp only [$ls,*, L2.L3.dSeq, L2.L3.dIf, L2.L3.dRet, L2.L3.dNext, L2.L3.dBreak, L2.L3.dSet, L2.L3.dAsg, L2.L3.dFor, L2.L3.dForR, L2.L3.dSetOwn, L2.L3.dAppend, L2.L3.dFreeze, L2.L3.dPut, L2.L3.cVar, L2.L3.cC, L2.L3.cOp, L2.L3.cUn, L2.L3.cTest, L2.L3.cNot, L2.L3.cAnd, L2.L3.cOr, L2.L3.cCall, L2.L3.cCons, L2.L3.cNil, L2.L3.cTup, L2.L3.cLst, L2.L3.cIsi, L2.L3.cFresh, L2.L3.cFew, L2.L3.cSl, L2.L3.cPart, L2.L3.cIxOwn, L2.L3.kName, L2.L3.kTup, L2.L3.kCons_eq, L2.L3.cons1_eq, L2.L3.kNil, L2.L3.cTrue, L2.L3.start3, List.map_cons, List.map_nil, List.length_cons, List.length_nil, List.cons_append, List.nil_append, List.append_nil, List.getElem?_cons_zero, List.getElem?_cons_succ, List.getElem?_nil, List.set_cons_zero, List.set_cons_succ, Option.some.injEq, L2.L3.Lo.d.injEq, L2.L3.Lo.own.injEq, L2.L3.D.bl.injEq, L2.L3.D.int.injEq, exists_eq_left', exists_eq_left, Nat.reduceAdd, Nat.reduceSub, Nat.sub_self, Nat.add_one_sub_one, List.replicate_succ, List.replicate_zero, L2.L3.D.tup.injEq, List.cons.injEq, and_assoc, L2.L3.cComp, L2.L3.cCompR, L2.L3.ii_eq, L2.L3.addD_ii, L2.L3.addD_ll, L2.L3.addD_tt, L2.L3.addD_ss, L2.L3.negD_i, L2.L3.eqF_ii, L2.L3.neF_ii, L2.L3.eqF_ss, L2.L3.eqF_bb, L2.L3.absF_i, L2.L3.lenF_l, L2.L3.lenF_t, L2.L3.lenF_s, L2.L3.maxF_ii, L2.L3.minF_ii, L2.L3.intF_i, L2.L3.intF_b, L2.L3.tupleF_l, L2.L3.tupleF_t, L2.L3.itemsD_l, L2.L3.itemsD_t, L2.L3.slD_l, L2.L3.rng1_i, L2.L3.rng2_i, decide_eq_true_eq, true_and, and_true, if_true, if_false, Bool.false_eq_true, Bool.not_eq_true', decide_eq_false_iff_not, PySem.sizeLine_eq, Int.reduceToNat, Int.reducePow, Int.reduceMul, Int.reduceAdd, Int.reduceNeg, Int.reduceSub, Int.reduceLT, Int.reduceLE, Int.reduceEq, Nat.reduceEqDiff, decide_true, decide_false, Nat.reduceLeDiff, Nat.reduceLT, Bool.true_eq_false, Bool.not_true, Bool.not_false, Bool.not_not, L2.L3.cListOf, L2.L3.listOfR_l, L2.L3.listOfR_t, L2.L3.D.lst.injEq, L2.L3.cLenOwn, L2.L3.dInsert, L2.L3.dSetPop, L2.L3.cOwnNe, L2.L3.cListR, L2.L3.dForE, L2.L3.enD] $[$loc]?)
set_option Elab.async false
set_option linter.all false
set_option maxRecDepth 100000
set_option maxHeartbeats 4000000
namespace L2.L3
open PySem PySem.Spec PyProof.Rows
end L2.L3
set_option Elab.async false
set_option linter.all false
set_option maxRecDepth 100000
set_option maxHeartbeats 4000000
set_option Elab.async false
set_option linter.all false
set_option maxRecDepth 100000
set_option maxHeartbeats 4000000
set_option Elab.async false
set_option linter.all false
set_option maxRecDepth 100000
set_option maxHeartbeats 4000000
set_option Elab.async false
set_option linter.all false
set_option maxRecDepth 100000
set_option maxHeartbeats 4000000
namespace L2.L3
open PySem PySem.Spec PyProof.Rows
end L2.L3
set_option Elab.async false
set_option linter.all false
set_option maxRecDepth 100000
set_option maxHeartbeats 4000000
namespace L2.L3
open PySem PySem.Spec PyProof.Rows
end L2.L3
set_option Elab.async false
set_option linter.all false
set_option maxRecDepth 100000
set_option maxHeartbeats 4000000
set_option Elab.async false
set_option linter.all false
set_option maxRecDepth 100000
set_option maxHeartbeats 4000000
namespace L2.L3
open PySem PySem.Spec PyProof.Rows
section
variable {X : Cx} {a b c e : Expr} {ta tb te : TD} {pos : Pos} {st : Stmt} {t : TS3}
def dPopI (i : Nat) (te : TD) : TS3 := fun Z env => ∃ xs, env[i]? = some (some (.own xs)) ∧ te env fun y => ∃ (k : Nat), y = .int k ∧ k < xs.length ∧ k < 2 ^ 62 ∧ Z.nx (env.set i (some (.own (xs.eraseIdx k))))
theorem qs_popI {x : Str} {px apos cpos : Pos} (i : Nat) (he : QE X e te) (hN : X.N[i]? = some x := by rfl) (hv : Vis X.env.scope x := by first | exact Or.inl rfl | exact Or.inr (Or.inl rfl) | exact Or.inr (Or.inr rfl)) (hd : (x == ("__debug__" : Str)) = false := by decide) (hcd : (x == ("__classdict__" : Str)) = false := by decide)
    (hbase : attributeBase (.Name x px) "pop" X.env (eval (.Name x px) X.env) = eval (.Name x px) X.env := by rfl)
    (hfew : ((backTo cpos (starEach [e] X.env)).all (fun x => !x.1) && (backToKw cpos (keywordEach [] X.env)).all (fun x => x.1.isSome)
      && decide (([e] : List Expr).length + ([] : List Keyword).length + (if ([] : List Keyword).isEmpty then 0 else 1) < 30)) = true := by rfl)
    (hline : (apos.endLine == cpos.line) = true := by rfl) (hst : starEach [e] X.env = (false, eval e X.env) :: starEach [] X.env := by exact star_of rfl) (hplain : (backTo cpos (starEach ([] : List Expr) X.env)).any (·.1) = false := by rfl)
    (hs : swapsWith (.Call (.Attribute (.Name x px) "pop" apos) [e] [] cpos) none pos.line X.env = pure false := by rfl) :
    QS X (.Expr (.Call (.Attribute (.Name x px) "pop" apos) [e] [] cpos) pos) (dPopI i te) := by
  refine ⟨fun B σ F H env D rp h => wS_of (ps_expr (pe_bm PySem.F.plainAttrs_list PySem.F.slot_list_pop PySem.F.type_list_pop mt_popAt (pe_var hN hv hd hcd) (pa_cons pe_w pa_nil hst) hbase hfew hline hst hplain) hs) ?_⟩
  obtain ⟨xs, hx, h⟩ := h
  obtain ⟨p, vs, h1, h2, h3, h4, h5⟩ := rp.ov i xs hx
  refine ⟨.ref p, h1, .inl ⟨rfl, vs, SqL.of h2⟩, ?_⟩
  refine wE_mono (he B σ F H env _ rp h) fun w H1 ⟨F1, d, r1, s1, d1, k, e1, hk, hk2, q1⟩ => ?_
  subst e1
  simp only [Den] at d1
  subst d1
  obtain ⟨p', vs', g1, g2, g3, g4, g5⟩ := r1.ov i xs hx
  rw [h1] at g1; cases g1
  have hl := g5.length
  obtain ⟨u, hu, du⟩ := g5.get (List.getElem?_eq_getElem hk)
  have hix : seqIndex? (k : Int) vs'.length = some k := (ixN_seq (n := vs'.length) (i := (k : Int)) (j := k) (by unfold ixN; rw [if_pos (by omega), if_pos (by omega)]; simp)).1
  exact ⟨p, vs', k, k, u, rfl, rfl, g2, by omega, by omega, hix, hu, F1, _, r1.change hx h1 (g5.eraseIdx k), q1⟩
end
end L2.L3
set_option Elab.async false
set_option linter.all false
set_option maxRecDepth 100000
set_option maxHeartbeats 4000000
namespace L2.L3
open PySem PySem.Spec PyProof.Rows
section
variable {prog : Program} {w : World} {A : Around} {E : Value → Shared → Prop} {s : Shared}
def QuietAt (prog : Program) (w : World) (A : Around) (s : Shared) (v : Value) : Prop := ∀ (E : Value → Shared → Prop) (Q : Bool → Shared → Prop), Q true s → wpAny (model prog w) A (eqIsQuiet 8 v) Q E s
def HashAt (prog : Program) (w : World) (A : Around) (s : Shared) (v : Value) (h : Int) (n : Nat) : Prop := ∀ (E : Value → Shared → Prop) (Q : Int → Shared → Prop), Q h { s with toks := s.toks + n } → wpAny (model prog w) A (PySem.pyHash v) Q E s
theorem mayTell_gen {key : Value} {stored : List Value} {Q : Bool → Shared → Prop} (hkey : QuietAt prog w A s key)
    (hst : ∀ v ∈ stored, QuietAt prog w A s v) (h : Q false s) : wpAny (model prog w) A (tableMayTell key stored) Q E s := by
  unfold tableMayTell
  split
  · exact wpAny_pure h
  · refine wpAny_bind (hkey _ _ ?_)
    simp only [Bool.not_true, Bool.false_eq_true, if_false]
    refine wpAny_bind ?_
    refine wpAny_forIn_list _ (fun rest r s' => s' = s ∧ r = (none, ()) ∧ ∀ v ∈ rest, QuietAt prog w A s v) _ ?_ ?_ _ _ ⟨rfl, rfl, hst⟩
    · rintro x rest r s' ⟨rfl, rfl, hr⟩
      refine wpAny_bind (hr x List.mem_cons_self _ _ ?_)
      simp only [Bool.not_true, Bool.false_eq_true, if_false]
      exact wpAny_pure ⟨rfl, rfl, fun v hv => hr v (List.mem_cons_of_mem _ hv)⟩
    · rintro r s' ⟨rfl, rfl, _⟩
      exact wpAny_pure h
structure FindIn (prog : Program) (w : World) (A : Around) (s : Shared) (es : Array DictEntry) (key : Value) (h : Int) (m : Nat → Bool) : Prop where
  eq : ∀ (j : Nat) (hj : j < es.size), SeqAt.EqAt A s es[j].key key (m j)
  mh : ∀ (j : Nat) (hj : j < es.size), m j = true → es[j].hash = h
  mu : ∀ (i j : Nat), i < es.size → j < es.size → m i = true → m j = true → i = j
  same : ∀ (j : Nat) (hj : j < es.size), es[j].key = key → es[j].hash = h
  qk : QuietAt prog w A s key
  qs : ∀ (j : Nat) (hj : j < es.size), QuietAt prog w A s es[j].key
  ns : (∃ i t, key = .int i t) ∨ (∃ a, key = .ref a) ∨ key = .none
theorem dfind_gen {d : Addr} {o : Obj} {es : Array DictEntry} {ep} {key : Value} {h : Int} {m : Nat → Bool} {Q : Option Nat → Shared → Prop} (f : FindIn prog w A s es key h m)
    (ho : s.heap.get? d = some o) (hd : o.data = .dict es ep)
    (hnone : (∀ j, j < es.size → m j = false) → Q none s) (hsome : ∀ j, j < es.size → m j = true → Q (some j) s) :
    wpAny (model prog w) A (dictFind d key h) Q E s := by
  have hask : ∀ (j : Nat), j < es.size → m j = true → ((es[j]?.map (·.hash)) == some h) = true := by
    intro j hj hm
    rw [Array.getElem?_eq_getElem hj, Option.map_some, f.mh j hj hm]
    simp
  have hst : ∀ v ∈ (placesWithHash es.size (fun i => es[i]?.map (·.hash)) h).filterMap (fun i => es[i]?.map (·.key)), QuietAt prog w A s v := by
    intro v hv
    obtain ⟨i, _, hi⟩ := List.mem_filterMap.mp hv
    cases hei : es[i]? with
    | none => rw [hei] at hi; cases hi
    | some e =>
      rw [hei] at hi
      obtain rfl : e.key = v := by simpa using hi
      obtain ⟨hl, rfl⟩ := Array.getElem?_eq_some_iff.mp hei
      exact f.qs i hl
  have hany : ¬ (es.any fun e => e.key == key && e.hash != h) = true := by
    rw [← Array.any_toList, List.any_eq_true]
    rintro ⟨e, hin, hc⟩
    obtain ⟨i, hi, rfl⟩ := Array.mem_iff_getElem.mp (Array.mem_toList_iff.mp hin)
    simp only [Bool.and_eq_true, beq_iff_eq, bne_iff_ne, ne_eq] at hc
    exact hc.2 (f.same i hi hc.1)
  have plain : wpAny (model prog w) A (dictWalkPlain d key h es (placesWithHash es.size (fun i => es[i]?.map (·.hash)) h)) Q E s := by
    refine wpAny_bind ?_
    refine wpAny_forIn_list _
      (fun rest b s' => s' = s ∧ b = (none, ()) ∧ ∃ i, rest = (List.range' i (es.size - i)).filter (fun i => (es[i]?.map (·.hash)) == some h) ∧ i ≤ es.size ∧
        ∀ j, j < i → m j = false) _ ?_ ?_ _ _
      ⟨rfl, rfl, 0, by rw [placesWithHash, List.range_eq_range', Nat.sub_zero], Nat.zero_le _, fun _ h => absurd h (Nat.not_lt_zero _)⟩
    · rintro x rest b s' ⟨rfl, rfl, i, hr, hi, hno⟩
      obtain ⟨hix, hxn, hpx, hskip, hrest⟩ := filter_range'_cons _ _ _ _ _ hr.symm
      have hlt : x < es.size := by omega
      have before : ∀ j, j < x → m j = false := fun j hjx => by
        rcases Nat.lt_or_ge j i with c | c
        · exact hno j c
        · cases hmj : m j with
          | false => rfl
          | true => have q := hskip j c hjx; rw [hask j (by omega) hmj] at q; cases q
      have hnext : m x = false → ∃ i, rest = (List.range' i (es.size - i)).filter (fun i => (es[i]?.map (·.hash)) == some h) ∧ i ≤ es.size ∧ ∀ j, j < i → m j = false := fun hne =>
        ⟨x + 1, by rw [hrest]; congr 2; omega, hlt, fun j hji => by
          rcases Nat.lt_or_ge j x with c | c
          · exact before j c
          · have : j = x := by omega
            subst this; exact hne⟩
      simp only [Array.getElem?_eq_getElem hlt]
      by_cases hh : (es[x].hash == h) = true
      · rw [if_pos hh]
        refine wpAny_bind (wpAny_dictEpoch ho hd (wpAny_bind (f.eq x hlt prog w _ _ (wpAny_bind (wpAny_dictEpoch ho hd ?_)))))
        show wpAny _ _ (if (ep != ep) = true then _ else _) _ E _
        rw [if_neg (by simp)]
        cases hm : m x with
        | true => exact wpAny_bind (wpAny_rule (wpAny_pure (wpAny_pure (hsome x hlt hm))))
        | false => exact wpAny_bind (wpAny_rule (wpAny_pure ⟨rfl, rfl, hnext hm⟩))
      · rw [if_neg hh]
        refine wpAny_pure ⟨rfl, rfl, hnext ?_⟩
        cases hm : m x with
        | false => rfl
        | true => exact absurd (beq_iff_eq.mpr (f.mh x hlt hm)) hh
    · rintro b s' ⟨rfl, rfl, i, hr, hi, hno⟩
      refine wpAny_pure (hnone fun j hj => ?_)
      rcases Nat.lt_or_ge j i with c | c
      · exact hno j c
      · have := List.filter_eq_nil_iff.mp hr.symm j (List.mem_range'_1.mpr ⟨c, by omega⟩)
        cases hmj : m j with
        | false => rfl
        | true => rw [hask j hj hmj] at this; exact absurd rfl this
  have ns := f.ns
  unfold dictFind
  try with_reducible refine wpAny_holding ?_
  refine wpAny_bind (wpAny_dictEntries ho hd ?_)
  rcases ns with ⟨ki, kt, rfl⟩ | ⟨ka, rfl⟩ | rfl
  all_goals dsimp only
  all_goals
    refine wpAny_ite_split (fun _ => plain) (fun _ => ?_)
  rotate_left
  · rw [if_neg hany]
    by_cases hone : (((placesWithHash es.size (fun i => es[i]?.map (·.hash)) h).filterMap (fun i => es[i]?.map (·.key))) == [Value.ref ka]) = true <;>
    (first | rw [if_pos hone] | rw [if_neg hone]) <;> (first | refine wpAny_bind (wpAny_pure ?_) | refine wpAny_bind (mayTell_gen f.qk hst ?_)) <;> (
      rw [if_neg (by simp)]
      refine wpAny_bind ?_
      refine wpAny_forIn_list _
        (fun rest b s' => s' = s ∧ ∃ i hit, b = (none, hit) ∧ rest = (List.range' i (es.size - i)).filter (fun i => (es[i]?.map (·.hash)) == some h) ∧ i ≤ es.size ∧
          ((hit = none ∧ ∀ j, j < i → m j = false) ∨ ∃ j, hit = some j ∧ j < i ∧ m j = true)) _ ?_ ?_ _ _
        ⟨rfl, 0, none, rfl, by rw [placesWithHash, List.range_eq_range', Nat.sub_zero], Nat.zero_le _, .inl ⟨rfl, fun _ h => absurd h (Nat.not_lt_zero _)⟩⟩
      · rintro x rest b s' ⟨rfl, i, hit, rfl, hr, hi, hH⟩
        obtain ⟨hix, hxn, hpx, hskip, hrest⟩ := filter_range'_cons _ _ _ _ _ hr.symm
        have hlt : x < es.size := by omega
        have hrest' : rest = (List.range' (x + 1) (es.size - (x + 1))).filter (fun i => (es[i]?.map (·.hash)) == some h) := by rw [hrest]; congr 2; omega
        have hHx : (hit = none ∧ ∀ j, j < x → m j = false) ∨ ∃ j, hit = some j ∧ j < x ∧ m j = true := by
          rcases hH with ⟨h0, hno⟩ | ⟨j, h1, hji, hj⟩
          · refine .inl ⟨h0, fun j hjx => ?_⟩
            rcases Nat.lt_or_ge j i with c | c
            · exact hno j c
            · cases hmj : m j with
              | false => rfl
              | true => have q := hskip j c hjx; rw [hask j (by omega) hmj] at q; cases q
          · exact .inr ⟨j, h1, by omega, hj⟩
        have hstay : m x = false → ((hit = none ∧ ∀ j, j < x + 1 → m j = false) ∨ ∃ j, hit = some j ∧ j < x + 1 ∧ m j = true) := by
          intro hne
          rcases hHx with ⟨h0, hno⟩ | ⟨j, h1, hjx, hj⟩
          · refine .inl ⟨h0, fun j hjx => ?_⟩
            rcases Nat.lt_or_ge j x with c | c
            · exact hno j c
            · have : j = x := by omega
              subst this; exact hne
          · exact .inr ⟨j, h1, by omega, hj⟩
        rw [Array.getElem?_eq_getElem hlt]
        dsimp only
        by_cases hh : (es[x].hash == h) = true
        · rw [if_pos hh]
          refine wpAny_bind (wpAny_dictEpoch ho hd (wpAny_bind (f.eq x hlt prog w _ _ (wpAny_bind (wpAny_dictEpoch ho hd ?_)))))
          show wpAny _ _ (if (ep != ep) = true then _ else _) _ E _
          rw [if_neg (by simp)]
          cases hm : m x with
          | true =>
            rcases hHx with ⟨rfl, _⟩ | ⟨j, _, hjx, hj⟩
            · first | rw [if_pos rfl] | skip
              simp only [Option.isSome_none, Bool.false_eq_true, if_false]
              first | refine wpAny_bind (wpAny_pure ?_) | skip
              refine wpAny_bind (wpAny_rule ?_)
              split
              · exact wpAny_pure (wpAny_pure (hsome x hlt hm))
              · exact wpAny_pure ⟨rfl, x + 1, some x, rfl, hrest', hlt, .inr ⟨x, rfl, Nat.lt_succ_self x, hm⟩⟩
            · exact absurd (f.mu j x (by omega) hlt hj hm) (by omega)
          | false =>
            simp only [Bool.false_eq_true, if_false]
            refine wpAny_bind (wpAny_rule ?_)
            first | rw [if_neg (by simp)] | skip
            first
              | exact wpAny_pure ⟨rfl, x + 1, hit, rfl, hrest', hlt, hstay hm⟩
              | exact wpAny_bind (wpAny_pure (wpAny_pure ⟨rfl, x + 1, hit, rfl, hrest', hlt, hstay hm⟩))
        · rw [if_neg hh]
          refine wpAny_pure ⟨rfl, x + 1, hit, rfl, hrest', hlt, hstay ?_⟩
          cases hm : m x with
          | false => rfl
          | true => exact absurd (beq_iff_eq.mpr (f.mh x hlt hm)) hh
      · rintro b s' ⟨rfl, i, hit, rfl, hr, hi, hH⟩
        rcases hH with ⟨rfl, hno⟩ | ⟨j, rfl, hji, hj⟩
        · refine wpAny_pure (hnone fun j hj => ?_)
          rcases Nat.lt_or_ge j i with c | c
          · exact hno j c
          · have := List.filter_eq_nil_iff.mp hr.symm j (List.mem_range'_1.mpr ⟨c, by omega⟩)
            cases hmj : m j with
            | false => rfl
            | true => rw [hask j hj hmj] at this; exact absurd rfl this
        · exact wpAny_pure (hsome j (by omega) hj))
  · by_cases hone : (((placesWithHash es.size (fun i => es[i]?.map (·.hash)) h).filterMap (fun i => es[i]?.map (·.key))) == [Value.none]) = true <;>
    (first | rw [if_pos hone] | rw [if_neg hone]) <;> (first | refine wpAny_bind (wpAny_pure ?_) | refine wpAny_bind (mayTell_gen f.qk hst ?_)) <;> (
      rw [if_neg (by simp)]
      refine wpAny_bind ?_
      refine wpAny_forIn_list _
        (fun rest b s' => s' = s ∧ ∃ i hit, b = (none, hit) ∧ rest = (List.range' i (es.size - i)).filter (fun i => (es[i]?.map (·.hash)) == some h) ∧ i ≤ es.size ∧
          ((hit = none ∧ ∀ j, j < i → m j = false) ∨ ∃ j, hit = some j ∧ j < i ∧ m j = true)) _ ?_ ?_ _ _
        ⟨rfl, 0, none, rfl, by rw [placesWithHash, List.range_eq_range', Nat.sub_zero], Nat.zero_le _, .inl ⟨rfl, fun _ h => absurd h (Nat.not_lt_zero _)⟩⟩
      · rintro x rest b s' ⟨rfl, i, hit, rfl, hr, hi, hH⟩
        obtain ⟨hix, hxn, hpx, hskip, hrest⟩ := filter_range'_cons _ _ _ _ _ hr.symm
        have hlt : x < es.size := by omega
        have hrest' : rest = (List.range' (x + 1) (es.size - (x + 1))).filter (fun i => (es[i]?.map (·.hash)) == some h) := by rw [hrest]; congr 2; omega
        have hHx : (hit = none ∧ ∀ j, j < x → m j = false) ∨ ∃ j, hit = some j ∧ j < x ∧ m j = true := by
          rcases hH with ⟨h0, hno⟩ | ⟨j, h1, hji, hj⟩
          · refine .inl ⟨h0, fun j hjx => ?_⟩
            rcases Nat.lt_or_ge j i with c | c
            · exact hno j c
            · cases hmj : m j with
              | false => rfl
              | true => have q := hskip j c hjx; rw [hask j (by omega) hmj] at q; cases q
          · exact .inr ⟨j, h1, by omega, hj⟩
        have hstay : m x = false → ((hit = none ∧ ∀ j, j < x + 1 → m j = false) ∨ ∃ j, hit = some j ∧ j < x + 1 ∧ m j = true) := by
          intro hne
          rcases hHx with ⟨h0, hno⟩ | ⟨j, h1, hjx, hj⟩
          · refine .inl ⟨h0, fun j hjx => ?_⟩
            rcases Nat.lt_or_ge j x with c | c
            · exact hno j c
            · have : j = x := by omega
              subst this; exact hne
          · exact .inr ⟨j, h1, by omega, hj⟩
        rw [Array.getElem?_eq_getElem hlt]
        dsimp only
        by_cases hh : (es[x].hash == h) = true
        · rw [if_pos hh]
          refine wpAny_bind (wpAny_dictEpoch ho hd (wpAny_bind (f.eq x hlt prog w _ _ (wpAny_bind (wpAny_dictEpoch ho hd ?_)))))
          show wpAny _ _ (if (ep != ep) = true then _ else _) _ E _
          rw [if_neg (by simp)]
          cases hm : m x with
          | true =>
            rcases hHx with ⟨rfl, _⟩ | ⟨j, _, hjx, hj⟩
            · first | rw [if_pos rfl] | skip
              simp only [Option.isSome_none, Bool.false_eq_true, if_false]
              first | refine wpAny_bind (wpAny_pure ?_) | skip
              refine wpAny_bind (wpAny_rule ?_)
              split
              · exact wpAny_pure (wpAny_pure (hsome x hlt hm))
              · exact wpAny_pure ⟨rfl, x + 1, some x, rfl, hrest', hlt, .inr ⟨x, rfl, Nat.lt_succ_self x, hm⟩⟩
            · exact absurd (f.mu j x (by omega) hlt hj hm) (by omega)
          | false =>
            simp only [Bool.false_eq_true, if_false]
            refine wpAny_bind (wpAny_rule ?_)
            first | rw [if_neg (by simp)] | skip
            first
              | exact wpAny_pure ⟨rfl, x + 1, hit, rfl, hrest', hlt, hstay hm⟩
              | exact wpAny_bind (wpAny_pure (wpAny_pure ⟨rfl, x + 1, hit, rfl, hrest', hlt, hstay hm⟩))
        · rw [if_neg hh]
          refine wpAny_pure ⟨rfl, x + 1, hit, rfl, hrest', hlt, hstay ?_⟩
          cases hm : m x with
          | false => rfl
          | true => exact absurd (beq_iff_eq.mpr (f.mh x hlt hm)) hh
      · rintro b s' ⟨rfl, i, hit, rfl, hr, hi, hH⟩
        rcases hH with ⟨rfl, hno⟩ | ⟨j, rfl, hji, hj⟩
        · refine wpAny_pure (hnone fun j hj => ?_)
          rcases Nat.lt_or_ge j i with c | c
          · exact hno j c
          · have := List.filter_eq_nil_iff.mp hr.symm j (List.mem_range'_1.mpr ⟨c, by omega⟩)
            cases hmj : m j with
            | false => rfl
            | true => rw [hask j hj hmj] at this; exact absurd rfl this
        · exact wpAny_pure (hsome j (by omega) hj))
  · by_cases hone : (((placesWithHash es.size (fun i => es[i]?.map (·.hash)) h).filterMap (fun i => es[i]?.map (·.key))) == [Value.int ki kt]) = true <;>
    (first | rw [if_pos hone] | rw [if_neg hone]) <;> (first | refine wpAny_bind (wpAny_pure ?_) | refine wpAny_bind (mayTell_gen f.qk hst ?_)) <;> (
      rw [if_neg (by simp)]
      refine wpAny_bind ?_
      refine wpAny_forIn_list _
        (fun rest b s' => s' = s ∧ ∃ i hit, b = (none, hit) ∧ rest = (List.range' i (es.size - i)).filter (fun i => (es[i]?.map (·.hash)) == some h) ∧ i ≤ es.size ∧
          ((hit = none ∧ ∀ j, j < i → m j = false) ∨ ∃ j, hit = some j ∧ j < i ∧ m j = true)) _ ?_ ?_ _ _
        ⟨rfl, 0, none, rfl, by rw [placesWithHash, List.range_eq_range', Nat.sub_zero], Nat.zero_le _, .inl ⟨rfl, fun _ h => absurd h (Nat.not_lt_zero _)⟩⟩
      · rintro x rest b s' ⟨rfl, i, hit, rfl, hr, hi, hH⟩
        obtain ⟨hix, hxn, hpx, hskip, hrest⟩ := filter_range'_cons _ _ _ _ _ hr.symm
        have hlt : x < es.size := by omega
        have hrest' : rest = (List.range' (x + 1) (es.size - (x + 1))).filter (fun i => (es[i]?.map (·.hash)) == some h) := by rw [hrest]; congr 2; omega
        have hHx : (hit = none ∧ ∀ j, j < x → m j = false) ∨ ∃ j, hit = some j ∧ j < x ∧ m j = true := by
          rcases hH with ⟨h0, hno⟩ | ⟨j, h1, hji, hj⟩
          · refine .inl ⟨h0, fun j hjx => ?_⟩
            rcases Nat.lt_or_ge j i with c | c
            · exact hno j c
            · cases hmj : m j with
              | false => rfl
              | true => have q := hskip j c hjx; rw [hask j (by omega) hmj] at q; cases q
          · exact .inr ⟨j, h1, by omega, hj⟩
        have hstay : m x = false → ((hit = none ∧ ∀ j, j < x + 1 → m j = false) ∨ ∃ j, hit = some j ∧ j < x + 1 ∧ m j = true) := by
          intro hne
          rcases hHx with ⟨h0, hno⟩ | ⟨j, h1, hjx, hj⟩
          · refine .inl ⟨h0, fun j hjx => ?_⟩
            rcases Nat.lt_or_ge j x with c | c
            · exact hno j c
            · have : j = x := by omega
              subst this; exact hne
          · exact .inr ⟨j, h1, by omega, hj⟩
        rw [Array.getElem?_eq_getElem hlt]
        dsimp only
        by_cases hh : (es[x].hash == h) = true
        · rw [if_pos hh]
          refine wpAny_bind (wpAny_dictEpoch ho hd (wpAny_bind (f.eq x hlt prog w _ _ (wpAny_bind (wpAny_dictEpoch ho hd ?_)))))
          show wpAny _ _ (if (ep != ep) = true then _ else _) _ E _
          rw [if_neg (by simp)]
          cases hm : m x with
          | true =>
            rcases hHx with ⟨rfl, _⟩ | ⟨j, _, hjx, hj⟩
            · first | rw [if_pos rfl] | skip
              simp only [Option.isSome_none, Bool.false_eq_true, if_false]
              first | refine wpAny_bind (wpAny_pure ?_) | skip
              refine wpAny_bind (wpAny_rule ?_)
              split
              · exact wpAny_pure (wpAny_pure (hsome x hlt hm))
              · exact wpAny_pure ⟨rfl, x + 1, some x, rfl, hrest', hlt, .inr ⟨x, rfl, Nat.lt_succ_self x, hm⟩⟩
            · exact absurd (f.mu j x (by omega) hlt hj hm) (by omega)
          | false =>
            simp only [Bool.false_eq_true, if_false]
            refine wpAny_bind (wpAny_rule ?_)
            first | rw [if_neg (by simp)] | skip
            first
              | exact wpAny_pure ⟨rfl, x + 1, hit, rfl, hrest', hlt, hstay hm⟩
              | exact wpAny_bind (wpAny_pure (wpAny_pure ⟨rfl, x + 1, hit, rfl, hrest', hlt, hstay hm⟩))
        · rw [if_neg hh]
          refine wpAny_pure ⟨rfl, x + 1, hit, rfl, hrest', hlt, hstay ?_⟩
          cases hm : m x with
          | false => rfl
          | true => exact absurd (beq_iff_eq.mpr (f.mh x hlt hm)) hh
      · rintro b s' ⟨rfl, i, hit, rfl, hr, hi, hH⟩
        rcases hH with ⟨rfl, hno⟩ | ⟨j, rfl, hji, hj⟩
        · refine wpAny_pure (hnone fun j hj => ?_)
          rcases Nat.lt_or_ge j i with c | c
          · exact hno j c
          · have := List.filter_eq_nil_iff.mp hr.symm j (List.mem_range'_1.mpr ⟨c, by omega⟩)
            cases hmj : m j with
            | false => rfl
            | true => rw [hask j hj hmj] at this; exact absurd rfl this
        · exact wpAny_pure (hsome j (by omega) hj))
theorem DictHas.typeIs {d : Addr} {es : Array DictEntry} {ep : Nat} (x : DictHas s.heap d es ep) : s.TypeIs (.ref d) "dict" := let ⟨o, ho, hc, _⟩ := x; ⟨o, ho, hc.1⟩
theorem DictHas.new (h : Heap) : DictHas (h.push { cls := .type "dict", data := .dict #[] }) h.objs.size #[] 0 := ⟨_, Heap.get?_push_size _ rfl, ⟨rfl, rfl, rfl⟩, rfl⟩
theorem dget_gen {d : Addr} {es : Array DictEntry} {ep : Nat} {key : Value} {h : Int} {n : Nat} {m : Nat → Bool} {Q : Option Value → Shared → Prop} (hh : HashAt prog w A s key h n) (f : FindIn prog w A { s with toks := s.toks + n } es key h m) (x : DictHas s.heap d es ep)
    (hnone : (∀ j, j < es.size → m j = false) → Q none { s with toks := s.toks + n }) (hsome : ∀ j (hj : j < es.size), m j = true → Q (some es[j].val) { s with toks := s.toks + n }) :
    wpAny (model prog w) A (dictGet d key) Q E s := by
  obtain ⟨o, ho, _, hd⟩ := x
  unfold dictGet
  try with_reducible refine wpAny_holding ?_
  refine wpAny_bind (hh _ _ (wpAny_bind (dfind_gen (s := { s with toks := s.toks + n }) f ho hd ?_ ?_)))
  · intro hno
    exact wpAny_pure (hnone hno)
  · intro j hj hm
    refine wpAny_bind (wpAny_dictEntries (s := { s with toks := s.toks + n }) ho hd ?_)
    rw [Array.getElem?_eq_getElem hj]
    exact wpAny_pure (hsome j hj hm)
theorem dset_gen {d : Addr} {es : Array DictEntry} {ep : Nat} {key v : Value} {h : Int} {n : Nat} {m : Nat → Bool} {Q : Unit → Shared → Prop} (hh : HashAt prog w A s key h n) (f : FindIn prog w A { s with toks := s.toks + n } es key h m) (x : DictHas s.heap d es ep) (hz : es.size ≤ sizeLine)
    (hnone : (∀ j, j < es.size → m j = false) → ∀ h', DictHas h' d (es.push ⟨h, key, v⟩) (ep + 1) → Heap.SameBut d s.heap h' → Q () { s with heap := h', toks := s.toks + n })
    (hsome : ∀ j (hj : j < es.size), m j = true → ∀ h', DictHas h' d (es.modify j fun e => { e with val := v }) ep → Heap.SameBut d s.heap h' → Q () { s with heap := h', toks := s.toks + n }) :
    wpAny (model prog w) A (dictSet d key v) Q E s := by
  obtain ⟨o, ho, hc, hd⟩ := x
  unfold dictSet
  try with_reducible refine wpAny_holding ?_
  refine wpAny_bind (hh _ _ ?_)
  unfold dictSetHashed
  try with_reducible refine wpAny_holding ?_
  refine wpAny_bind (dfind_gen (s := { s with toks := s.toks + n }) f ho hd ?_ ?_)
  · intro hno
    exact wpAny_bind (wpAny_rule (wpAny_updateDictKeys (hz := hz) (s := { s with toks := s.toks + n }) ho hd (hnone hno _ ⟨_, Heap.get?_update_self _ ho (Obj.isFreed_of_dict (Obj.data_mapDictKeys hd _)), hc.mapDictKeys _, Obj.data_mapDictKeys hd _⟩ (Heap.SameBut.update ..))))
  · intro j hj hm
    exact wpAny_bind (wpAny_rule (wpAny_bind (wpAny_updateDict (s := { s with toks := s.toks + n }) ho hd (wpAny_point (hsome j hj hm _ ⟨_, Heap.get?_update_self _ ho (Obj.isFreed_of_dict (Obj.data_mapDict hd _)), hc.mapDict _, Obj.data_mapDict hd _⟩ (Heap.SameBut.update ..))))))
theorem getItem_gen {d : Addr} {es : Array DictEntry} {ep : Nat} {key : Value} {h : Int} {n j : Nat} {m : Nat → Bool} {Q : Value → Shared → Prop} (hh : HashAt prog w A.in1 s key h n) (f : FindIn prog w A.in1 { s with toks := s.toks + n } es key h m) (x : DictHas s.heap d es ep)
    (hj : j < es.size) (hm : m j = true) (hq : Q es[j].val { s with toks := s.toks + n }) : wpAny (model prog w) A (getItem (.ref d) key) Q E s := by
  unfold getItem
  try with_reducible refine wpAny_holding ?_
  refine wpAny_bind (wpAny_sequenceKey x.typeIs (by decide) ?_)
  refine wpAny_bind (wpAny_callSpecial?_slot (name := Str.ofString "__getitem__") x.typeIs slot_dict_getitem
    (wpAny_call_entry slot_dict_getitem x.typeIs entry_dict_getitem ?_ (args_dict_getitem _ _)))
  show wpAny _ _ (dictGet d key >>= _) _ _ s
  refine wpAny_bind (dget_gen hh f x (fun hno => by rw [hno j hj] at hm; cases hm) fun i hi hmi => ?_)
  have := f.mu i j hi hj hmi hm
  subst this
  exact wpAny_pure ⟨_, rfl, wpAny_pure hq⟩
theorem setItem_gen {d : Addr} {es : Array DictEntry} {ep : Nat} {key v : Value} {h : Int} {n : Nat} {m : Nat → Bool} {Q : Unit → Shared → Prop} (hh : HashAt prog w A.in1 s key h n) (f : FindIn prog w A.in1 { s with toks := s.toks + n } es key h m) (x : DictHas s.heap d es ep) (hz : es.size ≤ sizeLine)
    (hnone : (∀ j, j < es.size → m j = false) → ∀ h', DictHas h' d (es.push ⟨h, key, v⟩) (ep + 1) → Heap.SameBut d s.heap h' → Q () { s with heap := h', toks := s.toks + n })
    (hsome : ∀ j (hj : j < es.size), m j = true → ∀ h', DictHas h' d (es.modify j fun e => { e with val := v }) ep → Heap.SameBut d s.heap h' → Q () { s with heap := h', toks := s.toks + n }) :
    wpAny (model prog w) A (setItem (.ref d) key v) Q E s := by
  unfold setItem
  try with_reducible refine wpAny_holding ?_
  refine wpAny_bind (wpAny_sequenceKey x.typeIs (by decide) ?_)
  refine wpAny_bind (wpAny_callSpecial?_slot (name := Str.ofString "__setitem__") x.typeIs slot_dict_setitem
    (wpAny_call_entry slot_dict_setitem x.typeIs entry_dict_setitem ?_ (args_dict_setitem _ _ _)))
  show wpAny _ _ (Builtin.Dict.notOrdered "__setitem__" ⟨[.ref d, key, v], []⟩ >>= _) _ _ s
  refine wpAny_bind (wpAny_notOrdered_dict x.typeIs ?_)
  show wpAny _ _ (dictSet d key v >>= _) _ _ s
  exact wpAny_bind (dset_gen hh f x hz (fun hno h' a b => wpAny_pure ⟨.none, rfl, wpAny_pure (hnone hno h' a b)⟩) (fun j hj hm h' a b => wpAny_pure ⟨.none, rfl, wpAny_pure (hsome j hj hm h' a b)⟩))
theorem contains_gen {d : Addr} {es : Array DictEntry} {ep : Nat} {key : Value} {h : Int} {n : Nat} {m : Nat → Bool} {Q : Bool → Shared → Prop} (hh : HashAt prog w A.in1 s key h n) (f : FindIn prog w A.in1 { s with toks := s.toks + n } es key h m) (x : DictHas s.heap d es ep) (hs : (d == sysModules) = false)
    (hnone : (∀ j, j < es.size → m j = false) → Q false { s with toks := s.toks + n }) (hsome : ∀ j (hj : j < es.size), m j = true → Q true { s with toks := s.toks + n }) : wpAny (model prog w) A (contains (.ref d) key) Q E s := by
  unfold contains
  try with_reducible refine wpAny_holding ?_
  refine wpAny_bind (wpAny_specialOf x.typeIs slot_dict_contains.lookup ?_)
  show wpAny _ _ (if (some (Value.builtin "dict.__contains__") == some Value.none) = true then _ else _) _ E s
  rw [if_neg (by rw [beq_builtin_none]; exact Bool.false_ne_true)]
  refine wpAny_bind (wpAny_callSpecialUnlessNone?_slot (name := Str.ofString "__contains__") x.typeIs slot_dict_contains
    (wpAny_call_entry slot_dict_contains x.typeIs entry_dict_contains ?_ (args_dict_contains _ _)))
  show wpAny _ _ (dictGet d key >>= _) _ _ s
  refine wpAny_bind (dget_gen hh f x (fun hno => ?_) fun i hi hmi => ?_)
  · show wpAny _ _ (Builtin.Dict.pendingKey? d key >>= _) _ _ _
    exact wpAny_bind (wpAny_pendingKey_other hs (wpAny_pure ⟨_, rfl, wpAny_truthy_bool (hnone hno)⟩))
  · show wpAny _ _ (ret (.bool true)) _ _ _
    exact wpAny_pure ⟨_, rfl, wpAny_truthy_bool (hsome i hi hmi)⟩
end
end L2.L3
set_option Elab.async false
set_option linter.all false
set_option maxRecDepth 100000
set_option maxHeartbeats 4000000
namespace L2.L3
open PySem PySem.Spec PyProof.Rows
mutual
def keyN : D → Bool
  | .int _ => true
  | .non => true
  | .tup ds => keyNs ds
  | _ => false
def keyNs : List D → Bool
  | [] => true
  | d :: ds => keyN d && keyNs ds
end
mutual
def drD : D → Nat
  | .int _ => 1
  | .non => 1
  | .tup ds => drDs ds + 1
  | _ => 0
def drDs : List D → Nat
  | [] => 0
  | d :: ds => drD d + drDs ds
end
theorem hsDs_snoc (d : D) : ∀ ds : List D, hsDs (ds ++ [d]) = hsDs ds ++ [hsD d]
  | [] => rfl
  | x :: ds => by show hsD x :: hsDs (ds ++ [d]) = _; rw [hsDs_snoc d ds]; rfl
theorem drDs_snoc (d : D) : ∀ ds : List D, drDs (ds ++ [d]) = drDs ds + drD d
  | [] => by simp [drDs]
  | x :: ds => by show drD x + drDs (ds ++ [d]) = _; rw [drDs_snoc d ds]; simp only [drDs]; omega
mutual
theorem keyN_eq : ∀ (a b : D), keyN a = true → eqD a b = true → keyN b = true → a = b
  | .int i, b, h, e, k => by cases b <;> simp only [eqD, keyN, beq_iff_eq, Bool.false_eq_true] at e k; rw [e]
  | .tup ds, b, h, e, k => by
    cases b <;> simp only [eqD, keyN, Bool.false_eq_true] at e k
    rw [keyNs_eq _ _ (by simpa only [keyN] using h) e k]
  | .non, b, h, e, k => by cases b <;> simp only [eqD, Bool.false_eq_true] at e; rfl
  | .bl _, b, h, e, k => by simp only [keyN, Bool.false_eq_true] at h
  | .str _, b, h, e, k => by simp only [keyN, Bool.false_eq_true] at h
  | .lst _, b, h, e, k => by simp only [keyN, Bool.false_eq_true] at h
  | .dct _ _, b, h, e, k => by simp only [keyN, Bool.false_eq_true] at h
  | .ty _, b, h, e, k => by simp only [keyN, Bool.false_eq_true] at h
  | .exc _, b, h, e, k => by simp only [keyN, Bool.false_eq_true] at h
  | .cls _, b, h, e, k => by simp only [keyN, Bool.false_eq_true] at h
  | .obj _, b, h, e, k => by simp only [keyN, Bool.false_eq_true] at h
theorem keyNs_eq : ∀ (a b : List D), keyNs a = true → eqDs a b = true → keyNs b = true → a = b
  | [], b, h, e, k => by cases b <;> simp only [eqDs, Bool.false_eq_true] at e; rfl
  | x :: a, b, h, e, k => by
    cases b with
    | nil => simp only [eqDs, Bool.false_eq_true] at e
    | cons y b =>
      simp only [eqDs, keyNs, Bool.and_eq_true] at e h k
      rw [keyN_eq x y h.1 e.1 k.1, keyNs_eq a b h.2 e.2 k.2]
end
mutual
theorem keyN_refl : ∀ (a : D), keyN a = true → eqD a a = true
  | .int i, h => by simp only [eqD, beq_self_eq_true]
  | .tup ds, h => by simp only [eqD]; exact keyNs_refl ds (by simpa only [keyN] using h)
  | .non, h => by simp only [eqD]
  | .bl _, h => by simp only [keyN, Bool.false_eq_true] at h
  | .str _, h => by simp only [keyN, Bool.false_eq_true] at h
  | .lst _, h => by simp only [keyN, Bool.false_eq_true] at h
  | .dct _ _, h => by simp only [keyN, Bool.false_eq_true] at h
  | .ty _, h => by simp only [keyN, Bool.false_eq_true] at h
  | .exc _, h => by simp only [keyN, Bool.false_eq_true] at h
  | .cls _, h => by simp only [keyN, Bool.false_eq_true] at h
  | .obj _, h => by simp only [keyN, Bool.false_eq_true] at h
theorem keyNs_refl : ∀ (a : List D), keyNs a = true → eqDs a a = true
  | [], h => rfl
  | x :: a, h => by
    simp only [keyNs, Bool.and_eq_true] at h
    simp only [eqDs, Bool.and_eq_true]
    exact ⟨keyN_refl x h.1, keyNs_refl a h.2⟩
end
section
variable {X : Cx} {pins : List (Addr × Obj)} {σ : St} {H F : Hp}
theorem tup_hash {s : Shared} {a : Addr} {items : List Value} {A : Around} {ds : List D} {vs : List V} (hu : A.units < cLine) (hT : IsTup s.heap a items.toArray) (rv : Vals vs items) (dl : DenL X.K F ds vs)
    (rec : ∀ (d : D) (v : V) (u : Value) (n : Nat), d ∈ ds → Den X.K F d v → RelV v u → HashAt X.prog X.w A.in1 { s with toks := s.toks + n } u (hsD d) (drD d)) :
    HashAt X.prog X.w A s (.ref a) (reduceHash (Builtin.Tuple.tupleHashOf (hsDs ds))) (drDs ds + 1) := by
  intro E Q h
  obtain ⟨o, ho, hc, n, hd⟩ := hT
  have hT : s.TypeIs (.ref a) "tuple" := ⟨o, ho, hc⟩
  unfold PySem.pyHash
  first | unfold pyHashByItsType | skip
  first | refine wpAny_bind (wpAny_cRoomFor_or (.inr hu) ?_) | skip
  refine wpAny_bind (wpAny_specialOf hT PySem.F.slot_tuple_hash.lookup ?_)
  show wpAny _ _ (if (some (Value.builtin "tuple.__hash__") == some Value.none) = true then _ else _) Q E s
  rw [if_neg (by rw [beq_builtin_none]; exact Bool.false_ne_true)]
  refine wpAny_bind (wpAny_specialOf hT PySem.F.slot_tuple_hash.lookup ?_)
  show wpAny _ _ (callSpecialIfBoundUnlessNone? (.ref a) "__hash__" _ >>= _) Q E s
  refine wpAny_bind (wpAny_callSpecialIfBoundUnlessNone?_slot hT PySem.F.slot_tuple_hash (wpAny_call_entry PySem.F.slot_tuple_hash hT PySem.F.entry_tuple_hash ?_ (PySem.F.args_tuple_hash_1 _)))
  show wpAny _ _ (Builtin.Tuple.tupleItemsOf (.ref a) >>= _) _ _ s
  refine wpAny_bind (wpAny_tupleItemsOf ho hd ?_)
  refine wpAny_bind ?_
  rw [← Array.forIn_toList]
  refine wpAny_forIn_list _
    (fun rest (b : Array Int) s' => ∃ done left vl, ds = done ++ left ∧ DenL X.K F left vl ∧ Vals vl rest ∧ b.toList = hsDs done ∧ s' = { s with toks := s.toks + drDs done })
    _ ?_ ?_ _ _ ⟨[], ds, vs, rfl, dl, by simpa using rv, rfl, rfl⟩
  · rintro x rest b s' ⟨done, left, vl, rfl, hl, hv, hb, rfl⟩
    cases hv with
    | @cons v _ vl' _ r1 hv' =>
      cases left with
      | nil => simp only [DenL] at hl; cases hl
      | cons d left' =>
        simp only [DenL] at hl
        obtain ⟨v', r', e, hd', hl'⟩ := hl
        cases e
        refine wpAny_bind (rec d v x _ (by simp) hd' r1 _ _ ?_)
        first
          | exact wpAny_pure ⟨done ++ [d], left', vl', by simp, hl', hv', by simp [hb, hsDs_snoc], by simp [drDs_snoc, Nat.add_assoc]⟩
          | exact wpAny_bind (wpAny_pure (wpAny_pure ⟨done ++ [d], left', vl', by simp, hl', hv', by simp [hb, hsDs_snoc], by simp [drDs_snoc, Nat.add_assoc]⟩))
  · rintro b s' ⟨done, left, vl, rfl, hl, hv, hb, rfl⟩
    cases hv
    cases left with
    | cons d left' => simp only [DenL] at hl; obtain ⟨_, _, e, _⟩ := hl; cases e
    | nil =>
    rw [List.append_nil] at h
    show wpAny _ _ (retInt (Builtin.Tuple.tupleHashOf b.toList)) _ _ _
    rw [hb]
    refine wpAny_ret_mkInt ?_
    show wpAny _ _ (if (decide (-(2 : Int) ^ 63 ≤ Builtin.Tuple.tupleHashOf (hsDs done)) && decide (Builtin.Tuple.tupleHashOf (hsDs done) < 2 ^ 63)) = true then _ else _) Q E _
    unfold reduceHash at h
    by_cases hr : (decide (-(2 : Int) ^ 63 ≤ Builtin.Tuple.tupleHashOf (hsDs done)) && decide (Builtin.Tuple.tupleHashOf (hsDs done) < 2 ^ 63)) = true
    · rw [if_pos hr]
      rw [if_pos hr] at h
      exact wpAny_pure (by simpa [Nat.add_assoc] using h)
    · rw [if_neg hr]
      rw [if_neg hr] at h
      exact wpAny_bind (wpAny_rule (wpAny_pure (by simpa [Nat.add_assoc] using h)))
theorem non_hash {s : Shared} {A : Around} (hu : A.units < cLine) : HashAt X.prog X.w A s .none 4238894112 1 := by
  intro E Q h
  have hT : s.TypeIs .none "NoneType" := rfl
  unfold PySem.pyHash
  first | unfold pyHashByItsType | skip
  first | refine wpAny_bind (wpAny_cRoomFor_or (.inr hu) ?_) | skip
  refine wpAny_bind (wpAny_specialOf hT PySem.F.slot_NoneType_hash.lookup ?_)
  show wpAny _ _ (if (some (Value.builtin "NoneType.__hash__") == some Value.none) = true then _ else _) Q E s
  rw [if_neg (by rw [beq_builtin_none]; exact Bool.false_ne_true)]
  refine wpAny_bind (wpAny_specialOf hT PySem.F.slot_NoneType_hash.lookup ?_)
  show wpAny _ _ (callSpecialIfBoundUnlessNone? .none "__hash__" _ >>= _) Q E s
  refine wpAny_bind (wpAny_callSpecialIfBoundUnlessNone?_slot hT PySem.F.slot_NoneType_hash (wpAny_call_entry PySem.F.slot_NoneType_hash hT PySem.F.entry_NoneType_hash ?_ (PySem.F.args_NoneType_hash_1 _)))
  show wpAny _ _ (retInt 4238894112) _ _ _
  refine wpAny_ret_mkInt ?_
  exact wpAny_pure h
mutual
theorem den_hash (fh : Same F H) : ∀ (d : D) (s : Shared) (A : Around) (v : V) (u : Value), Inv X pins σ H s → keyN d = true → A.units + dep d < cLine → Den X.K F d v → RelV v u → HashAt X.prog X.w A s u (hsD d) (drD d)
  | .int i, s, A, v, u, I, hk, hu, hd, r => by
    simp only [Den] at hd; subst hd
    obtain ⟨t, rfl⟩ := r
    intro E Q h
    exact (mixKind X.prog X.w).pyHash (k := .inl i) (keyIs_int i t) h
  | .tup ds, s, A, v, u, I, hk, hu, hd, r => by
    simp only [Den] at hd
    obtain ⟨a, vs, rfl, q, dl⟩ := hd
    cases r
    obtain ⟨its, rv, ht, hz⟩ := I.tuple (Same.seqT fh q)
    simp only [dep] at hu
    exact tup_hash (by omega) ht rv dl fun d v u n hm hd' r' => denL_hash fh ds d { s with toks := s.toks + n } A.in1 v u (I.tok _) (by simpa only [keyN] using hk) (by rw [units_in1]; omega) hm hd' r'
  | .non, s, A, v, u, I, hk, hu, hd, r => by
    simp only [Den] at hd; subst hd
    cases r
    exact non_hash (by simp only [dep] at hu; omega)
  | .bl _, _, _, _, _, _, hk, _, _, _ => by simp only [keyN, Bool.false_eq_true] at hk
  | .str _, _, _, _, _, _, hk, _, _, _ => by simp only [keyN, Bool.false_eq_true] at hk
  | .lst _, _, _, _, _, _, hk, _, _, _ => by simp only [keyN, Bool.false_eq_true] at hk
  | .dct _ _, _, _, _, _, _, hk, _, _, _ => by simp only [keyN, Bool.false_eq_true] at hk
  | .ty _, _, _, _, _, _, hk, _, _, _ => by simp only [keyN, Bool.false_eq_true] at hk
  | .exc _, _, _, _, _, _, hk, _, _, _ => by simp only [keyN, Bool.false_eq_true] at hk
  | .cls _, _, _, _, _, _, hk, _, _, _ => by simp only [keyN, Bool.false_eq_true] at hk
  | .obj _, _, _, _, _, _, hk, _, _, _ => by simp only [keyN, Bool.false_eq_true] at hk
theorem denL_hash (fh : Same F H) : ∀ (ds : List D) (d : D) (s : Shared) (A : Around) (v : V) (u : Value), Inv X pins σ H s → keyNs ds = true → A.units + depL ds < cLine → d ∈ ds → Den X.K F d v → RelV v u → HashAt X.prog X.w A s u (hsD d) (drD d)
  | [], d, s, A, v, u, I, hk, hu, hm, hd, r => by cases hm
  | x :: ds, d, s, A, v, u, I, hk, hu, hm, hd, r => by
    simp only [keyNs, Bool.and_eq_true] at hk
    simp only [depL] at hu
    by_cases c : d ∈ ds
    · exact denL_hash fh ds d s A v u I hk.2 (by omega) c hd r
    · have : d = x := (List.mem_cons.mp hm).elim id (fun e => absurd e c)
      rw [this] at hd ⊢
      exact den_hash fh x s A v u I hk.1 (by omega) hd r
end
def QuietN (prog : Program) (w : World) (A : Around) (s : Shared) (n : Nat) (v : Value) : Prop := ∀ (E : Value → Shared → Prop) (Q : Bool → Shared → Prop), Q true s → wpAny (model prog w) A (eqIsQuiet n v) Q E s
theorem tup_quiet {s : Shared} {a : Addr} {items : List Value} {A : Around} {n : Nat} (hT : IsTup s.heap a items.toArray)
    (rec : ∀ u ∈ items, QuietN X.prog X.w A s n u) : QuietN X.prog X.w A s (n + 1) (.ref a) := by
  intro E Q h
  obtain ⟨o, ho, hc, k, hd⟩ := hT
  have hT : s.TypeIs (.ref a) "tuple" := ⟨o, ho, hc⟩
  unfold eqIsQuiet
  refine wpAny_bind (wpAny_specialOf hT PySem.F.slot_tuple_eq.lookup ?_)
  show wpAny _ _ (isInstance (.ref a) (.type "tuple") >>= _) _ _ s
  refine wpAny_bind (wpAny_isInstance hT isSubtype_tuple_tuple ?_)
  simp only [Bool.not_true, Bool.false_eq_true, if_false]
  refine wpAny_bind (wpAny_seqItems ho hd ?_)
  refine wpAny_bind ?_
  show wpAny _ _ (forIn items.toArray _ _) _ _ s
  rw [← Array.forIn_toList]
  refine wpAny_forIn_list _ (fun rest r s' => r.1 = none ∧ s' = s ∧ ∀ v ∈ rest, QuietN X.prog X.w A s n v) _ ?_ ?_ _ _ ⟨rfl, rfl, by simpa using rec⟩
  · rintro v rest r s' ⟨hr, rfl, hall⟩
    refine wpAny_bind (hall v List.mem_cons_self _ _ ?_)
    simp only [Bool.not_true, Bool.false_eq_true, if_false]
    exact wpAny_pure ⟨rfl, rfl, fun u hu' => hall u (List.mem_cons_of_mem _ hu')⟩
  · rintro ⟨r1, r2⟩ s' ⟨hr, rfl, _⟩
    simp only at hr
    subst hr
    exact wpAny_pure h
mutual
theorem den_quiet (fh : Same F H) : ∀ (d : D) (s : Shared) (A : Around) (n : Nat) (v : V) (u : Value), Inv X pins σ H s → keyN d = true → dep d ≤ n → Den X.K F d v → RelV v u → QuietN X.prog X.w A s n u
  | .int i, s, A, n, v, u, I, hk, hu, hd, r => by
    simp only [Den] at hd; subst hd
    obtain ⟨t, rfl⟩ := r
    intro E Q h
    rw [eqIsQuiet_byValue n (v := .int i t) rfl]
    exact wpAny_pure h
  | .tup ds, s, A, n, v, u, I, hk, hu, hd, r => by
    simp only [Den] at hd
    obtain ⟨a, vs, rfl, q, dl⟩ := hd
    cases r
    obtain ⟨its, rv, ht, hz⟩ := I.tuple (Same.seqT fh q)
    simp only [dep] at hu
    cases n with
    | zero => omega
    | succ n => exact tup_quiet ht (denL_quiet fh ds s A n vs its I (by simpa only [keyN] using hk) (by omega) dl rv)
  | .non, s, A, n, v, u, I, hk, hu, hd, r => by
    simp only [Den] at hd; subst hd
    cases r
    intro E Q h
    rw [eqIsQuiet_byValue n (v := .none) rfl]
    exact wpAny_pure h
  | .bl _, _, _, _, _, _, _, hk, _, _, _ => by simp only [keyN, Bool.false_eq_true] at hk
  | .str _, _, _, _, _, _, _, hk, _, _, _ => by simp only [keyN, Bool.false_eq_true] at hk
  | .lst _, _, _, _, _, _, _, hk, _, _, _ => by simp only [keyN, Bool.false_eq_true] at hk
  | .dct _ _, _, _, _, _, _, _, hk, _, _, _ => by simp only [keyN, Bool.false_eq_true] at hk
  | .ty _, _, _, _, _, _, _, hk, _, _, _ => by simp only [keyN, Bool.false_eq_true] at hk
  | .exc _, _, _, _, _, _, _, hk, _, _, _ => by simp only [keyN, Bool.false_eq_true] at hk
  | .cls _, _, _, _, _, _, _, hk, _, _, _ => by simp only [keyN, Bool.false_eq_true] at hk
  | .obj _, _, _, _, _, _, _, hk, _, _, _ => by simp only [keyN, Bool.false_eq_true] at hk
theorem denL_quiet (fh : Same F H) : ∀ (ds : List D) (s : Shared) (A : Around) (n : Nat) (vs : List V) (us : List Value), Inv X pins σ H s → keyNs ds = true → depL ds ≤ n → DenL X.K F ds vs → Vals vs us → ∀ u ∈ us, QuietN X.prog X.w A s n u
  | [], s, A, n, vs, us, I, hk, hu, dl, rv, u, hm => by
    simp only [DenL] at dl; subst dl
    cases rv; cases hm
  | d :: ds, s, A, n, vs, us, I, hk, hu, dl, rv, u, hm => by
    simp only [DenL] at dl
    obtain ⟨v, r, rfl, a, b⟩ := dl
    simp only [keyNs, Bool.and_eq_true] at hk
    simp only [depL] at hu
    cases rv with
    | @cons _ x _ xs r1 rv' =>
      by_cases c : u ∈ xs
      · exact denL_quiet fh ds s A n r xs I hk.2 (by omega) b rv' u c
      · have : u = x := (List.mem_cons.mp hm).elim id (fun e => absurd e c)
        rw [this]
        exact den_quiet fh d s A n v x I hk.1 (by omega) a r1
end
end
end L2.L3
set_option Elab.async false
set_option linter.all false
set_option maxRecDepth 100000
set_option maxHeartbeats 4000000
namespace L2.L3
open PySem PySem.Spec PyProof.Rows
structure DicOk (kvs : List (D × D)) : Prop where
  key : ∀ kv ∈ kvs, keyN kv.1 = true ∧ dep kv.1 ≤ 8
  dif : ∀ (i j : Nat) (x y : D × D), kvs[i]? = some x → kvs[j]? = some y → x.1 = y.1 → i = j
def matN (kvs : List (D × D)) (d : D) (j : Nat) : Bool := match kvs[j]? with
  | some kv => eqD kv.1 d
  | none => false
section
variable {X : Cx} {pins : List (Addr × Obj)} {σ : St} {H F : Hp} {s : Shared} {kvs : List (D × D)} {us vs : List V} {p : Addr} {A : Around} {d : D} {v : V} {u : Value}
theorem dno_at (I : Inv X pins σ H s) {ep : Nat} {rows : List (Int × V × V)} (e : H p = some (DNo p ep rows)) : rows.length ≤ sizeLine ∧ (p == sysModules) = false ∧ ∃ es, DictHas s.heap p es ep ∧ Paired EntR rows es.toList := (I.hok p _ e).1
theorem pair_get {α β : Type} {R : α → β → Prop} : ∀ {xs : List α} {ys : List β} {i : Nat} {y : β}, Paired R xs ys → ys[i]? = some y → ∃ x, xs[i]? = some x ∧ R x y
  | _, _, _, _, .nil, e => by simp at e
  | _, _, 0, _, .cons r _, e => by simp at e; subst e; exact ⟨_, rfl, r⟩
  | _, _, i + 1, y, .cons _ t, e => by
    obtain ⟨x, h1, h2⟩ := pair_get (i := i) (y := y) t (by simpa using e)
    exact ⟨x, by simpa using h1, h2⟩
theorem rows_len (d1 : DenL X.K F (kvs.map (·.1)) us) (d2 : DenL X.K F (kvs.map (·.2)) vs) : (rowsN kvs us vs).length = kvs.length := by
  have l1 := d1.length
  have l2 := d2.length
  simp only [List.length_map] at l1 l2
  unfold rowsN
  simp only [List.length_zip, List.length_map, ← l1, ← l2, Nat.min_self]
theorem ent_at (d1 : DenL X.K F (kvs.map (·.1)) us) (d2 : DenL X.K F (kvs.map (·.2)) vs) {es : Array DictEntry} (pr : Paired EntR (rowsN kvs us vs) es.toList) {j : Nat} (hj : j < es.size) :
    ∃ kv a b, kvs[j]? = some kv ∧ us[j]? = some a ∧ vs[j]? = some b ∧ Den X.K F kv.1 a ∧ Den X.K F kv.2 b ∧ es[j].hash = hsD kv.1 ∧ RelV a es[j].key ∧ RelV b es[j].val := by
  have l := rows_len d1 d2
  have lp := Paired.length pr
  have hk : j < kvs.length := by rw [← l, lp]; simpa using hj
  obtain ⟨row, hr, e1, e2, e3⟩ := pair_get pr (y := es[j]) (i := j) (by simp [hj])
  have g0 : kvs[j]? = some kvs[j] := List.getElem?_eq_getElem hk
  obtain ⟨a, ha, da⟩ := d1.get (i := j) (d := kvs[j].1) (by rw [List.getElem?_map, g0]; rfl)
  obtain ⟨b, hb, db⟩ := d2.get (i := j) (d := kvs[j].2) (by rw [List.getElem?_map, g0]; rfl)
  have : row = (hsD kvs[j].1, a, b) := by
    unfold rowsN at hr
    rw [List.getElem?_zip_eq_some, List.getElem?_zip_eq_some, List.getElem?_map, g0] at hr
    obtain ⟨h1, h2, h3⟩ := hr
    rw [ha] at h2; rw [hb] at h3
    exact Prod.ext (Option.some.inj h1).symm (Prod.ext (Option.some.inj h2).symm (Option.some.inj h3).symm)
  subst this
  exact ⟨_, a, b, g0, ha, hb, da, db, e1, e2, e3⟩
theorem find_of (I : Inv X pins σ H s) (fh : Same F H) (ok : DicOk kvs) (d1 : DenL X.K F (kvs.map (·.1)) us) (d2 : DenL X.K F (kvs.map (·.2)) vs) {es : Array DictEntry} (pr : Paired EntR (rowsN kvs us vs) es.toList)
    (hk : keyN d = true) (hd : dep d ≤ 8) (hu : A.units + 8 < cLine) (dd : Den X.K F d v) (rv : RelV v u) : FindIn X.prog X.w A s es u (hsD d) (matN kvs d) := by
  have at_ := fun j hj => ent_at d1 d2 pr (j := j) hj
  have mat : ∀ j kv, kvs[j]? = some kv → matN kvs d j = eqD kv.1 d := fun j kv e => by unfold matN; rw [e]
  have kk : ∀ (j : Nat) (kv : D × D), kvs[j]? = some kv → keyN kv.1 = true ∧ dep kv.1 ≤ 8 := fun j kv e => ok.key kv (List.mem_of_getElem? e)
  refine ⟨fun j hj => ?_, fun j hj hm => ?_, fun i j hi hj h1 h2 => ?_, fun j hj he => ?_, ?_, fun j hj => ?_, ?_⟩
  · obtain ⟨kv, a, b, g0, g1, g2, da, db, e1, e2, e3⟩ := at_ j hj
    rw [mat j kv g0]
    have := (kk j kv g0).2
    exact eqAt_one I fh kv.1 d A a v _ _ (by omega) (by omega) (by omega) da dd e2 rv
  · obtain ⟨kv, a, b, g0, g1, g2, da, db, e1, e2, e3⟩ := at_ j hj
    rw [mat j kv g0] at hm
    rw [e1, keyN_eq kv.1 d (kk j kv g0).1 hm hk]
  · obtain ⟨kv, _, _, g0, _⟩ := at_ i hi
    obtain ⟨kw, _, _, f0, _⟩ := at_ j hj
    rw [mat i kv g0] at h1
    rw [mat j kw f0] at h2
    exact ok.dif i j kv kw g0 f0 (by rw [keyN_eq kv.1 d (kk i kv g0).1 h1 hk, keyN_eq kw.1 d (kk j kw f0).1 h2 hk])
  · obtain ⟨kv, a, b, g0, g1, g2, da, db, e1, e2, e3⟩ := at_ j hj
    rw [he] at e2
    have := e2.inj rv
    subst this
    have k1 := (kk j kv g0).2
    rw [e1, keyN_eq kv.1 d (kk j kv g0).1 (den_inj I fh kv.1 d a (by omega) (by omega) da dd) hk]
  · exact den_quiet fh d s A 8 v u I hk hd dd rv
  · obtain ⟨kv, a, b, g0, g1, g2, da, db, e1, e2, e3⟩ := at_ j hj
    exact den_quiet fh kv.1 s A 8 a _ I (kk j kv g0).1 (kk j kv g0).2 da e2
  · cases d with
    | int i => simp only [Den] at dd; subst dd; obtain ⟨t, rfl⟩ := rv; exact .inl ⟨i, t, rfl⟩
    | tup ds => simp only [Den] at dd; obtain ⟨a, _, rfl, _⟩ := dd; cases rv; exact .inr (.inl ⟨a, rfl⟩)
    | non => simp only [Den] at dd; subst dd; cases rv; exact .inr (.inr rfl)
    | _ => simp only [keyN, Bool.false_eq_true] at hk
def getN (kvs : List (D × D)) (d : D) : Option D := (kvs.find? fun kv => eqD kv.1 d).map (·.2)
def putN (kvs : List (D × D)) (d x : D) : List (D × D) := if (kvs.any fun kv => eqD kv.1 d) = true then kvs.map (fun kv => if eqD kv.1 d = true then (kv.1, x) else kv) else kvs ++ [(d, x)]
theorem getN_at (ok : DicOk kvs) (hk : keyN d = true) {x : D} (h : getN kvs d = some x) : ∃ (j : Nat) (kv : D × D), kvs[j]? = some kv ∧ eqD kv.1 d = true ∧ kv.2 = x := by
  unfold getN at h
  obtain ⟨kv, h1, h2⟩ := Option.map_eq_some_iff.mp h
  obtain ⟨j, hj⟩ := List.getElem?_of_mem (List.mem_of_find?_eq_some h1)
  have m := List.find?_some (p := fun kv : D × D => eqD kv.1 d) h1
  exact ⟨j, kv, hj, m, h2⟩
theorem dicGet (hu : A.units + 9 < cLine) (I : Inv X pins σ H s) (fh : Same F H) (ok : DicOk kvs) (d1 : DenL X.K F (kvs.map (·.1)) us) (d2 : DenL X.K F (kvs.map (·.2)) vs) {ep : Nat} (e : H p = some (DNo p ep (rowsN kvs us vs)))
    (hk : keyN d = true) (hd : dep d ≤ 8) (dd : Den X.K F d v) (rv : RelV v u) {x : D} (hx : getN kvs d = some x) {E : Value → Shared → Prop} {Q : Value → Shared → Prop}
    (h : ∀ w' u' s', Inv X pins σ H s' → Den X.K F x w' → RelV w' u' → Q u' s') : wpAny (model X.prog X.w) A (getItem (.ref p) u) Q E s := by
  obtain ⟨hz, hs, es, dh, pr⟩ := dno_at I e
  obtain ⟨j, kv, g0, m0, rfl⟩ := getN_at ok hk hx
  have lp := Paired.length pr
  rw [rows_len d1 d2] at lp
  have hj : j < es.size := by have := (List.getElem?_eq_some_iff.mp g0).1; simp at lp; omega
  obtain ⟨kv', a, b, g0', g1, g2, da, db, e1, e2, e3⟩ := ent_at d1 d2 pr hj
  rw [g0] at g0'; cases g0'
  refine getItem_gen (j := j) (den_hash fh d s A.in1 v u I hk (by rw [units_in1]; omega) dd rv) (find_of (I.tok _) fh ok d1 d2 pr hk hd (by rw [units_in1]; omega) dd rv) dh hj (by unfold matN; rw [g0]; exact m0) ?_
  exact h b _ _ (I.tok _) db e3
theorem dicIn (hu : A.units + 9 < cLine) (I : Inv X pins σ H s) (fh : Same F H) (ok : DicOk kvs) (d1 : DenL X.K F (kvs.map (·.1)) us) (d2 : DenL X.K F (kvs.map (·.2)) vs) {ep : Nat} (e : H p = some (DNo p ep (rowsN kvs us vs)))
    (hk : keyN d = true) (hd : dep d ≤ 8) (dd : Den X.K F d v) (rv : RelV v u) {E : Value → Shared → Prop} {Q : Bool → Shared → Prop}
    (h : ∀ s', Inv X pins σ H s' → Q (kvs.any fun kv => eqD kv.1 d) s') : wpAny (model X.prog X.w) A (contains (.ref p) u) Q E s := by
  obtain ⟨hz, hs, es, dh, pr⟩ := dno_at I e
  have lp := Paired.length pr
  rw [rows_len d1 d2] at lp
  refine contains_gen (den_hash fh d s A.in1 v u I hk (by rw [units_in1]; omega) dd rv) (find_of (I.tok _) fh ok d1 d2 pr hk hd (by rw [units_in1]; omega) dd rv) dh hs (fun hno => ?_) fun j hj hm => ?_
  · have : (kvs.any fun kv => eqD kv.1 d) = false := by
      rw [List.any_eq_false]
      intro kv hm
      obtain ⟨j, hj⟩ := List.getElem?_of_mem hm
      have := hno j (by have := (List.getElem?_eq_some_iff.mp hj).1; simp at lp; omega)
      unfold matN at this
      rw [hj] at this
      simpa using this
    have q := h { s with toks := s.toks + drD d } (I.tok _)
    rw [this] at q; exact q
  · have : (kvs.any fun kv => eqD kv.1 d) = true := by
      rw [List.any_eq_true]
      unfold matN at hm
      cases g : kvs[j]? with
      | none => rw [g] at hm; cases hm
      | some kv => rw [g] at hm; exact ⟨kv, List.mem_of_getElem? g, hm⟩
    have q := h { s with toks := s.toks + drD d } (I.tok _)
    rw [this] at q; exact q
end
end L2.L3
set_option Elab.async false
set_option linter.all false
set_option maxRecDepth 100000
set_option maxHeartbeats 4000000
namespace L2.L3
open PySem PySem.Spec PyProof.Rows
theorem paired_of {α β : Type} {R : α → β → Prop} : ∀ {xs : List α} {ys : List β}, xs.length = ys.length → (∀ (i : Nat) x y, xs[i]? = some x → ys[i]? = some y → R x y) → Paired R xs ys
  | [], [], _, _ => .nil
  | [], _ :: _, h, _ => by simp at h
  | _ :: _, [], h, _ => by simp at h
  | x :: xs, y :: ys, h, f => .cons (f 0 x y rfl rfl) (paired_of (by simpa using h) fun i a b h1 h2 => f (i + 1) a b (by simpa using h1) (by simpa using h2))
theorem rows_get {kvs : List (D × D)} {us vs : List V} {i : Nat} {row : Int × V × V} (h : (rowsN kvs us vs)[i]? = some row) : ∃ kv, kvs[i]? = some kv ∧ row.1 = hsD kv.1 ∧ us[i]? = some row.2.1 ∧ vs[i]? = some row.2.2 := by
  unfold rowsN at h
  rw [List.getElem?_zip_eq_some, List.getElem?_zip_eq_some, List.getElem?_map] at h
  obtain ⟨h1, h2, h3⟩ := h
  obtain ⟨kv, a, b⟩ := Option.map_eq_some_iff.mp h1
  exact ⟨kv, a, b.symm, h2, h3⟩
theorem put_set {kvs : List (D × D)} {d x : D} {j : Nat} {kv : D × D} (ok : DicOk kvs) (hk : keyN d = true) (hj : kvs[j]? = some kv) (hm : eqD kv.1 d = true) : kvs.map (fun kv => if eqD kv.1 d = true then (kv.1, x) else kv) = kvs.set j (kv.1, x) := by
  apply List.ext_getElem?
  intro i
  rw [List.getElem?_map]
  by_cases e : j = i
  · subst e
    rw [List.getElem?_set_self (List.getElem?_eq_some_iff.mp hj).1, hj]
    simp only [Option.map_some, if_pos hm]
  · rw [List.getElem?_set_ne e]
    cases g : kvs[i]? with
    | none => rfl
    | some kw =>
      simp only [Option.map_some]
      rw [if_neg]
      intro hw
      exact e (ok.dif j i kv kw hj g (by rw [keyN_eq kv.1 d (ok.key kv (List.mem_of_getElem? hj)).1 hm hk, keyN_eq kw.1 d (ok.key kw (List.mem_of_getElem? g)).1 hw hk]))
theorem map_set_fst {kvs : List (D × D)} {j : Nat} {kv : D × D} {x : D} (hj : kvs[j]? = some kv) : (kvs.set j (kv.1, x)).map (·.1) = kvs.map (·.1) := by
  apply List.ext_getElem?
  intro i
  rw [List.getElem?_map, List.getElem?_map]
  by_cases e : j = i
  · subst e
    rw [List.getElem?_set_self (List.getElem?_eq_some_iff.mp hj).1, hj]; rfl
  · rw [List.getElem?_set_ne e]
theorem map_set_snd {kvs : List (D × D)} {j : Nat} {y x : D} : (kvs.set j (y, x)).map (·.2) = (kvs.map (·.2)).set j x := by
  rw [List.map_set]
section
variable {X : Cx} {pins : List (Addr × Obj)} {σ : St} {H F : Hp} {s : Shared} {kvs : List (D × D)} {us vs : List V} {p : Addr} {A : Around} {d x : D} {v w : V} {u r : Value}
theorem dicPut (hu : A.units + 9 < cLine) (I : Inv X pins σ H s) (fh : Same F H) (ok : DicOk kvs) (d1 : DenL X.K F (kvs.map (·.1)) us) (d2 : DenL X.K F (kvs.map (·.2)) vs) {ep : Nat} (e : H p = some (DNo p ep (rowsN kvs us vs)))
    (hk : keyN d = true) (hd : dep d ≤ 8) (dd : Den X.K F d v) (rv : RelV v u) (dx : Den X.K F x w) (rw' : RelV w r) (hl : kvs.length < sizeLine) {E : Value → Shared → Prop} {Q : Unit → Shared → Prop}
    (h : ∀ ep' us' vs' s', DenL X.K F ((putN kvs d x).map (·.1)) us' → DenL X.K F ((putN kvs d x).map (·.2)) vs' → Inv X pins σ (upd H p (DNo p ep' (rowsN (putN kvs d x) us' vs'))) s' → Q () s') : wpAny (model X.prog X.w) A (setItem (.ref p) u r) Q E s := by
  obtain ⟨hz, hs, es, dh, pr⟩ := dno_at I e
  have lp := Paired.length pr
  have l0 := rows_len d1 d2
  rw [l0] at lp hz
  have lp' : kvs.length = es.size := by simpa using lp
  have l1 := d1.length
  have l2 := d2.length
  simp only [List.length_map] at l1 l2
  have ext : ∀ (ep' : Nat) (rows : List (Int × V × V)) (h' : Heap) (es' : Array DictEntry), rows.length ≤ sizeLine → DictHas h' p es' ep' → Paired EntR rows es'.toList → ObjOk X.prog X.w (upd H p (DNo p ep' rows)) h' p (DNo p ep' rows) := fun ep' rows h' es' z dh' pr' => by
    refine ⟨⟨z, hs, es', dh', pr'⟩, ?_, ?_⟩
    · obtain ⟨o, ho, _⟩ := dh'; exact ⟨o, ho⟩
    · rintro h1 h2 ⟨z, hs, es, ⟨o, ho, c, dd⟩, pr⟩ k
      exact ⟨z, hs, es, ⟨o, k _ ho, c, dd⟩, pr⟩
  have hash := den_hash fh d s A.in1 v u I hk (by rw [units_in1]; omega) dd rv
  have find := find_of (I.tok (s.toks + drD d)) fh ok d1 d2 pr hk hd (A := A.in1) (by rw [units_in1]; omega) dd rv
  refine setItem_gen hash find dh (by omega) (fun hno h' dh' sb => ?_) fun j hj hm h' dh' sb => ?_
  · have any : (kvs.any fun kv => eqD kv.1 d) = false := by
      rw [List.any_eq_false]
      intro kv hm
      obtain ⟨j, hj⟩ := List.getElem?_of_mem hm
      have := hno j (by have := (List.getElem?_eq_some_iff.mp hj).1; omega)
      unfold matN at this
      rw [hj] at this
      simpa using this
    have pe : putN kvs d x = kvs ++ [(d, x)] := by unfold putN; rw [any]; rfl
    have q1 : DenL X.K F ((putN kvs d x).map (·.1)) (us ++ [v]) := by rw [pe, List.map_append]; exact d1.append (denL_cons dd denL_nil)
    have q2 : DenL X.K F ((putN kvs d x).map (·.2)) (vs ++ [w]) := by rw [pe, List.map_append]; exact d2.append (denL_cons dx denL_nil)
    refine h _ _ _ _ q1 q2 (d_write I (by rw [e]; exact True.intro) sb (let ⟨o, ho, _⟩ := dh'; ⟨o, ho⟩) (ext _ _ h' _ ?_ dh' ?_))
    · rw [rows_len q1 q2, pe]; simp; omega
    · refine paired_of (by rw [rows_len q1 q2, pe]; simp; omega) fun i row en h1 h2 => ?_
      obtain ⟨kv, k1, k2, k3, k4⟩ := rows_get h1
      rw [pe] at k1
      simp only [Array.toList_push] at h2
      by_cases c : i < kvs.length
      · rw [List.getElem?_append_left c] at k1
        rw [List.getElem?_append_left (by omega)] at k3 k4
        rw [List.getElem?_append_left (by simp; omega)] at h2
        obtain ⟨row', g1, g2⟩ := pair_get pr h2
        obtain ⟨kv', f1, f2, f3, f4⟩ := rows_get g1
        rw [f1] at k1; cases k1
        rw [f3] at k3
        rw [f4] at k4
        have : row' = row := Prod.ext (by rw [f2, k2]) (Prod.ext (Option.some.inj k3) (Option.some.inj k4))
        rw [← this]; exact g2
      · have hi : i = kvs.length := by
          have := (List.getElem?_eq_some_iff.mp k1).1
          simp at this; omega
        rw [hi, List.getElem?_append_right (Nat.le_refl _), Nat.sub_self] at k1
        rw [show i = us.length by omega, List.getElem?_append_right (Nat.le_refl _), Nat.sub_self] at k3
        rw [show i = vs.length by omega, List.getElem?_append_right (Nat.le_refl _), Nat.sub_self] at k4
        rw [show i = es.toList.length by simp; omega, List.getElem?_append_right (Nat.le_refl _), Nat.sub_self] at h2
        cases k1; cases h2
        have a3 : v = row.2.1 := Option.some.inj k3
        have a4 : w = row.2.2 := Option.some.inj k4
        exact ⟨k2.symm, by rw [← a3]; exact rv, by rw [← a4]; exact rw'⟩
  · obtain ⟨kv, a, b, g0, g1, g2, da, db, e1, e2, e3⟩ := ent_at d1 d2 pr hj
    unfold matN at hm
    rw [g0] at hm
    have any : (kvs.any fun kv => eqD kv.1 d) = true := List.any_eq_true.mpr ⟨kv, List.mem_of_getElem? g0, hm⟩
    have pe : putN kvs d x = kvs.set j (kv.1, x) := by unfold putN; rw [any, if_pos rfl]; exact put_set ok hk g0 hm
    have q1 : DenL X.K F ((putN kvs d x).map (·.1)) us := by rw [pe, map_set_fst g0]; exact d1
    have q2 : DenL X.K F ((putN kvs d x).map (·.2)) (vs.set j w) := by rw [pe, map_set_snd]; exact DenL.set dx j d2
    refine h _ _ _ _ q1 q2 (d_write I (by rw [e]; exact True.intro) sb (let ⟨o, ho, _⟩ := dh'; ⟨o, ho⟩) (ext _ _ h' _ ?_ dh' ?_))
    · rw [rows_len q1 q2, pe]; simp; omega
    · refine paired_of (by rw [rows_len q1 q2, pe]; simp; omega) fun i row en h1 h2 => ?_
      obtain ⟨kw, k1, k2, k3, k4⟩ := rows_get h1
      rw [pe] at k1
      rw [Array.getElem?_toList, Array.getElem?_modify] at h2
      by_cases c : j = i
      · subst c
        rw [if_pos rfl, Array.getElem?_eq_getElem hj] at h2
        rw [List.getElem?_set_self (by omega)] at k1 k4
        cases k1; cases h2
        rw [g1] at k3
        have a3 : a = row.2.1 := Option.some.inj k3
        have a4 : w = row.2.2 := Option.some.inj k4
        exact ⟨by rw [k2]; exact e1, by rw [← a3]; exact e2, by rw [← a4]; exact rw'⟩
      · rw [if_neg c, ← Array.getElem?_toList] at h2
        rw [List.getElem?_set_ne c] at k1 k4
        obtain ⟨row', f0, f1⟩ := pair_get pr h2
        obtain ⟨kv', t1, t2, t3, t4⟩ := rows_get f0
        rw [t1] at k1; cases k1
        rw [t3] at k3
        rw [t4] at k4
        have : row' = row := Prod.ext (by rw [t2, k2]) (Prod.ext (Option.some.inj k3) (Option.some.inj k4))
        rw [← this]; exact f1
end
end L2.L3
set_option Elab.async false
set_option linter.all false
set_option maxRecDepth 100000
set_option maxHeartbeats 4000000
namespace L2.L3
open PySem PySem.Spec PyProof.Rows
section
variable {K : PySem.W.Frag} {B : Base} {F H F' H' : Hp} {σ : St} {e : En}
theorem set_own_ne {e : En} {i j : Nat} {l : Lo} {xs : List D} (hl : ∀ z, l ≠ .own z) (q : (e.set i (some l))[j]? = some (some (.own xs))) : i ≠ j := fun z => by
  subst z
  by_cases w : i < e.length
  · rw [List.getElem?_set_self w] at q; cases q; exact hl _ rfl
  · rw [List.getElem?_eq_none (by simpa using w)] at q; cases q
theorem set_d_ne {e : En} {i j : Nat} {l : Lo} {x : D} (hl : ∀ z, l ≠ .d z) (q : (e.set i (some l))[j]? = some (some (.d x))) : i ≠ j := fun z => by
  subst z
  by_cases w : i < e.length
  · rw [List.getElem?_set_self w] at q; cases q; exact hl _ rfl
  · rw [List.getElem?_eq_none (by simpa using w)] at q; cases q
theorem Rep.setDic (r : Rep K B F H σ e) {i : Nat} {p : Addr} (h : H p = none) (hl : i < σ.length) :
    Rep K B F (upd H p (DNo p 0 [])) (σ.set i (some (.ref p))) (e.set i (some (.dic []))) := by
  have r1 := r.loose (o := DNo p 0 []) h
  have hb : B.H p = none := r.h0.free h
  have old : ∀ (j : Nat) (ys : List (D × D)), e[j]? = some (some (.dic ys)) → σ[j]? ≠ some (some (.ref p)) := fun j ys q z => by
    obtain ⟨q1, _, _, _, h1, h2, _⟩ := r.mv j ys q
    rw [z] at h1; cases h1; rw [h] at h2; cases h2
  refine ⟨r1.f0, r1.fh, r1.h0, r1.nf, fun j y q => ?_, fun j y q => ?_, fun j k ys zs q hjk q1 q2 q3 q4 => ?_, fun j y q => ?_, fun j k ys zs q hjk q1 q2 q3 q4 => ?_⟩
  · have z := set_d_ne (fun _ w => by cases w) q
    rw [List.getElem?_set_ne z] at q ⊢; exact r1.dv j y q
  · have z := set_own_ne (fun _ w => by cases w) q
    rw [List.getElem?_set_ne z] at q ⊢; exact r1.ov j y q
  · have z1 := set_own_ne (fun _ w => by cases w) q1
    have z2 := set_own_ne (fun _ w => by cases w) q2
    rw [List.getElem?_set_ne z1] at q1 q3
    rw [List.getElem?_set_ne z2] at q2 q4
    exact r.ne j k ys zs q hjk q1 q2 q3 q4
  · by_cases z : i = j
    · subst z
      by_cases w : i < e.length
      · rw [List.getElem?_set_self w] at q
        cases q
        exact ⟨p, 0, [], [], List.getElem?_set_self hl, upd_same, r.fnone h, hb, denL_nil, denL_nil⟩
      · rw [List.getElem?_eq_none (by simpa using w)] at q; cases q
    · rw [List.getElem?_set_ne z] at q ⊢; exact r1.mv j y q
  · by_cases z1 : i = j
    · subst z1
      rw [List.getElem?_set_ne hjk] at q2 q4
      rw [List.getElem?_set_self hl] at q3
      cases q3
      exact old k zs q2 q4
    · rw [List.getElem?_set_ne z1] at q1 q3
      by_cases z2 : i = k
      · subst z2
        rw [List.getElem?_set_self hl] at q4
        cases q4
        exact old j ys q1 q3
      · rw [List.getElem?_set_ne z2] at q2 q4
        exact r.nm j k ys zs q hjk q1 q2 q3 q4
theorem Rep.changeDic (r : Rep K B F H σ e) {i : Nat} {p : Addr} (ep : Nat) {us vs : List V} {xs ys : List (D × D)} (h : e[i]? = some (some (.dic xs))) (hp : σ[i]? = some (some (.ref p))) (hd : DenL K F (ys.map (·.1)) us) (hd' : DenL K F (ys.map (·.2)) vs) :
    Rep K B F (upd H p (DNo p ep (rowsN ys us vs))) σ (e.set i (some (.dic ys))) := by
  obtain ⟨p', _, _, _, h1, h2, h3, h4, _⟩ := r.mv i xs h
  rw [hp] at h1; cases h1
  have wl : i < e.length := (List.getElem?_eq_some_iff.mp h).1
  have fk : ∀ q o, F q = some o → q ≠ p := fun q o z w => by subst w; rw [h3] at z; cases z
  have bk : ∀ q o, B.H q = some o → q ≠ p := fun q o z w => by subst w; rw [h4] at z; cases z
  have dicAt : ∀ (j : Nat) (zs : List (D × D)), (e.set i (some (.dic ys)))[j]? = some (some (.dic zs)) → ∃ ws, e[j]? = some (some (.dic ws)) := fun j zs q => by
    by_cases z : i = j
    · subst z; exact ⟨xs, h⟩
    · rw [List.getElem?_set_ne z] at q; exact ⟨zs, q⟩
  refine ⟨r.f0, fun b o z => by rw [upd_ne (fk b o z)]; exact r.fh _ _ z, fun b o z => by rw [upd_ne (bk b o z)]; exact r.h0 _ _ z, r.nf, fun j y q => ?_, fun j y q => ?_, fun j k as bs q hjk q1 q2 q3 q4 => ?_, fun j y q => ?_, fun j k as bs q hjk q1 q2 q3 q4 => ?_⟩
  · have z := set_d_ne (fun _ w => by cases w) q
    rw [List.getElem?_set_ne z] at q; exact r.dv j y q
  · have z := set_own_ne (fun _ w => by cases w) q
    rw [List.getElem?_set_ne z] at q
    obtain ⟨p2, us, g1, g2, g3, g4, g5⟩ := r.ov j y q
    have : p2 ≠ p := fun w => by subst w; rw [h2] at g2; cases g2
    exact ⟨p2, us, g1, by rw [upd_ne this]; exact g2, g3, g4, g5⟩
  · have z1 := set_own_ne (fun _ w => by cases w) q1
    have z2 := set_own_ne (fun _ w => by cases w) q2
    rw [List.getElem?_set_ne z1] at q1
    rw [List.getElem?_set_ne z2] at q2
    exact r.ne j k as bs q hjk q1 q2 q3 q4
  · by_cases z : i = j
    · subst z
      rw [List.getElem?_set_self wl] at q
      cases q
      exact ⟨p, ep, us, vs, hp, upd_same, h3, h4, hd, hd'⟩
    · rw [List.getElem?_set_ne z] at q
      obtain ⟨p2, ep2, as, bs, g1, g2, g3, g4, g5⟩ := r.mv j y q
      have : p2 ≠ p := fun w => by subst w; exact r.nm j i y xs p2 (Ne.symm z) q h g1 hp
      exact ⟨p2, ep2, as, bs, g1, by rw [upd_ne this]; exact g2, g3, g4, g5⟩
  · obtain ⟨as', w1⟩ := dicAt j as q1
    obtain ⟨bs', w2⟩ := dicAt k bs q2
    exact r.nm j k as' bs' q hjk w1 w2 q3 q4
def DicN (kvs : List (D × D)) : PySem.W.Frag → Hp → Addr → Prop := fun K G a => ∃ ep us vs, G a = some (DNo a ep (rowsN kvs us vs)) ∧ DenL K G (kvs.map (·.1)) us ∧ DenL K G (kvs.map (·.2)) vs
theorem Rep.freezeDic (r : Rep K B F H σ e) {i : Nat} {xs : List (D × D)} (h : e[i]? = some (some (.dic xs))) : ∃ F', Same F F' ∧ Rep K B F' H σ (e.set i (some (.d (.obj (DicN xs))))) := by
  obtain ⟨p, ep, us, vs, h1, h2, h3, h4, h5, h6⟩ := r.mv i xs h
  have wl : i < e.length := (List.getElem?_eq_some_iff.mp h).1
  have s1 : Same F (upd F p (DNo p ep (rowsN xs us vs))) := same_upd h3
  refine ⟨upd F p (DNo p ep (rowsN xs us vs)), s1, r.f0.trans s1, fun b o z => ?_, r.h0, fun q hq => ?_, fun j y q => ?_, fun j y q => ?_, fun j k as bs q hjk q1 q2 q3 q4 => ?_, fun j y q => ?_, fun j k as bs q hjk q1 q2 q3 q4 => ?_⟩
  · by_cases w : b = p
    · subst w; rw [upd_same] at z; cases z; exact h2
    · rw [upd_ne w] at z; exact r.fh _ _ z
  · have : q ≠ p := fun w => by subst w; exact B.nb _ hq h4
    rw [upd_ne this]; exact r.nf q hq
  · by_cases z : i = j
    · subst z
      rw [List.getElem?_set_self wl] at q
      cases q
      refine ⟨_, h1, ?_⟩
      simp only [Den]
      exact ⟨p, rfl, fun G sG => ⟨ep, us, vs, sG _ _ upd_same, DenL.mono (s1.trans sG) _ _ h5, DenL.mono (s1.trans sG) _ _ h6⟩⟩
    · rw [List.getElem?_set_ne z] at q
      obtain ⟨v, a, b⟩ := r.dv j y q
      exact ⟨v, a, Den.mono s1 _ _ b⟩
  · have z := set_own_ne (fun _ w => by cases w) q
    rw [List.getElem?_set_ne z] at q
    obtain ⟨p2, us, g1, g2, g3, g4, g5⟩ := r.ov j y q
    have : p2 ≠ p := fun w => by subst w; rw [h2] at g2; cases g2
    exact ⟨p2, us, g1, g2, by rw [upd_ne this]; exact g3, g4, DenL.mono s1 _ _ g5⟩
  · have z1 := set_own_ne (fun _ w => by cases w) q1
    have z2 := set_own_ne (fun _ w => by cases w) q2
    rw [List.getElem?_set_ne z1] at q1
    rw [List.getElem?_set_ne z2] at q2
    exact r.ne j k as bs q hjk q1 q2 q3 q4
  · have z : i ≠ j := set_dic_ne (fun _ w => by cases w) q
    rw [List.getElem?_set_ne z] at q
    obtain ⟨p2, ep2, as, bs, g1, g2, g3, g4, g5, g6⟩ := r.mv j y q
    have : p2 ≠ p := fun w => by subst w; exact r.nm j i y xs p2 (Ne.symm z) q h g1 h1
    exact ⟨p2, ep2, as, bs, g1, g2, by rw [upd_ne this]; exact g3, g4, DenL.mono s1 _ _ g5, DenL.mono s1 _ _ g6⟩
  · have z1 := set_dic_ne (fun _ w => by cases w) q1
    have z2 := set_dic_ne (fun _ w => by cases w) q2
    rw [List.getElem?_set_ne z1] at q1
    rw [List.getElem?_set_ne z2] at q2
    exact r.nm j k as bs q hjk q1 q2 q3 q4
end
end L2.L3
set_option Elab.async false
set_option linter.all false
set_option maxRecDepth 100000
set_option maxHeartbeats 4000000
namespace L2.L3
open PySem PySem.Spec PyProof.Rows
theorem dno_empty {P : Program} {w : World} {H : Hp} (h : Heap) (hb : sysModules < h.objs.size) : ObjOk P w H (h.push { cls := .type "dict", data := .dict #[] }) h.objs.size (DNo h.objs.size 0 []) := by
  have dh := DictHas.new h
  refine ⟨⟨Nat.zero_le _, beq_eq_false_iff_ne.mpr (Ne.symm (Nat.ne_of_lt hb)), #[], dh, .nil⟩, ?_, ?_⟩
  · obtain ⟨o, ho, _⟩ := dh; exact ⟨o, ho⟩
  · rintro h1 h2 ⟨z, hs, es, ⟨o, ho, c, dd⟩, pr⟩ k
    exact ⟨z, hs, es, ⟨o, k _ ho, c, dd⟩, pr⟩
def tDNewN : TE := fun _ H Q => ∀ p, H p = none → Q (.ref p) (upd H p (DNo p 0 []))
def sNPut (X : Cx) (td ty tv : TE) : TS := fun D σ H => tv σ H fun v H1 => td σ H1 fun x H2 => ty σ H2 fun y H3 => ∃ p ep F kvs us vs d z, x = .ref p ∧ Same F H3 ∧ DicOk kvs ∧ DenL X.K F (kvs.map (·.1)) us ∧ DenL X.K F (kvs.map (·.2)) vs ∧ H3 p = some (DNo p ep (rowsN kvs us vs)) ∧
  keyN d = true ∧ dep d ≤ 8 ∧ Den X.K F d y ∧ Den X.K F z v ∧ kvs.length < sizeLine ∧ ∀ ep' us' vs', DenL X.K F ((putN kvs d z).map (·.1)) us' → DenL X.K F ((putN kvs d z).map (·.2)) vs' → D.nx σ (upd H3 p (DNo p ep' (rowsN (putN kvs d z) us' vs')))
def tNGet (X : Cx) (td ty : TE) : TE := fun σ H Q => td σ H fun x H1 => ty σ H1 fun y H2 => ∃ p ep F kvs us vs d z, x = .ref p ∧ Same F H2 ∧ DicOk kvs ∧ DenL X.K F (kvs.map (·.1)) us ∧ DenL X.K F (kvs.map (·.2)) vs ∧ H2 p = some (DNo p ep (rowsN kvs us vs)) ∧
  keyN d = true ∧ dep d ≤ 8 ∧ Den X.K F d y ∧ getN kvs d = some z ∧ ∀ w, Den X.K F z w → Q w H2
section
variable {X : Cx} {o i e value a b : Expr} {pos pos' tpos : Pos} {td ty tv : TE} {ta tb : TD}
theorem pe_dnewN : PE X (.Dict [] [] pos) tDNewN := fun pins s σ H Q I h =>
  wpAny_Dict_empty ⟨.ref s.heap.objs.size, _, I.laid (a := s.heap.objs.size) (o := DNo s.heap.objs.size 0 []) (t' := s.toks) (fun _ _ q => Heap.get?_push_of_some _ q) (Nat.le_refl _) (dno_empty s.heap I.big), rfl, h _ (I.hok.fresh (Nat.le_refl _))⟩
theorem ps_nput (hu : X.A.units + 64 < cLine) (ho : PE X o td) (hi : PE X i ty) (hv : PE X value tv) (hs : swapsWith value (some (.Subscript o i pos')) pos.line X.env = pure false) :
    PS X (.Assign [.Subscript o i pos'] value pos) (sNPut X td ty tv) := by
  intro pins s σ H D I h
  refine wpAny_Assign_Subscript (thn (hv pins s σ H _ I h) fun r s1 ⟨v, H1, I1, rv, q1⟩ => thn (ho pins s1 σ H1 _ I1 q1) fun u s2 ⟨x, H2, I2, rx, q2⟩ => thn (hi pins s2 σ H2 _ I2 q2) fun iv s3 ⟨y, H3, I3, ry, p, ep, F, kvs, us, vs, d, z, ex, fh, ok, d1, d2, e, hk, hd, dd, dz, hl, q3⟩ => ?_) hs
  subst ex
  obtain rfl : u = Value.ref p := rx
  exact dicPut (by omega) I3 fh ok d1 d2 e hk hd dd ry dz rv hl fun ep' us' vs' s4 e1 e2 I4 => ⟨σ, _, I4, q3 ep' us' vs' e1 e2⟩
theorem pe_nget (hu : X.A.units + 64 < cLine) (ho : PE X a td) (hi : PE X b ty) (hs : NoSl b) : PE X (.Subscript a b pos) (tNGet X td ty) := by
  intro pins s σ H Q I h
  refine subD_of PySem.F.slot_dict_getitem.lookup hs (thn (ho pins s σ H _ I h) fun u s1 ⟨x, H1, I1, rx, q1⟩ => thn (hi pins s1 σ H1 _ I1 q1) fun iv s2 ⟨y, H2, I2, ry, p, ep, F, kvs, us, vs, d, z, ex, fh, ok, d1, d2, e, hk, hd, dd, hz, q2⟩ => ?_)
  subst ex
  obtain rfl : u = Value.ref p := rx
  refine ⟨?_, dicGet (by omega) I2 fh ok d1 d2 e hk hd dd ry hz fun w' u' s3 I3 dw rw' => ⟨w', H2, I3, rw', q2 w' dw⟩⟩
  obtain ⟨_, _, es, dh, _⟩ := dno_at I2 e
  exact dh.typeIs
def dDicNew (i : Nat) : TS3 := fun D env => D.nx (env.set i (some (.dic [])))
theorem qs_dicNew {x : Str} {pd : Pos} (i : Nat) (hN : X.N.Nodup) (hi : X.N[i]? = some x := by rfl) (hx : Loc X.env.scope x := by first | exact Or.inl rfl | exact Or.inr rfl) (hs : swapsWith (.Dict [] [] pd) (some (.Name x pos')) pos.line X.env = pure false := by rfl)
    (hf : X.fn x = true ∨ X.env.scope.names.lookup x = some .local := by first | exact .inl rfl | exact .inr rfl) : QS X (.Assign [.Name x pos'] (.Dict [] [] pd) pos) (dDicNew i) := by
  refine ⟨fun B σ F H env D rp h pins s I => ?_⟩
  refine ps_set (i := i) hN hi hx pe_dnewN hs hf pins s σ H _ I fun p hp => ?_
  exact ⟨F, _, rp.setDic hp (by rw [I.len]; exact (List.getElem?_eq_some_iff.mp hi).1), h⟩
def dDicPut (i : Nat) (tk tv : TD) : TS3 := fun Z env => tv env fun v => ∃ kvs, env[i]? = some (some (.dic kvs)) ∧ tk env fun k => keyN k = true ∧ dep k ≤ 8 ∧ DicOk kvs ∧ kvs.length < sizeLine ∧ Z.nx (env.set i (some (.dic (putN kvs k v))))
theorem qs_dicPut {x : Str} {px p2 : Pos} (i : Nat) (hu : X.A.units + 64 < cLine) (hb : QE X b tb) (he : QE X e ta) (hN : X.N[i]? = some x := by rfl) (hv : Vis X.env.scope x := by first | exact Or.inl rfl | exact Or.inr (Or.inl rfl) | exact Or.inr (Or.inr rfl)) (hd : (x == ("__debug__" : Str)) = false := by decide)
    (hcd : (x == ("__classdict__" : Str)) = false := by decide) (hs : swapsWith e (some (.Subscript (.Name x px) b p2)) pos.line X.env = pure false := by rfl) : QS X (.Assign [.Subscript (.Name x px) b p2] e pos) (dDicPut i tb ta) := by
  refine ⟨fun B σ F H env Z rp h => ?_⟩
  refine wS_of (ps_nput hu (pe_var hN hv hd hcd) pe_w pe_w hs) ?_
  refine wE_mono (he B σ F H env _ rp h) fun y H1 ⟨F1, d, r1, s1, d1, kvs, hx, q1⟩ => ?_
  obtain ⟨p, ep, us, vs, g1, g2, g3, g4, g5, g6⟩ := r1.mv i kvs hx
  refine ⟨.ref p, g1, ?_⟩
  refine wE_mono (hb B σ F1 H1 env _ r1 q1) fun z H2 ⟨F2, d2, r2, s2, dd2, hk, hdp, ok, hl, q2⟩ => ?_
  obtain ⟨p', ep', us', vs', e1, e2, e3, e4, e5, e6⟩ := r2.mv i kvs hx
  rw [g1] at e1; cases e1
  exact ⟨p, ep', F2, kvs, us', vs', d2, d, rfl, r2.fh, ok, e5, e6, e2, hk, hdp, dd2, Den.mono s2 _ _ d1, hl, fun ep2 as bs f1 f2 => ⟨F2, _, r2.changeDic ep2 hx g1 f1 f2, q2⟩⟩
def cDicGet (i : Nat) (tk : TD) : TD := fun env Q => ∃ kvs, env[i]? = some (some (.dic kvs)) ∧ tk env fun k => ∃ v, keyN k = true ∧ dep k ≤ 8 ∧ DicOk kvs ∧ getN kvs k = some v ∧ Q v
theorem q_dicGet {x : Str} {px : Pos} (i : Nat) (hu : X.A.units + 64 < cLine) (hb : QE X b tb) (hs : NoSl b) (hN : X.N[i]? = some x := by rfl) (hv : Vis X.env.scope x := by first | exact Or.inl rfl | exact Or.inr (Or.inl rfl) | exact Or.inr (Or.inr rfl)) (hd : (x == ("__debug__" : Str)) = false := by decide)
    (hcd : (x == ("__classdict__" : Str)) = false := by decide) : QE X (.Subscript (.Name x px) b pos) (cDicGet i tb) := by
  refine ⟨fun B σ F H env Q rp h => ?_⟩
  refine wE_of (pe_nget hu (pe_var hN hv hd hcd) pe_w hs) ?_
  obtain ⟨kvs, hx, h⟩ := h
  obtain ⟨p, ep, us, vs, g1, g2, g3, g4, g5, g6⟩ := rp.mv i kvs hx
  refine ⟨.ref p, g1, ?_⟩
  refine wE_mono (hb B σ F H env _ rp h) fun z H2 ⟨F2, d2, r2, s2, dd2, v, hk, hdp, ok, hl, q2⟩ => ?_
  obtain ⟨p', ep', us', vs', e1, e2, e3, e4, e5, e6⟩ := r2.mv i kvs hx
  rw [g1] at e1; cases e1
  exact ⟨p, ep', F2, kvs, us', vs', d2, v, rfl, r2.fh, ok, e5, e6, e2, hk, hdp, dd2, hl, fun w dw => ⟨F2, v, r2, s2, dw, q2⟩⟩
def dgN (x y : D) (Q : D → Prop) : Prop := ∃ kvs v, x = .obj (DicN kvs) ∧ keyN y = true ∧ dep y ≤ 8 ∧ DicOk kvs ∧ getN kvs y = some v ∧ Q v
theorem q_dixN (hu : X.A.units + 64 < cLine) (ha : QE X a ta) (hb : QE X b tb) (hs : NoSl b) : QE X (.Subscript a b pos) (cOp dgN ta tb) := by
  refine ⟨fun B σ F H env Q rp h => wE_of (pe_nget hu pe_w pe_w hs) ?_⟩
  refine wE_mono (ha B σ F H env _ rp h) fun x H1 ⟨F1, d, r1, s1, d1, q1⟩ => ?_
  refine wE_mono (hb B σ F1 H1 env _ r1 q1) fun y H2 ⟨F2, d', r2, s2, d2, kvs, v, e1, hk, hd, ok, hv, q⟩ => ?_
  subst e1
  have d1' := Den.mono s2 _ _ d1
  simp only [Den] at d1'
  obtain ⟨p, rfl, hp⟩ := d1'
  obtain ⟨ep, us, vs, hg, g1, g2⟩ := hp F2 (Same.refl _)
  exact ⟨p, ep, F2, kvs, us, vs, d', v, rfl, r2.fh, ok, g1, g2, r2.fh _ _ hg, hk, hd, d2, hv, fun w dw => ⟨F2, v, r2, s1.trans s2, dw, q⟩⟩
def dFreezeN (i : Nat) (t : TS3) : TS3 := fun D env => ∃ xs, env[i]? = some (some (.dic xs)) ∧ t D (env.set i (some (.d (.obj (DicN xs)))))
theorem qs_freezeN {st : Stmt} {t : TS3} (i : Nat) (h : QS X st t) : QS X st (dFreezeN i t) := by
  refine ⟨fun B σ F H env D rp hq => ?_⟩
  obtain ⟨xs, hx, q⟩ := hq
  obtain ⟨F', s', r'⟩ := rp.freezeDic hx
  exact h B σ F' H _ D r' q
end
end L2.L3
set_option Elab.async false
set_option linter.all false
set_option maxRecDepth 100000
set_option maxHeartbeats 4000000
namespace L2.L3
open PySem PySem.Spec PyProof.Rows
section
variable {prog : Program} {w : World} {A : Around} {E : Value → Shared → Prop} {s : Shared}
theorem iter_gen {d : Addr} {es : Array DictEntry} {ep : Nat} {Q : Value → Shared → Prop} (hd : (d == sysModules) = false) (x : DictHas s.heap d es ep)
    (hQ : Q (.ref s.heap.objs.size) { s with heap := s.heap.push { cls := .type "dict_keyiterator", data := .fields #[.ref d, .int 0 0, .int es.size 0, .int ep 0] } }) :
    wpAny (model prog w) A (pyIter (.ref d)) Q E s := by
  have hT : s.TypeIs (.ref d) "dict" := x.typeIs
  obtain ⟨o, ho, hc, hdat⟩ := x
  refine wpAny_pyIter_slot hT PySem.F.slot_dict_iter (wpAny_call_entry PySem.F.slot_dict_iter hT PySem.F.entry_dict_iter ?_ (PySem.F.args_dict_iter_1 _))
  unfold Builtin.«dict.__iter__»
  refine wpAny_bind ?_
  unfold Builtin.Dict.dictSlotNone
  refine wpAny_bind (wpAny_notOrdered_dict hT ?_)
  show wpAny _ _ (pure (Value.ref d)) _ _ s
  refine wpAny_pure ?_
  show wpAny _ _ (Builtin.Dict.showsAll d >>= _) _ _ s
  unfold Builtin.Dict.showsAll
  rw [if_neg (by rw [hd]; exact Bool.false_ne_true)]
  refine wpAny_bind (wpAny_pure ?_)
  refine wpAny_bind (wpAny_dictEntries ho hdat ?_)
  refine wpAny_bind (wpAny_dictEpoch ho hdat ?_)
  refine wpAny_bind (wpAny_newObj_type (wpAny_pure ⟨_, rfl, "dict_keyiterator", _, ⟨_, Heap.get?_push_size _ rfl, rfl⟩, PySem.F.slot_dict_keyiterator_next.lookup, ?_⟩))
  simpa [rawInt] using hQ
theorem next_gen {it d : Addr} {i ep : Nat} {es : Array DictEntry} {Q : Option Value → Shared → Prop} (hit : s.heap.IsKeyIter it d i es.size ep) (x : DictHas s.heap d es ep) (hlt' : i < es.size)
    (hQ : ∀ h', h'.IsKeyIter it d (i + 1) es.size ep → Heap.SameBut it s.heap h' → Q (some es[i].key) { s with heap := h' }) :
    wpAny (model prog w) A (pyNext (.ref it)) Q E s := by
  obtain ⟨o, ho, hc, hd⟩ := id hit
  obtain ⟨od, hod, hcd, hdd⟩ := id x
  unfold pyNext
  refine wpAny_bind (wpAny_attempt (wpAny_callSpecial?_slot (name := Str.ofString "__next__") hit.typeIs PySem.F.slot_dict_keyiterator_next
    (wpAny_call_entry PySem.F.slot_dict_keyiterator_next hit.typeIs PySem.F.entry_dict_keyiterator_next ?_ (PySem.F.args_dict_keyiterator_next_1 _))))
  refine wpAny_bind (wpAny_pure ?_)
  refine wpAny_bind ?_
  refine wpAny_bind ?_
  first | refine wpAny_bind (wpAny_typeNameOfWhole_keyiter hit.typeIs (wpAny_pure ?_)) | refine wpAny_bind (wpAny_typeNameOf_keyiter hit.typeIs (wpAny_pure ?_))
  refine wpAny_bind (wpAny_fieldsOf ho hd ?_)
  have hown : Builtin.Dict_items.ownsTuple "dict_keyiterator" = false := by decide
  simp only [hown, Bool.false_eq_true, if_false]
  show wpAny _ _ (if (Value.ref d == Value.none) = true then _ else _) _ _ s
  rw [if_neg (show ¬ ((Value.ref d == Value.none) = true) from Bool.false_ne_true)]
  refine wpAny_bind (wpAny_pure ?_)
  refine wpAny_bind (wpAny_dictEntries hod hdd ?_)
  rw [if_neg (by simp)]
  refine wpAny_bind (wpAny_pure ?_)
  refine wpAny_bind (wpAny_dictEpoch hod hdd ?_)
  rw [if_neg (by simp)]
  refine wpAny_pure ?_
  simp only [show ¬ ((i : Int) < 0) from by omega, if_false, Int.toNat_natCast, Array.getElem?_eq_getElem hlt']
  refine wpAny_bind ?_
  first | refine wpAny_bind (wpAny_typeNameOfWhole_keyiter hit.typeIs (wpAny_pure ?_)) | refine wpAny_bind (wpAny_typeNameOf_keyiter hit.typeIs (wpAny_pure ?_))
  refine wpAny_bind (wpAny_isOneOf_keyiter hit.typeIs ?_)
  show wpAny _ _ (setField (.ref it) 1 (rawInt ((i : Int) + 1)) >>= _) _ _ s
  refine wpAny_bind (wpAny_setField ho hd (by simp) ?_)
  have hit' : (s.heap.update it (Obj.mapFields (·.setIfInBounds 1 (rawInt ((i : Int) + 1))))).IsKeyIter it d (i + 1) es.size ep :=
    ⟨_, Heap.get?_update_self _ ho (Obj.isFreed_of_fields (Obj.data_mapFields hd _)), (Obj.cls_mapFields ..).trans hc, by rw [Obj.data_mapFields hd]; simp [rawInt]⟩
  refine wpAny_bind (wpAny_holding ?_)
  refine wpAny_bind (wpAny_isOneOf_keyiter (s := { s with heap := s.heap.update it (Obj.mapFields (·.setIfInBounds 1 (rawInt ((i : Int) + 1)))) }) hit'.typeIs ?_)
  show wpAny _ _ (pure es[i].key) _ _ _
  exact wpAny_pure (wpAny_pure ⟨_, rfl, wpAny_pure (hQ _ hit' (Heap.SameBut.update ..))⟩)
theorem end_gen {it d : Addr} {i ep : Nat} {es : Array DictEntry} {Q : Option Value → Shared → Prop} (hh : A.handled = none) (hit : s.heap.IsKeyIter it d i es.size ep) (x : DictHas s.heap d es ep) (hge : es.size ≤ i)
    (hQ : ∀ h', Heap.ExtBut it s.heap h' → Q none { s with heap := h' }) : wpAny (model prog w) A (pyNext (.ref it)) Q E s := by
  obtain ⟨o, ho, hc, hd⟩ := id hit
  obtain ⟨od, hod, hcd, hdd⟩ := id x
  unfold pyNext
  refine wpAny_bind (wpAny_attempt (wpAny_callSpecial?_slot (name := Str.ofString "__next__") hit.typeIs PySem.F.slot_dict_keyiterator_next
    (wpAny_call_entry PySem.F.slot_dict_keyiterator_next hit.typeIs PySem.F.entry_dict_keyiterator_next ?_ (PySem.F.args_dict_keyiterator_next_1 _))))
  refine wpAny_bind (wpAny_pure ?_)
  refine wpAny_bind ?_
  refine wpAny_bind ?_
  first | refine wpAny_bind (wpAny_typeNameOfWhole_keyiter hit.typeIs (wpAny_pure ?_)) | refine wpAny_bind (wpAny_typeNameOf_keyiter hit.typeIs (wpAny_pure ?_))
  refine wpAny_bind (wpAny_fieldsOf ho hd ?_)
  have hown : Builtin.Dict_items.ownsTuple "dict_keyiterator" = false := by decide
  simp only [hown, Bool.false_eq_true, if_false]
  show wpAny _ _ (if (Value.ref d == Value.none) = true then _ else _) _ _ s
  rw [if_neg (show ¬ ((Value.ref d == Value.none) = true) from Bool.false_ne_true)]
  refine wpAny_bind (wpAny_pure ?_)
  refine wpAny_bind (wpAny_dictEntries hod hdd ?_)
  rw [if_neg (by simp)]
  refine wpAny_bind (wpAny_pure ?_)
  refine wpAny_bind (wpAny_dictEpoch hod hdd ?_)
  rw [if_neg (by simp)]
  refine wpAny_pure ?_
  simp only [show ¬ ((i : Int) < 0) from by omega, if_false, Int.toNat_natCast, Array.getElem?_eq_none hge]
  refine wpAny_bind ?_
  first | refine wpAny_bind (wpAny_typeNameOfWhole_keyiter hit.typeIs (wpAny_pure ?_)) | refine wpAny_bind (wpAny_typeNameOf_keyiter hit.typeIs (wpAny_pure ?_))
  show wpAny _ _ (setField (.ref it) 0 .none >>= _) _ _ s
  refine wpAny_bind (wpAny_setField ho hd (by simp) ?_)
  show wpAny _ _ (newExc (.type "StopIteration") [] >>= _) _ _ _
  refine wpAny_bind ?_
  simp only [newExc, newTuple]
  refine wpAny_bind (wpAny_newObj_type ?_ (by size_fits))
  refine wpAny_bind (m := firstArgMember _ _) (wpAny_of_eq (a := Value.none) (by first | rfl | (simp only [firstArgMember]; rfl)) ?_)
  refine wpAny_newObj_type ?_ (by size_fits)
  simp only [raiseNew]
  refine wpAny_bind (wpAny_handled ?_)
  rw [show A.in1.handled = none from hh]
  refine wpAny_bind (wpAny_pure (wpAny_throw ?_))
  refine wpAny_bind (wpAny_isInstance (T := "StopIteration") (b := true) ⟨_, Heap.get?_push_size _ rfl, rfl⟩ isSubtype_stop ?_)
  exact wpAny_pure (hQ _ (((Heap.SameBut.update ..).extBut.push _).push _))
end
def Idn (p : Addr) (ep : Nat) (rows : List (Int × V × V)) : It :=
  ⟨fun i H => H p = some (DNo p ep rows) ∧ i < rows.length, fun i H x H' => H' = H ∧ ∃ row, rows[i]? = some row ∧ x = row.2.1, fun i H => H p = some (DNo p ep rows) ∧ rows.length ≤ i⟩
theorem turn_dic {P : Program} {w : World} {K : PySem.W.Frag} {tg : Expr} (p it : Addr) (ep : Nat) (rows : List (Int × V × V)) : Turn P w K tg (Idn p ep rows) [it] it (fun i h => h.IsKeyIter it p i rows.length ep) where
  mem := by simp
  obj := fun i h st b hb => by
    have e : b = it := by simpa using hb
    subst e
    obtain ⟨o, e, c, d⟩ := st
    exact ⟨o, e, fun v z => by rw [d] at z; cases z⟩
  keep := fun i h h' st k => let ⟨o, e, c, d⟩ := st; ⟨o, k it (by simp) o e, c, d⟩
  item := by
    intro X hP hw hK hc i pins s σ H E I hf st hg
    subst hP hw hK
    obtain ⟨e, hlt⟩ := hg
    obtain ⟨hz, hs, es, dh, pr⟩ := dno_at I e
    have lp : rows.length = es.size := by simpa using Paired.length pr
    have hlt' : i < es.size := by omega
    obtain ⟨row, hr, e1, e2, e3⟩ := pair_get pr (y := es[i]) (i := i) (by simp [hlt'])
    obtain ⟨f0, f1, f2, f3, f4, f5⟩ := hf it (by simp)
    rw [lp] at st
    refine next_gen st dh hlt' fun h' st' sb => ?_
    have I1 : Inv X pins σ H { s with heap := h' } := I.turned (t' := s.toks) (fun b o hb e => (sb.2 b hb).trans e) f0 f1 f3 f4 f5
    obtain ⟨o, eo, c, d⟩ := id st'
    rw [← lp] at st'
    exact ⟨_, rfl, go_of (s := { s with heap := h' }) eo c d (by decide) ⟨row.2.1, H, I1, e2, ⟨rfl, row, hr, rfl⟩, st', fun b hb => (hf b hb).1⟩⟩
  done := by
    intro X hP hw hK hc i pins s σ H E I hf st hg
    subst hP hw hK
    obtain ⟨e, hge⟩ := hg
    obtain ⟨hz, hs, es, dh, pr⟩ := dno_at I e
    have lp : rows.length = es.size := by simpa using Paired.length pr
    obtain ⟨f0, f1, f2, f3, f4, f5⟩ := hf it (by simp)
    rw [lp] at st
    exact end_gen (I.ok.hd hc) st dh (by omega) fun h' eb => ⟨rfl, I.turned (t' := s.toks) (fun b o hb e => eb b o hb e) f0 f1 f3 f4 f5⟩
  self := fun _ _ _ _ _ st h => wpAny_pyIter_keyiter st h
def iDic (tl : TE) : TI := fun σ H R => tl σ H fun x H1 => ∃ p ep rows, x = .ref p ∧ H1 p = some (DNo p ep rows) ∧ R (Idn p ep rows) H1
section
variable {X : Cx} {tg : Expr}
theorem pi_dic {l : Expr} {tl : TE} (hl : PE X l tl) : PI X tg l (iDic tl) := by
  intro pins s σ H R I h
  refine thn (hl pins s σ H _ I h) fun v s1 ⟨x, H1, I1, r1, q1⟩ => ?_
  obtain ⟨p, ep, rows, e, hp, q⟩ := q1
  subst e
  cases r1
  obtain ⟨hz, hs, es, dh, pr⟩ := dno_at I1 hp
  have lp : rows.length = es.size := by simpa using Paired.length pr
  refine iter_gen hs dh ?_
  refine ⟨s1.heap.objs.size, [s1.heap.objs.size], _, _, H1, rfl, I1.kept (t' := s1.toks) fun b o e => Heap.get?_push_of_some _ e, turn_dic p _ ep rows, ⟨_, Heap.get?_push_size _ rfl, rfl, by rw [lp]; rfl⟩, fun b hb => ?_, q⟩
  have e : b = s1.heap.objs.size := by simpa using hb
  subst e
  exact I1.fpOk (Nat.le_refl _) (I1.hok.fresh (Nat.le_refl _))
end
section
variable {K : PySem.W.Frag} {B : Base} {F H : Hp} {σ : St} {e : En}
def AtN (x : Addr) : PySem.W.Frag → Hp → Addr → Prop := fun _ _ a => a = x
theorem at_selfN {i : Nat} {a : Addr} (r : Rep K B F H σ e) (h : e[i]? = some (some (.d (.obj (AtN a))))) : σ[i]? = some (some (.ref a)) := by
  obtain ⟨v, h1, h2⟩ := r.dv i _ h
  simp only [Den] at h2
  obtain ⟨b, rfl, h3⟩ := h2
  have : b = a := h3 F (Same.refl _)
  rw [this] at h1; exact h1
theorem Rep.guardDic (r : Rep K B F H σ e) {i : Nat} {kvs : List (D × D)} (h : e[i]? = some (some (.dic kvs))) :
    ∃ p ep us vs, σ[i]? = some (some (.ref p)) ∧ H p = some (DNo p ep (rowsN kvs us vs)) ∧ B.H p = none ∧ DenL K F (kvs.map (·.1)) us ∧ DenL K F (kvs.map (·.2)) vs ∧ Rep K (B.guard p (DNo p ep (rowsN kvs us vs))) F H σ (e.set i (some (.d (.obj (AtN p))))) := by
  obtain ⟨p, ep, us, vs, h1, h2, h3, h4, h5, h6⟩ := r.mv i kvs h
  have wl : i < e.length := (List.getElem?_eq_some_iff.mp h).1
  refine ⟨p, ep, us, vs, h1, h2, h4, h5, h6, r.f0, r.fh, fun b u q => ?_, fun a q => ?_, fun j y q => ?_, fun j y q => ?_, fun j k as bs q hjk q1 q2 q3 q4 => ?_, fun j y q => ?_, fun j k as bs q hjk q1 q2 q3 q4 => ?_⟩
  · have q' : upd B.H p (DNo p ep (rowsN kvs us vs)) b = some u := q
    by_cases z : b = p
    · subst z; rw [upd_same] at q'; cases q'; exact h2
    · rw [upd_ne z] at q'; exact r.h0 _ _ q'
  · rcases q with rfl | q
    · exact h3
    · exact r.nf a q
  · by_cases z : i = j
    · subst z
      rw [List.getElem?_set_self wl] at q
      cases q
      refine ⟨_, h1, ?_⟩
      simp only [Den]
      exact ⟨p, rfl, fun _ _ => rfl⟩
    · rw [List.getElem?_set_ne z] at q
      exact r.dv j y q
  · have z := set_own_ne (fun _ w => by cases w) q
    rw [List.getElem?_set_ne z] at q
    obtain ⟨p2, us2, g1, g2, g3, g4, g5⟩ := r.ov j y q
    have : p2 ≠ p := fun w => by subst w; rw [h2] at g2; cases g2
    exact ⟨p2, us2, g1, g2, g3, by show upd B.H p _ p2 = none; rw [upd_ne this]; exact g4, g5⟩
  · have z1 := set_own_ne (fun _ w => by cases w) q1
    have z2 := set_own_ne (fun _ w => by cases w) q2
    rw [List.getElem?_set_ne z1] at q1
    rw [List.getElem?_set_ne z2] at q2
    exact r.ne j k as bs q hjk q1 q2 q3 q4
  · have z : i ≠ j := set_dic_ne (fun _ w => by cases w) q
    rw [List.getElem?_set_ne z] at q
    obtain ⟨p2, ep2, as, bs, g1, g2, g3, g4, g5, g6⟩ := r.mv j y q
    have : p2 ≠ p := fun w => by subst w; exact r.nm j i y kvs p2 (Ne.symm z) q h g1 h1
    exact ⟨p2, ep2, as, bs, g1, g2, g3, by show upd B.H p _ p2 = none; rw [upd_ne this]; exact g4, g5, g6⟩
  · have z1 := set_dic_ne (fun _ w => by cases w) q1
    have z2 := set_dic_ne (fun _ w => by cases w) q2
    rw [List.getElem?_set_ne z1] at q1
    rw [List.getElem?_set_ne z2] at q2
    exact r.nm j k as bs q hjk q1 q2 q3 q4
theorem Rep.unguardDic {p : Addr} {ep : Nat} {us vs : List V} {i : Nat} {kvs : List (D × D)} (r : Rep K (B.guard p (DNo p ep (rowsN kvs us vs))) F H σ e) (hb : B.H p = none) (h : e[i]? = some (some (.d (.obj (AtN p))))) (h5 : DenL K F (kvs.map (·.1)) us) (h6 : DenL K F (kvs.map (·.2)) vs) :
    Rep K B F H σ (e.set i (some (.dic kvs))) := by
  have wl : i < e.length := (List.getElem?_eq_some_iff.mp h).1
  have hs := at_selfN r h
  obtain ⟨r', hp, hf⟩ := r.unguard hb
  have oth : ∀ (j : Nat) (ys : List (D × D)), e[j]? = some (some (.dic ys)) → σ[j]? ≠ some (some (.ref p)) := fun j ys q z => by
    obtain ⟨q1, _, _, _, h1, _, _, h4, _⟩ := r.mv j ys q
    rw [z] at h1; cases h1
    have h4' : upd B.H p (DNo p ep (rowsN kvs us vs)) p = none := h4
    rw [upd_same] at h4'; cases h4'
  refine ⟨r'.f0, r'.fh, r'.h0, r'.nf, fun j y q => ?_, fun j y q => ?_, fun j k as bs q hjk q1 q2 q3 q4 => ?_, fun j y q => ?_, fun j k as bs q hjk q1 q2 q3 q4 => ?_⟩
  · have z := set_d_ne (fun _ w => by cases w) q
    rw [List.getElem?_set_ne z] at q; exact r'.dv j y q
  · have z := set_own_ne (fun _ w => by cases w) q
    rw [List.getElem?_set_ne z] at q; exact r'.ov j y q
  · have z1 := set_own_ne (fun _ w => by cases w) q1
    have z2 := set_own_ne (fun _ w => by cases w) q2
    rw [List.getElem?_set_ne z1] at q1
    rw [List.getElem?_set_ne z2] at q2
    exact r'.ne j k as bs q hjk q1 q2 q3 q4
  · by_cases z : i = j
    · subst z
      rw [List.getElem?_set_self wl] at q
      cases q
      exact ⟨p, ep, us, vs, hs, hp, hf, hb, h5, h6⟩
    · rw [List.getElem?_set_ne z] at q; exact r'.mv j y q
  · by_cases z1 : i = j
    · subst z1
      rw [List.getElem?_set_ne hjk] at q2
      rw [hs] at q3; cases q3
      exact oth k bs q2 q4
    · rw [List.getElem?_set_ne z1] at q1
      by_cases z2 : i = k
      · subst z2
        rw [hs] at q4; cases q4
        exact oth j as q1 q3
      · rw [List.getElem?_set_ne z2] at q2
        exact r'.nm j k as bs q hjk q1 q2 q3 q4
end
end L2.L3
set_option Elab.async false
set_option linter.all false
set_option maxRecDepth 100000
set_option maxHeartbeats 4000000
namespace L2.L3
open PySem PySem.Spec PyProof.Rows
section
variable {X : Cx} {a b : Expr} {ta tb : TD} {pos : Pos} {t : TS3}
def dForDic (i : Nat) (g : TG3) (t : TS3) : TS3 := fun Z env => ∃ kvs, env[i]? = some (some (.dic kvs)) ∧ ∀ p, turns g t { Z with nx := fun e => e[i]? = some (some (.d (.obj (AtN p)))) ∧ Z.nx (e.set i (some (.dic kvs))) } (kvs.map (·.1)) (env.set i (some (.d (.obj (AtN p)))))
theorem qs_forDic {x : Str} {px : Pos} {tg : Expr} {body : List Stmt} {g : TG3} (i : Nat) (hp : PassesOwn (model X.prog X.w) X.A X.env X.xe) (hc : X.calm = true) (hg : QG X tg g) (hb : QSs X body t) (hN : X.N[i]? = some x := by rfl) (hv : Vis X.env.scope x := by first | exact Or.inl rfl | exact Or.inr (Or.inl rfl) | exact Or.inr (Or.inr rfl)) (hd : (x == ("__debug__" : Str)) = false := by decide)
    (hcd : (x == ("__classdict__" : Str)) = false := by decide) (hs : ∀ z, foldedSetIterable (.Name x px) X.env z = pure z := by intro _; rfl) : QS X (.For tg (.Name x px) body [] pos) (dForDic i g t) := by
  refine ⟨fun B σ F H env Z rp h => wS_of (ps_for hp hc (pi_dic (pe_var hN hv hd hcd)) pg_w pss_w hs) ?_⟩
  obtain ⟨kvs, hx, h⟩ := h
  obtain ⟨p, ep, us, vs, h1, h2, h4, h5, h6, r0⟩ := rp.guardDic hx
  refine ⟨.ref p, h1, p, ep, rowsN kvs us vs, rfl, h2, ?_⟩
  have q1 := h p
  generalize hB : B.guard p (DNo p ep (rowsN kvs us vs)) = B' at r0
  generalize hD : ({ Z with nx := fun e => e[i]? = some (some (.d (.obj (AtN p)))) ∧ Z.nx (e.set i (some (.dic kvs))) } : Ends3) = Z' at q1
  have hBp : B'.H p = some (DNo p ep (rowsN kvs us vs)) := by rw [← hB]; exact upd_same
  have fnx : ∀ σ2 H2, (RS X B' Z').nx σ2 H2 → Same F F → (∃ F' env', Rep X.K B' F' H2 σ2 env' ∧ Same F F' ∧ Z'.nx env') → (RS X B Z).nx σ2 H2 := by
    rintro σ2 H2 _ _ ⟨F', env', r', s', q'⟩
    rw [← hD] at q'
    rw [← hB] at r'
    exact ⟨F', _, r'.unguardDic h4 q'.1 (DenL.mono s' _ _ h5) (DenL.mono s' _ _ h6), q'.2⟩
  have frt : ∀ v H2, (RS X ⟨F, B'.H, B'.N, B'.nb⟩ Z').rt v H2 → (RS X B Z).rt v H2 := by
    rintro v H2 ⟨F', d, r', hd', q'⟩
    have r2 := Rep.back (B := B') r0.f0 r'
    rw [← hB] at r2
    rw [← hD] at q'
    exact ⟨F', d, (r2.unguard h4).1, hd', q'⟩
  have fin : ∀ σ2 H2, (∃ F' env', Rep X.K ⟨F, B'.H, B'.N, B'.nb⟩ F' H2 σ2 env' ∧ Z'.nx env') → (RS X B Z).nx σ2 H2 := by
    rintro σ2 H2 ⟨F', env', r', q'⟩
    have r2 := Rep.back (B := B') r0.f0 r'
    exact fnx σ2 H2 ⟨F', env', r2, q'⟩ (Same.refl _) ⟨F', env', r2, r'.f0, q'⟩
  have hl : (rowsN kvs us vs).length = (kvs.map (·.1)).length := by rw [rows_len h5 h6, List.length_map]
  generalize hxs : kvs.map (·.1) = xs at q1 h5 hl
  refine ⟨fun i m σ H => m = xs.length - i ∧ i ≤ xs.length ∧ ∃ F2 env, Rep X.K ⟨F, B'.H, B'.N, B'.nb⟩ F2 H σ env ∧ turns g t Z' (xs.drop i) env, ⟨xs.length, by simp, Nat.zero_le _, F, _, r0.now, by simpa using q1⟩, ?_⟩
  rintro j m σ2 H2 ⟨rfl, hi2, F2, env2, r2, q2⟩
  have hcell : H2 p = some (DNo p ep (rowsN kvs us vs)) := r2.h0 _ _ hBp
  by_cases hlt : j < xs.length
  · have hxi : xs[j]? = some xs[j] := by simp [hlt]
    rw [drop_cons hxi] at q2
    refine .inr ⟨⟨hcell, by omega⟩, fun σ' H' => ∃ F3 env, Rep X.K ⟨F, B'.H, B'.N, B'.nb⟩ F3 H' σ' env ∧ turns g t Z' (xs.drop (j + 1)) env, fun σ' H' ⟨F', env', r', q'⟩ => ⟨xs.length - (j + 1), by omega, rfl, by omega, F', env', r', q'⟩, fun z H' hz => ?_⟩
    obtain ⟨rfl, row, hr, rfl⟩ := hz
    obtain ⟨kv, k1, k2, k3, k4⟩ := rows_get hr
    obtain ⟨v, hv', dv'⟩ := h5.get hxi
    rw [k3] at hv'; cases hv'
    refine wG_mono (hg _ σ2 F2 _ env2 _ _ _ r2 (Den.mono r2.f0 _ _ dv') q2) fun σ3 H3 ⟨F3, env3, r3, s3, q3⟩ => ?_
    exact wSs_mono (hb _ σ3 F3 H3 env3 _ r3 q3) (fun _ _ q => q) (fun v H q => frt v H q) (fun v H q => fin v H q) (fun _ _ q => q)
  · have e : j = xs.length := by omega
    subst e
    rw [List.drop_eq_nil_of_le (Nat.le_refl _)] at q2
    exact .inl ⟨⟨hcell, by omega⟩, fin _ _ ⟨F2, env2, r2, q2⟩⟩
def inN (neg : Bool) (y x : D) (Q : D → Prop) : Prop := ∃ kvs, x = .obj (DicN kvs) ∧ keyN y = true ∧ dep y ≤ 8 ∧ DicOk kvs ∧ Q (.bl (if neg then !(kvs.any fun kv => eqD kv.1 y) else kvs.any fun kv => eqD kv.1 y))
def rInN (X : Cx) (neg : Bool) : R2 := fun y x H Q => ∃ p ep F kvs us vs d, x = .ref p ∧ Same F H ∧ DicOk kvs ∧ DenL X.K F (kvs.map (·.1)) us ∧ DenL X.K F (kvs.map (·.2)) vs ∧ H p = some (DNo p ep (rowsN kvs us vs)) ∧
  keyN d = true ∧ dep d ≤ 8 ∧ Den X.K F d y ∧ Q (.bl (if neg then !(kvs.any fun kv => eqD kv.1 d) else kvs.any fun kv => eqD kv.1 d)) H
theorem op_ninN (hu : X.A.units + 64 < cLine) : OpR X (compareOp .NotIn) (rInN X true) := by
  intro pins s σ H x y v u Q I rx ry h
  obtain ⟨p, ep, F, kvs, us, vs, d, rfl, fh, ok, d1, d2, e, hk, hd, dd, h⟩ := h
  cases ry
  show wpAny _ _ ((do return Value.bool (!(← contains (.ref p) v))) : Sem Value) _ _ s
  exact wpAny_bind (dicIn (by omega) I fh ok d1 d2 e hk hd dd rx fun s' I' => wpAny_pure ⟨.bl _, H, I', rfl, h⟩)
theorem o3_inN (neg : Bool) : Op3 X (rInN X neg) (inN neg) := by
  intro B σ F H env Q d d' x y Z rp h1 h2 hz hf
  obtain ⟨kvs, rfl, hk, hd, ok, q⟩ := hf
  simp only [Den] at h2
  obtain ⟨p, rfl, hp⟩ := h2
  obtain ⟨ep, us, vs, hg, g1, g2⟩ := hp F (Same.refl _)
  exact ⟨p, ep, F, kvs, us, vs, d, rfl, rp.fh, ok, g1, g2, rp.fh _ _ hg, hk, hd, h1, hz _ H F _ rp (Same.refl _) den_bl q⟩
theorem t_ninN (hu : X.A.units + 64 < cLine) (ha : QE X a ta) (hb : QE X b tb) (hm : behindInMarks .NotIn b = false := by rfl) : QT X (.Compare a [.NotIn] [b] pos) (cTest (cOp (inN true) ta tb)) := qt_cmp (op_ninN hu) (o3_inN true) ha hb hm
end
theorem DicOk.nil : DicOk [] := ⟨fun _ h => absurd h List.not_mem_nil, fun i j x y h => by simp at h⟩
theorem eqD_key {a b : D} (ha : keyN a = true) (hb : keyN b = true) : eqD a b = true ↔ a = b := ⟨fun h => keyN_eq a b ha h hb, fun h => h ▸ keyN_refl a ha⟩
theorem DicOk.put {kvs : List (D × D)} {k v : D} (h : DicOk kvs) (hk : keyN k = true) (hd : dep k ≤ 8) : DicOk (putN kvs k v) := by
  unfold putN
  by_cases c : (kvs.any fun kv => eqD kv.1 k) = true
  · rw [if_pos c]
    refine ⟨fun kv m => ?_, fun i j x y hx hy e => ?_⟩
    · obtain ⟨kw, m', rfl⟩ := List.mem_map.mp m
      split
      · exact h.key kw m'
      · exact h.key kw m'
    · rw [List.getElem?_map] at hx hy
      obtain ⟨x', hx', rfl⟩ := Option.map_eq_some_iff.mp hx
      obtain ⟨y', hy', rfl⟩ := Option.map_eq_some_iff.mp hy
      refine h.dif i j x' y' hx' hy' ?_
      split at e <;> split at e <;> exact e
  · rw [if_neg c]
    have no : ∀ (i : Nat) (x : D × D), kvs[i]? = some x → x.1 ≠ k := fun i x hx e => c (List.any_eq_true.mpr ⟨x, List.mem_of_getElem? hx, by rw [e]; exact keyN_refl k hk⟩)
    refine ⟨fun kv m => ?_, fun i j x y hx hy e => ?_⟩
    · rcases List.mem_append.mp m with m | m
      · exact h.key kv m
      · rw [List.mem_singleton] at m; subst m; exact ⟨hk, hd⟩
    · have at_ : ∀ (i : Nat) (x : D × D), (kvs ++ [(k, v)])[i]? = some x → kvs[i]? = some x ∨ (i = kvs.length ∧ x.1 = k) := fun i x hx => by
        by_cases l : i < kvs.length
        · rw [List.getElem?_append_left l] at hx; exact .inl hx
        · have := (List.getElem?_eq_some_iff.mp hx).1
          have e : i = kvs.length := by simp at this; omega
          subst e
          rw [List.getElem?_append_right (Nat.le_refl _), Nat.sub_self] at hx
          cases hx
          exact .inr ⟨rfl, rfl⟩
      rcases at_ i x hx with a | ⟨a, a'⟩ <;> rcases at_ j y hy with b | ⟨b, b'⟩
      · exact h.dif i j x y a b e
      · exact absurd (e.trans b') (no i x a)
      · exact absurd (e.symm.trans a') (no j y b)
      · omega
theorem getN_put {kvs : List (D × D)} {k k' v : D} (h : DicOk kvs) (hk : keyN k = true) (hk' : keyN k' = true) : getN (putN kvs k v) k' = if eqD k k' = true then some v else getN kvs k' := by
  have find : ∀ (l : List (D × D)), (∀ kv ∈ l, keyN kv.1 = true) → getN (l.map (fun kv => if eqD kv.1 k = true then (kv.1, v) else kv)) k' = if eqD k k' = true ∧ (l.any fun kv => eqD kv.1 k) = true then some v else getN l k' := fun l => by
    induction l with
    | nil => intro _; simp [getN]
    | cons x r ih =>
      intro hl
      have ih' := ih fun kv m => hl kv (List.mem_cons_of_mem _ m)
      have hx := hl x (List.mem_cons_self ..)
      unfold getN at ih' ⊢
      rw [List.map_cons, List.find?_cons, List.find?_cons]
      by_cases c1 : eqD x.1 k = true
      · rw [if_pos c1]
        have e := keyN_eq _ _ hx c1 hk
        by_cases c2 : eqD x.1 k' = true
        · simp only [c2, Option.map_some]
          rw [if_pos ⟨e ▸ c2, by rw [List.any_cons, c1]; rfl⟩]
        · have c3 : ¬ eqD k k' = true := fun q => c2 (e ▸ q)
          simp only [c2]
          rw [ih', if_neg (fun q => c3 q.1), if_neg (fun q => c3 q.1)]
      · rw [if_neg c1]
        by_cases c2 : eqD x.1 k' = true
        · have c3 : ¬ eqD k k' = true := fun q => c1 (by
            have e1 := keyN_eq _ _ hx c2 hk'
            have e2 := keyN_eq _ _ hk q hk'
            rw [e1, ← e2]; exact keyN_refl k hk)
          simp only [c2, Option.map_some]
          rw [if_neg (fun q => c3 q.1)]
        · simp only [c2]
          rw [ih', List.any_cons]
          have : eqD x.1 k = false := by simpa using c1
          rw [this, Bool.false_or]
  unfold putN
  by_cases c : (kvs.any fun kv => eqD kv.1 k) = true
  · rw [if_pos c, find kvs fun kv m => (h.key kv m).1]
    simp only [c, and_true]
  · rw [if_neg c]
    unfold getN
    rw [List.find?_append]
    by_cases c2 : eqD k k' = true
    · rw [if_pos c2]
      have none : kvs.find? (fun kv => eqD kv.1 k') = none := by
        rw [List.find?_eq_none]
        intro kv m q
        refine c (List.any_eq_true.mpr ⟨kv, m, ?_⟩)
        have e1 := keyN_eq _ _ (h.key kv m).1 q hk'
        have e2 := keyN_eq _ _ hk c2 hk'
        rw [e1, ← e2]; exact keyN_refl k hk
      rw [none]
      simp [c2]
    · rw [if_neg c2]
      cases kvs.find? (fun kv => eqD kv.1 k') with
      | some z => rfl
      | none => simp [c2]
theorem getN_any {kvs : List (D × D)} {k : D} : (kvs.any fun kv => eqD kv.1 k) = (getN kvs k).isSome := by
  unfold getN
  rw [Option.isSome_map, Bool.eq_iff_iff, List.find?_isSome, List.any_eq_true]
theorem putN_len {kvs : List (D × D)} {k v : D} : (putN kvs k v).length ≤ kvs.length + 1 := by
  unfold putN
  split
  · simp
  · simp
end L2.L3
set_option Elab.async false
set_option linter.all false
set_option maxRecDepth 100000
set_option maxHeartbeats 4000000
namespace L2.L3
open PySem PySem.Spec PyProof.Rows
section
variable {X : Cx} {a e o : Expr} {ta te to : TD} {pos apos cpos : Pos}
def rInO (X : Cx) (neg : Bool) : R2 := fun x y H Q => ∃ (F : Hp) (d : D) (ds : List D) (vs : List V) (p : Addr), Same F H ∧ Den X.K F d x ∧ y = .ref p ∧ SqL X.K H p vs ∧ DenL X.K F ds vs ∧ X.A.units + 64 < cLine ∧ depL ds ≤ 60 ∧ dep d ≤ 60 ∧ Q (.bl (if neg then !ds.any (fun e => eqD e d) else ds.any fun e => eqD e d)) H
theorem op_ninO : OpR X (compareOp .NotIn) (rInO X true) := by
  intro pins s σ H x y v u Q I rx ry h
  obtain ⟨F, d, ds, vs, p, fh, dx, rfl, hq, dl, hu, h1, h2, q⟩ := h
  cases ry
  obtain ⟨its, r, pl, hz⟩ := I.list hq
  refine SeqAt.notIn_listAt (eAtU its ds d) pl.isList (fun w hw => in_items I fh hu h1 h2 dl r dx rx w (by simpa using hw)) ⟨.bl _, H, I, rfl, ?_⟩
  rw [show its.toArray.any (eAtU its ds d) = its.any (eAtU its ds d) by simp, any_map', eAtU_any I fh (by omega) dl r, ← any_map']
  exact q
def cInOwn (neg : Bool) (i : Nat) (ta : TD) : TB := fun env Q => ta env fun x => ∃ xs, env[i]? = some (some (.own xs)) ∧ depL xs ≤ 60 ∧ dep x ≤ 60 ∧ Q (if neg then !xs.any (fun e => eqD e x) else xs.any fun e => eqD e x)
theorem t_ninOwn {x : Str} {px : Pos} (i : Nat) (hu : X.A.units + 64 < cLine) (ha : QE X a ta) (hN : X.N[i]? = some x := by rfl) (hv : Vis X.env.scope x := by first | exact Or.inl rfl | exact Or.inr (Or.inl rfl) | exact Or.inr (Or.inr rfl)) (hd : (x == ("__debug__" : Str)) = false := by decide)
    (hcd : (x == ("__classdict__" : Str)) = false := by decide) (hm : behindInMarks .NotIn (.Name x px) = false := by rfl) : QT X (.Compare a [.NotIn] [.Name x px] pos) (cInOwn true i ta) := by
  refine ⟨fun B σ F H env Q rp h => wT_of (pt_cmpR op_ninO pe_w (pe_var hN hv hd hcd) hm) ?_⟩
  refine wE_mono (ha B σ F H env _ rp h) fun y H1 ⟨F1, d, r1, s1, d1, xs, hx, l1, l2, q1⟩ => ?_
  obtain ⟨p, vs, g1, g2, g3, g4, g5⟩ := r1.ov i xs hx
  exact ⟨.ref p, g1, F1, d, xs, vs, p, r1.fh, d1, rfl, SqL.of g2, g5, hu, l1, l2, _, rfl, F1, r1, s1, q1⟩
def cIndex (to te : TD) : TD := fun env Q => to env fun x => ∃ ds, x = .lst ds ∧ depL ds ≤ 60 ∧ te env fun y => dep y ≤ 60 ∧ ∃ j : Nat, (ds[j]?.map fun d => eqD d y) = some true ∧ (∀ m, m < j → (ds[m]?.map fun d => eqD d y) = some false) ∧ Q (.int j)
theorem q_index (hu : X.A.units + 64 < cLine) (ho : QE X o to) (he : QE X e te) (m : M1 X o "index" apos e cpos := by exact ⟨rfl, rfl, rfl, rfl⟩) : QE X (.Call (.Attribute o "index" apos) [e] [] cpos) (cIndex to te) := by
  refine ⟨fun B σ F H env Q rp h pins s I => ?_⟩
  refine wpAny_Call_method m.base m.few m.line PySem.F.plainAttrs_list PySem.F.slot_list_index PySem.F.type_list_index (thn (ho B σ F H env _ rp h pins s I) fun u s1 ⟨x, H1, I1, rx, F1, d, r1, z1, d1, ds, e1, hds, q1⟩ => ?_)
  subst e1
  simp only [Den] at d1
  obtain ⟨p, vs, rfl, hq, dl⟩ := d1
  cases rx
  obtain ⟨its0, _, ⟨o0, n0, g0, c0, nd0, _⟩, _⟩ := I1.list (r1.fh.seq hq)
  refine ⟨⟨o0, g0, c0⟩, fun b eb => by cases eb; exact ⟨o0, g0, nd0⟩, ?_⟩
  rw [m.trees]
  refine Calls.callWith_builtin rfl (Calls.evalArgs_plain (Calls.spliced_cons (thn (he B σ F1 H1 env _ r1 q1 pins s1 I1) fun iv s2 ⟨y, H2, I2, ry, F2, d', r2, z2, d2, hy, j, hj, hno, q2⟩ => Calls.spliced_nil ?_)))
  have hq2 := z2.seq hq
  have dl2 := DenL.mono z2 _ _ dl
  obtain ⟨its, rv, ⟨⟨oc, od, odt, osl⟩, n, g, c, nd, dd⟩, hz⟩ := I2.list (r2.fh.seq hq2)
  replace c : oc = .type "list" := c
  replace dd : odt = .seq its.toArray n := dd
  subst c dd
  have l1 := dl2.length
  have l2 := rv.length
  have at_ : ∀ (k : Nat) (b : Bool), (ds[k]?.map fun d => eqD d d') = some b → ∃ hk : k < its.length, eAtU its ds d' its[k] = b := fun k b hb => by
    obtain ⟨w, hw, rfl⟩ := Option.map_eq_some_iff.mp hb
    have hk : k < its.length := by have := (List.getElem?_eq_some_iff.mp hw).1; omega
    exact ⟨hk, eAtU_of I2 r2.fh (by omega) dl2 rv hw (List.getElem?_eq_getElem hk)⟩
  obtain ⟨hjl, hit⟩ := at_ j true hj
  have hsz : (j : Int) < 2 ^ 63 - 1 := by
    have : j < sizeLine := by omega
    rw [PySem.sizeLine_eq] at this; omega
  refine call_meets PySem.F.slot_list_index ⟨_, g, rfl⟩ PySem.F.entry_list_index (PySem.F.args_list_index_2 _ _) (SeqAt.list_indexAt p its.toArray n od osl iv (eAtU its ds d') j (by simpa using hjl) hsz (by simpa using hit) (fun k hk hkj => by
    obtain ⟨hkl, z⟩ := at_ k false (hno k hkj)
    simpa using z)) ⟨g, fun w hw => in_itemsA I2 r2.fh _ (by simp only [units_in1]; omega) hds hy dl2 rv d2 ry w (by simpa using hw), ?_⟩
  exact ⟨.int _, H2, I2.tok _, ⟨_, rfl⟩, F2, _, r2, z1.trans z2, den_int, q2⟩
end
end L2.L3
set_option Elab.async false
set_option linter.all false
set_option maxRecDepth 100000
set_option maxHeartbeats 4000000
namespace L2.L3
open PySem PySem.Spec PyProof.Rows
end L2.L3
set_option Elab.async false
set_option linter.all false
set_option maxRecDepth 100000
set_option maxHeartbeats 4000000
set_option Elab.async false
set_option linter.all false
set_option maxRecDepth 100000
set_option maxHeartbeats 4000000
namespace L2.L3
open PySem PySem.Spec PyProof.Rows
section
variable {X : Cx} {a e : Expr} {es : List Expr} {ta te : TD} {ts : TDs} {p pos apos cpos : Pos}
def cInDic (neg : Bool) (i : Nat) (ta : TD) : TB := fun env Q => ta env fun x => ∃ kvs, env[i]? = some (some (.dic kvs)) ∧ keyN x = true ∧ dep x ≤ 8 ∧ DicOk kvs ∧ Q (if neg then !(kvs.any fun kv => eqD kv.1 x) else kvs.any fun kv => eqD kv.1 x)
theorem t_ninDic {x : Str} {px : Pos} (i : Nat) (hu : X.A.units + 64 < cLine) (ha : QE X a ta) (hN : X.N[i]? = some x := by rfl) (hv : Vis X.env.scope x := by first | exact Or.inl rfl | exact Or.inr (Or.inl rfl) | exact Or.inr (Or.inr rfl)) (hd : (x == ("__debug__" : Str)) = false := by decide)
    (hcd : (x == ("__classdict__" : Str)) = false := by decide) (hm : behindInMarks .NotIn (.Name x px) = false := by rfl) : QT X (.Compare a [.NotIn] [.Name x px] pos) (cInDic true i ta) := by
  refine ⟨fun B σ F H env Q rp h => wT_of (pt_cmpR (op_ninN hu) pe_w (pe_var hN hv hd hcd) hm) ?_⟩
  refine wE_mono (ha B σ F H env _ rp h) fun y H1 ⟨F1, d, r1, s1, d1, kvs, hx, l1, l2, ok, q1⟩ => ?_
  obtain ⟨p, ep, us, vs, g1, g2, g3, g4, g5, g6⟩ := r1.mv i kvs hx
  exact ⟨.ref p, g1, p, ep, F1, kvs, us, vs, d, rfl, r1.fh, ok, g5, g6, g2, l1, l2, d1, _, rfl, F1, r1, s1, q1⟩
end
section
variable {P : Program} {w : World} {K : PySem.W.Frag} {mg : Str → Option Value} {base : Heap}
end
end L2.L3
set_option Elab.async false
set_option linter.all false
set_option maxRecDepth 100000
set_option maxHeartbeats 4000000
namespace L2.L3
open PySem PySem.Spec PyProof.Rows
def RestO (a : Addr) : HO := .ext fun h => ∃ (r : Int) (t : Tok) (n : Nat), h.get? a = some { cls := .type "list", data := .seq #[.int r t] n }
def RestP : PySem.W.Frag → Hp → Addr → Prop := fun _ G a => G a = some (RestO a)
theorem rest_ok {P : Program} {w : World} {H : Hp} {h : Heap} {a : Addr} {r : Int} {t : Tok} {n : Nat} (e : h.get? a = some { cls := .type "list", data := .seq #[.int r t] n }) : ObjOk P w H h a (RestO a) := by
  refine ⟨⟨r, t, n, e⟩, ⟨_, e⟩, ?_⟩
  rintro h1 h2 ⟨r, t, n, e⟩ k
  exact ⟨r, t, n, k _ e⟩
section
variable {X : Cx} {a b e : Expr} {ta te : TD} {pos : Pos}
theorem upd_self {H : Hp} {p : Addr} {o : HO} (h : H p = some o) : upd H p o = H := by
  funext b
  by_cases e : b = p
  · subst e; rw [upd_same, h]
  · rw [upd_ne e]
def dRestNew (i : Nat) (te : TD) : TS3 := fun Z env => te env fun x => ∃ r : Int, x = .int r ∧ Z.nx (env.set i (some (.d (.obj RestP))))
theorem qs_restNew {x : Str} {pos' pl : Pos} (i : Nat) (hN : X.N.Nodup) (he : QE X e te) (hi : X.N[i]? = some x := by rfl) (hx : Loc X.env.scope x := by first | exact Or.inl rfl | exact Or.inr rfl) (hs : swapsWith (.List [e] pl) (some (.Name x pos')) pos.line X.env = pure false := by rfl)
    (hf : X.fn x = true ∨ X.env.scope.names.lookup x = some .local := by first | exact .inl rfl | exact .inr rfl) (hst : starEach [e] X.env = (false, eval e X.env) :: starEach [] X.env := by exact star_of rfl) : QS X (.Assign [.Name x pos'] (.List [e] pl) pos) (dRestNew i te) := by
  refine ⟨fun B σ F H env Z rp h pins s I => ?_⟩
  refine wpAny_Assign_Name ?_ hs
  refine wpAny_List_spliced (thn (pa_cons pe_w pa_nil hst pl pins s σ H (fun vs H1 => ∃ r, vs = [.int r] ∧ ∃ F1, Rep X.K B F1 H1 σ env ∧ Z.nx (env.set i (some (.d (.obj RestP))))) I ?_) fun us s1 ⟨vs, H1, I1, rv, r, ev, F1, r1, q⟩ => ?_)
  · refine wE_mono (he B σ F H env _ rp h) fun v H1 ⟨F1, d, r1, s1, d1, r, ed, q⟩ => ?_
    subst ed
    simp only [Den] at d1
    subst d1
    exact ⟨r, rfl, F1, r1, q⟩
  · subst ev
    obtain ⟨u, rfl, ru⟩ := rv.one
    obtain ⟨t, rfl⟩ := ru
    refine ⟨by show 1 ≤ sizeLine; simp [PySem.sizeLine_eq], ?_⟩
    have hfr : H1 s1.heap.objs.size = none := I1.hok.fresh (Nat.le_refl _)
    have I2 := I1.laid (a := s1.heap.objs.size) (o := RestO s1.heap.objs.size) (h' := s1.heap.push { cls := .type "list", data := .seq [Value.int r t].toArray }) (t' := s1.toks) (fun b u e => Heap.get?_push_of_some _ e) (Nat.le_refl _) (rest_ok (r := r) (t := t) (n := 0) (Heap.get?_push_size _ rfl))
    refine store_ok I2 hN hi hx (v := .ref s1.heap.objs.size) rfl (fun s2 I3 => ⟨_, _, I3, ?_⟩) hf
    obtain ⟨r2, s2'⟩ := r1.laid (o := RestO s1.heap.objs.size) hfr
    refine ⟨_, _, r2.set (i := i) (x := .obj RestP) ?_ ?_, q⟩
    · simp only [Den]
      exact ⟨_, rfl, fun G sG => sG _ _ upd_same⟩
    · rw [I.len]; exact (List.getElem?_eq_some_iff.mp hi).1
def rRest : R2 := fun x y H Q => ∃ p, x = .ref p ∧ y = .int 0 ∧ H p = some (RestO p) ∧ ∀ r : Int, Q (.int r) H
theorem rest_at {pins : List (Addr × Obj)} {σ : St} {H : Hp} {s : Shared} {p : Addr} (I : Inv X pins σ H s) (h : H p = some (RestO p)) : ∃ (r : Int) (t : Tok) (n : Nat), s.heap.get? p = some { cls := .type "list", data := .seq #[.int r t] n } := (I.hok p _ h).1
theorem ix_rest : IxR X rRest := by
  intro value slice pins s σ H x y v u Q I rx ry h hs
  obtain ⟨p, rfl, rfl, hp, q⟩ := h
  cases rx
  obtain ⟨t, rfl⟩ := ry
  obtain ⟨r, t', n, e⟩ := rest_at I hp
  have fin : EP X pins σ Q (.int r t') s := ⟨.int r, H, I, ⟨_, rfl⟩, q r⟩
  exact item_listR ⟨_, e, rfl, n, rfl⟩ (by omega) (by simp) (by simp) fin hs
def cRest (ta : TD) : TD := fun env Q => ta env fun x => x = .obj RestP ∧ ∀ r : Int, Q (.int r)
theorem q_rest {p1 : Pos} {j1 : _} (ha : QE X a ta) (hs : PlainIx (.Constant (.int 0) j1 p1) := by intro _ _; rfl) : QE X (.Subscript a (.Constant (.int 0) j1 p1) pos) (cRest ta) := by
  refine ⟨fun B σ F H env Q rp h => wE_of (pe_ix ix_rest pe_w pe_int hs) ?_⟩
  refine wE_mono (ha B σ F H env _ rp h) fun x H1 ⟨F1, d, r1, s1, d1, ed, q⟩ => ?_
  subst ed
  simp only [Den] at d1
  obtain ⟨p, rfl, hp⟩ := d1
  exact ⟨p, rfl, rfl, r1.fh _ _ (hp F1 (Same.refl _)), fun r => ⟨F1, _, r1, s1, den_int, q r⟩⟩
def rSetR : V → V → V → Hp → (Hp → Prop) → Prop := fun o i v H Q => ∃ p r, o = .ref p ∧ i = .int 0 ∧ v = .int r ∧ H p = some (RestO p) ∧ Q H
theorem set_rest : PSet X rSetR := by
  intro pins s σ H o i v ov iv u Q I ro ri rv h
  obtain ⟨p, r, rfl, rfl, rfl, hp, q⟩ := h
  cases ro
  obtain ⟨t, rfl⟩ := ri
  obtain ⟨t2, rfl⟩ := rv
  obtain ⟨r0, t0, n, e⟩ := rest_at I hp
  have e2 : (s.heap.update p (Obj.mapSeq (·.setIfInBounds 0 (.int r t2)))).get? p = some { cls := .type "list", data := .seq #[.int r t2] n } := by
    rw [Heap.get?_update_self _ e (by rfl)]; rfl
  have I' : Inv X pins σ (upd H p (RestO p)) { s with heap := s.heap.update p (Obj.mapSeq (·.setIfInBounds 0 (.int r t2))), toks := s.toks } :=
    I.write (x := p) (e := p) (by rw [hp]; trivial) (.inl rfl) (fun b u hb q => (Heap.get?_update_other _ _ (Ne.symm hb)).trans q) ⟨_, e2⟩ (rest_ok e2)
  rw [upd_self hp] at I'
  exact PySem.W.ki_setAt e (by omega) (by decide) (by simp) ⟨_, I', q⟩
def dRestPut (ta te : TD) : TS3 := fun Z env => te env fun y => ∃ r : Int, y = .int r ∧ ta env fun x => x = .obj RestP ∧ Z.nx env
theorem qs_restPut {p1 p2 : Pos} {j1 : _} (ha : QE X a ta) (he : QE X e te) (hs : swapsWithSole [.Subscript a (.Constant (.int 0) j1 p1) p2] e pos.line X.env = pure false := by rfl) (hw : swappedStores [.Subscript a (.Constant (.int 0) j1 p1) p2] e X.env = pure none := by rfl)
    (h1 : (assignEach [.Subscript a (.Constant (.int 0) j1 p1) p2] X.env).map (·.2) = [assign (.Subscript a (.Constant (.int 0) j1 p1) p2) X.env] := by rfl)
    (hg : ∀ v, assign (.Subscript a (.Constant (.int 0) j1 p1) p2) X.env v = (do
      let ov ← holding [v] (eval a X.env)
      let iv ← holding [v, ov] (eval (.Constant (.int 0) j1 p1) X.env)
      standAt p2
      holding [v, ov, iv] (setItem ov iv v)
      release [v, ov, iv] []) := by intro _; rfl) : QS X (.Assign [.Subscript a (.Constant (.int 0) j1 p1) p2] e pos) (dRestPut ta te) := by
  refine ⟨fun B σ F H env Z rp h => ?_⟩
  refine wS_of (ps_asg pe_w (pg_sub pe_w pe_int set_rest hg) hs hw h1) ?_
  refine wE_mono (he B σ F H env _ rp h) fun y H1 ⟨F1, d, r1, s1, d1, r, ed, q1⟩ => ?_
  subst ed
  simp only [Den] at d1
  subst d1
  refine wE_mono (ha B σ F1 H1 env _ r1 q1) fun x H2 ⟨F2, d2, r2, s2, dd2, ed, q2⟩ => ?_
  subst ed
  simp only [Den] at dd2
  obtain ⟨p, rfl, hp⟩ := dd2
  exact ⟨p, r, rfl, rfl, rfl, r2.fh _ _ (hp F2 (Same.refl _)), F2, env, r2, q2⟩
end
end L2.L3
set_option Elab.async false
set_option linter.all false
set_option maxRecDepth 100000
set_option maxHeartbeats 4000000
namespace L2.L3
open PySem PySem.Spec PyProof.Rows
theorem subT_of {prog : Program} {w : World} {A : Around} {E : Value → Shared → Prop} {s : Shared} {value slice : Expr} {o i : Value} {T id : String} {Q : Value → Shared → Prop}
    (hT : s.TypeIs o T) (hl : typeLookup (.type T) "__getitem__" = pure (some (.builtin id))) (hs : subscripted slice false o i = operate [o, i] (getItem o i)) (h : wpAny (model prog w) A (getItem o i) Q E s) :
    wpAny (model prog w) A (subscriptTail value slice o i) Q E s := by
  unfold subscriptTail
  refine wpAny_bind ?_
  rw [getitemInPython_of_ne hT.not_modules]
  refine wpAny_bind (wpAny_specialOf hT hl ?_)
  have fin : wpAny (model prog w) A (subscripted slice false o i) (fun r s₃ => wpAny (model prog w) A (letTemporaryGo value o r >>= fun _ => pure r) Q E s₃) E s := by
    rw [hs]
    exact wpAny_operating (wpAny_mono h (fun r s₃ h₃ => wpAny_bind (wpAny_letTemporaryGo (wpAny_pure h₃))) fun _ _ x => x)
  first
    | exact wpAny_pure (wpAny_bind fin)
    | exact wpAny_bind (wpAny_pure (wpAny_bind fin))
    | exact wpAny_bind fin
section
variable {X : Cx} {a b : Expr} {ta tb : TD} {pos : Pos}
def rNGet (X : Cx) : R2 := fun x y H Q => ∃ p ep F kvs us vs d z, x = .ref p ∧ Same F H ∧ DicOk kvs ∧ DenL X.K F (kvs.map (·.1)) us ∧ DenL X.K F (kvs.map (·.2)) vs ∧ H p = some (DNo p ep (rowsN kvs us vs)) ∧
  keyN d = true ∧ dep d ≤ 8 ∧ Den X.K F d y ∧ getN kvs d = some z ∧ ∀ w, Den X.K F z w → Q w H
theorem ix_nget (hu : X.A.units + 64 < cLine) : IxR X (rNGet X) := by
  intro value slice pins s σ H x y v u Q I rx ry h hs
  obtain ⟨p, ep, F, kvs, us, vs, d, z, rfl, fh, ok, d1, d2, e, hk, hd, dd, hz, q⟩ := h
  cases rx
  obtain ⟨_, _, es, dh, _⟩ := dno_at I e
  exact subT_of dh.typeIs PySem.F.slot_dict_getitem.lookup hs (dicGet (by omega) I fh ok d1 d2 e hk hd dd ry hz fun w' u' s3 I3 dw rw' => ⟨w', H, I3, rw', q w' dw⟩)
def dgX (x y : D) (Q : D → Prop) : Prop := dgN x y Q ∨ ixD x y Q
theorem o3_dgX : Op3 X (fun x y H Q => rNGet X x y H Q ∨ rIx X.K x y H Q) dgX := by
  intro B σ F H env Q d d' x y Z rp h1 h2 hz hf
  rcases hf with hf | hf
  · obtain ⟨kvs, v, rfl, hk, hd, ok, hv, q⟩ := hf
    simp only [Den] at h1
    obtain ⟨p, rfl, hp⟩ := h1
    obtain ⟨ep, us, vs, hg, g1, g2⟩ := hp F (Same.refl _)
    exact .inl ⟨p, ep, F, kvs, us, vs, d', v, rfl, rp.fh, ok, g1, g2, rp.fh _ _ hg, hk, hd, h2, hv, fun w dw => hz w H F v rp (Same.refl _) dw q⟩
  · exact .inr (o3_ix B σ F H env Q d d' x y Z rp h1 h2 hz hf)
theorem q_dixX (hu : X.A.units + 64 < cLine) (ha : QE X a ta) (hb : QE X b tb) (hs : PlainIx b) : QE X (.Subscript a b pos) (cOp dgX ta tb) := ⟨fun B σ F H env Q rp h => wE_of (pe_ix ((ix_nget hu).or ix_seq) pe_w pe_w hs) (two o3_dgX ha hb rp kRV h)⟩
end
end L2.L3
set_option Elab.async false
set_option linter.all false
set_option maxRecDepth 100000
set_option maxHeartbeats 4000000
namespace L2.L3
open PySem PySem.Spec PyProof.Rows
section
variable {X : Cx} {a b : Expr} {ta tb : TD} {p pos : Pos}
theorem dk_dno {pins : List (Addr × Obj)} {σ : St} {H : Hp} {s : Shared} {p : Addr} {n : Int} {v : V} (I : Inv X pins σ H s) (e : H p = some (.dK [(.inl n, v)])) : ∃ ep, Inv X pins σ (upd H p (DNo p ep [(hashInt n, .int n, v)])) s := by
  obtain ⟨z, hs, vs, rel, o, es, ep, g, c, dd, kk, pp, nd⟩ := (show ObjOk X.prog X.w H s.heap p (.dK [(.inl n, v)]) from I.hok p _ e)
  have rel' : KV [((.inl n : Key), v)] vs := rel
  cases rel' with
  | @cons x y xs ys h t =>
    have : ys = [] := by cases t; rfl
    subst this
    have hes : ∃ en, es.toList = [en] ∧ (mixKind X.prog X.w).is y.1 en.key = true ∧ en.val = y.2 := by
      cases hh : es.toList with
      | nil => rw [hh] at pp; cases pp
      | cons en r =>
        rw [hh] at pp
        cases pp with
        | cons h1 h2 h3 => cases h3; exact ⟨en, rfl, h1, h2⟩
    obtain ⟨en, he, h1, h2⟩ := hes
    have hy : y.1 = .inl n := h.1.symm
    obtain ⟨k, k1, k2⟩ := kk en (by have : en ∈ es.toList := by rw [he]; simp
                                    simpa using this)
    have ek : k = y.1 := (mixKind X.prog X.w).inj _ _ _ k1 h1
    rw [hy] at ek h1
    subst ek
    have kv : ∃ t, en.key = Value.int n t := by
      have h1' : Value.isInt n en.key = true := h1
      cases hh : en.key with
      | int a t =>
        rw [hh] at h1'
        have : a = n := by simp only [Value.isInt, beq_iff_eq] at h1'; first | exact h1' | exact h1'.symm
        subst this; exact ⟨t, rfl⟩
      | _ => rw [hh] at h1'; simp [Value.isInt] at h1'
    have pr : Paired EntR [(hashInt n, V.int n, v)] es.toList := by
      rw [he]
      exact .cons ⟨k2, kv, by rw [h2]; exact h.2⟩ .nil
    refine ⟨ep, ?_⟩
    have := d_write (h' := s.heap) (t' := s.toks) (ob := DNo p ep [(hashInt n, V.int n, v)]) I (by rw [e]; exact True.intro) (.refl ..) ⟨o, g⟩ ⟨⟨by simp [PySem.sizeLine_eq], hs, es, ⟨o, g, c, dd⟩, pr⟩, ⟨o, g⟩, ?_⟩
    · exact this
    · rintro h1 h2 ⟨z, hs, es, ⟨o, ho, c, dd⟩, pr⟩ k
      exact ⟨z, hs, es, ⟨o, k _ ho, c, dd⟩, pr⟩
theorem Rep.setDicAny {K : PySem.W.Frag} {B : Base} {F H : Hp} {σ : St} {e : En} (r : Rep K B F H σ e) {i : Nat} {p : Addr} (ep : Nat) {kvs : List (D × D)} {us vs : List V} (h : H p = none) (hl : i < σ.length) (hd1 : DenL K F (kvs.map (·.1)) us) (hd2 : DenL K F (kvs.map (·.2)) vs) :
    Rep K B F (upd H p (DNo p ep (rowsN kvs us vs))) (σ.set i (some (.ref p))) (e.set i (some (.dic kvs))) := by
  have r1 := r.loose (o := DNo p ep (rowsN kvs us vs)) h
  have hb : B.H p = none := r.h0.free h
  have old : ∀ (j : Nat) (ys : List (D × D)), e[j]? = some (some (.dic ys)) → σ[j]? ≠ some (some (.ref p)) := fun j ys q z => by
    obtain ⟨q1, _, _, _, h1, h2, _⟩ := r.mv j ys q
    rw [z] at h1; cases h1; rw [h] at h2; cases h2
  refine ⟨r1.f0, r1.fh, r1.h0, r1.nf, fun j y q => ?_, fun j y q => ?_, fun j k ys zs q hjk q1 q2 q3 q4 => ?_, fun j y q => ?_, fun j k ys zs q hjk q1 q2 q3 q4 => ?_⟩
  · have z := set_d_ne (fun _ w => by cases w) q
    rw [List.getElem?_set_ne z] at q ⊢; exact r1.dv j y q
  · have z := set_own_ne (fun _ w => by cases w) q
    rw [List.getElem?_set_ne z] at q ⊢; exact r1.ov j y q
  · have z1 := set_own_ne (fun _ w => by cases w) q1
    have z2 := set_own_ne (fun _ w => by cases w) q2
    rw [List.getElem?_set_ne z1] at q1 q3
    rw [List.getElem?_set_ne z2] at q2 q4
    exact r.ne j k ys zs q hjk q1 q2 q3 q4
  · by_cases z : i = j
    · subst z
      by_cases w : i < e.length
      · rw [List.getElem?_set_self w] at q
        cases q
        exact ⟨p, ep, us, vs, List.getElem?_set_self hl, upd_same, r.fnone h, hb, hd1, hd2⟩
      · rw [List.getElem?_eq_none (by simpa using w)] at q; cases q
    · rw [List.getElem?_set_ne z] at q ⊢; exact r1.mv j y q
  · by_cases z1 : i = j
    · subst z1
      rw [List.getElem?_set_ne hjk] at q2 q4
      rw [List.getElem?_set_self hl] at q3
      cases q3
      exact old k zs q2 q4
    · rw [List.getElem?_set_ne z1] at q1 q3
      by_cases z2 : i = k
      · subst z2
        rw [List.getElem?_set_self hl] at q4
        cases q4
        exact old j ys q1 q3
      · rw [List.getElem?_set_ne z2] at q2 q4
        exact r.nm j k ys zs q hjk q1 q2 q3 q4
def dDicOne (i : Nat) (tk tv : TD) : TS3 := fun Z env => tk env fun k => ∃ n : Int, k = .int n ∧ tv env fun v => Z.nx (env.set i (some (.dic [(.int n, v)])))
theorem qs_dicOne {x : Str} {pos' pd : Pos} (i : Nat) (hN : X.N.Nodup) (ha : QE X a ta) (hb : QE X b tb) (hi : X.N[i]? = some x := by rfl) (hx : Loc X.env.scope x := by first | exact Or.inl rfl | exact Or.inr rfl) (hs : swapsWith (.Dict [some a] [b] pd) (some (.Name x pos')) pos.line X.env = pure false := by rfl)
    (hf : X.fn x = true ∨ X.env.scope.names.lookup x = some .local := by first | exact .inl rfl | exact .inr rfl) : QS X (.Assign [.Name x pos'] (.Dict [some a] [b] pd) pos) (dDicOne i ta tb) := by
  refine ⟨fun B σ F H env Z rp h pins s I => ?_⟩
  have hl : i < σ.length := by rw [I.len]; exact (List.getElem?_eq_some_iff.mp hi).1
  refine thn (ps_set (i := i) hN hi hx (pe_disp (pps_cons pe_w pe_w pps_nil) rfl rfl (by simp) (by simp)) hs hf pins s σ H
    { nx := fun σ' H' => ∃ p n v F' d, σ' = σ.set i (some (.ref p)) ∧ H' p = some (.dK [(.inl n, v)]) ∧ Rep X.K B F' (fun b => if b = p then none else H' b) σ env ∧ Den X.K F' d v ∧ Z.nx (env.set i (some (.dic [(.int n, d)]))), rt := fun _ _ => False, bk := fun _ _ => False, ct := fun _ _ => False } I fun p hp => ?_) fun f s' q => ?_
  · have hb0 : B.H p = none := rp.h0.free hp
    refine wE_mono (ha (B.guard p (.dK [])) σ F (upd H p (.dK [])) env _ (rp.guarded hp) h) fun k H1 ⟨F1, d1, r1, s1, e1, n, ed, q1⟩ => ?_
    subst ed
    simp only [Den] at e1
    subst e1
    refine wE_mono (hb _ σ F1 H1 env _ r1 q1) fun v H2 ⟨F2, d2, r2, s2, e2, q2⟩ => ?_
    obtain ⟨r3, hp2, hf2⟩ := r2.unguard hb0
    refine ⟨hp2, [(.inl n, v)], rfl, by simp, p, n, v, F2, d2, rfl, upd_same, ?_, e2, q2⟩
    have e : (fun b => if b = p then none else upd H2 p (.dK (mergeK [] [(.inl n, v)])) b) = fun b => if b = p then none else H2 b := by
      funext b
      by_cases z : b = p
      · rw [if_pos z, if_pos z]
      · rw [if_neg z, if_neg z, upd_ne z]
    rw [e]
    refine ⟨r3.f0, fun b o z => ?_, fun b o z => ?_, r3.nf, r3.dv, fun j xs hj => ?_, r3.ne, fun j xs hj => ?_, r3.nm⟩
    · have : b ≠ p := fun w => by subst w; rw [hf2] at z; cases z
      rw [if_neg this]; exact r3.fh _ _ z
    · have : b ≠ p := fun w => by subst w; rw [hb0] at z; cases z
      rw [if_neg this]; exact r3.h0 _ _ z
    · obtain ⟨p2, us, g1, g2, g3, g4, g5⟩ := r3.ov j xs hj
      have : p2 ≠ p := fun w => by subst w; rw [hp2] at g2; cases g2
      exact ⟨p2, us, g1, by rw [if_neg this]; exact g2, g3, g4, g5⟩
    · obtain ⟨p2, ep, us, vs, g1, g2, g3, g4, g5, g6⟩ := r3.mv j xs hj
      have : p2 ≠ p := fun w => by subst w; rw [hp2] at g2; cases g2
      exact ⟨p2, ep, us, vs, g1, by rw [if_neg this]; exact g2, g3, g4, g5, g6⟩
  · cases f with
    | next =>
      obtain ⟨σ', H', I', p, n, v, F', d, rfl, hp, r, dd, q⟩ := q
      obtain ⟨ep, I2⟩ := dk_dno I' hp
      refine ⟨_, _, I2, F', _, ?_, q⟩
      have h0 : (fun b => if b = p then none else H' b) p = none := if_pos rfl
      have e : upd H' p (DNo p ep [(hashInt n, V.int n, v)]) = upd (fun b => if b = p then none else H' b) p (DNo p ep (rowsN [(D.int n, d)] [V.int n] [v])) := by
        funext b
        by_cases z : b = p
        · subst z; rw [upd_same, upd_same]; rfl
        · rw [upd_ne z, upd_ne z, if_neg z]
      rw [e]
      exact r.setDicAny (i := i) ep h0 hl (denL_cons den_int denL_nil) (denL_cons dd denL_nil)
    | brk => obtain ⟨_, _, _, q⟩ := q; exact q.elim
    | cont => obtain ⟨_, _, _, q⟩ := q; exact q.elim
    | ret u => obtain ⟨_, _, _, _, _, q⟩ := q; exact q.elim
theorem lenN_meets {d : Addr} (hd : (d == sysModules) = false) : MeetsIn X.prog X.w (Builtin.«dict.__len__» ⟨[.ref d], []⟩) (fun _ R s => ∃ es ep, DictHas s.heap d es ep ∧ R (.ok (.ret (.int es.size s.toks))) { s with toks := s.toks + 1 }) := by
  refine .of_wp fun A R s z => ?_
  obtain ⟨es, ep, ⟨o, g, c, dd⟩, last⟩ := z
  show wpAny _ _ (dictSize d >>= _) _ _ s
  unfold dictSize
  refine wpAny_bind (wpAny_bind (wpAny_dictEntries g dd (wpAny_pure ?gg)))
  case gg =>
    show wpAny _ _ (Builtin.Dict.pendingCount d >>= _) _ _ s
    refine wpAny_bind (wpAny_pendingCount_other hd (wpAny_ret_mkInt ?_))
    rw [Nat.add_zero]
    exact last
theorem lenN_call {A : Around} {E : Value → Shared → Prop} {s : Shared} {d : Addr} {es : Array DictEntry} {ep : Nat} {Q : Value → Shared → Prop} (hd : (d == sysModules) = false) (hm : DictHas s.heap d es ep) (fit : (es.size : Int) < 2 ^ 63) (last : Q (.int es.size (s.toks + 1)) { s with toks := s.toks + 1 + 1 }) :
    wpAny (model X.prog X.w) A (call (.builtin "len") [.ref d]) Q E s := by
  refine Calls.call_function_entry kind_len plain_len entry_len (args_len1 _) ?_
  unfold Builtin.«len»
  refine wpAny_bind (m := oneArg "len" _) (wpAny_pure (wpAny_bind (m := callSpecial? (.ref d) (Str.ofString "__len__")) ?_))
  refine wpAny_callSpecial?_slot (name := Str.ofString "__len__") hm.typeIs PySem.F.slot_dict_len ?_
  refine call_meetsIn PySem.F.slot_dict_len hm.typeIs PySem.F.entry_dict_len (PySem.F.args_dict_len_1 _) (lenN_meets hd) ⟨es, ep, hm, ?_⟩
  show wpAny _ _ _ _ _ { s with toks := s.toks + 1 }
  refine wpAny_bind (wpAny_holding (wpAny_pure (wpAny_bind (wpAny_letGo ?_))))
  show wpAny _ _ (if ((es.size : Nat) : Int) < 0 then _ else _) _ _ _
  rw [if_neg (by omega)]
  show wpAny _ _ (if ((es.size : Nat) : Int) ≥ 2 ^ 63 then _ else _) _ _ _
  rw [if_neg (by omega)]
  exact wpAny_bind (wpAny_mkInt (wpAny_pure ⟨_, rfl, last⟩))
theorem call_lenN : CallR X (.builtin "len") (fun xs H Q => ∃ p ep rows, xs = [V.ref p] ∧ H p = some (DNo p ep rows) ∧ Q (.int rows.length) H) := by
  intro pins s σ H xs us Q I r h
  obtain ⟨p, ep, rows, rfl, e, q⟩ := h
  obtain ⟨u, rfl, rx⟩ := vals1 r
  cases rx
  obtain ⟨hz, hs, es, dh, pr⟩ := dno_at I e
  have l := Paired.length pr
  have l' : es.size = rows.length := by simpa using l.symm
  refine lenN_call hs dh (by rw [l', PySem.sizeLine_eq] at *; omega) ?_
  rw [l']
  exact ⟨.int _, H, I.tok _, ⟨_, rfl⟩, q⟩
def cLenDic (i : Nat) : TD := fun env Q => ∃ kvs, env[i]? = some (some (.dic kvs)) ∧ Q (.int (kvs.length : Int))
theorem q_lenDic {x : Str} {px : Pos} (i : Nat) (hm : X.mg "len" = none) (hg : Gl X "len" := by rfl) (hN : X.N[i]? = some x := by rfl) (hv : Vis X.env.scope x := by first | exact Or.inl rfl | exact Or.inr (Or.inl rfl) | exact Or.inr (Or.inr rfl)) (hd : (x == ("__debug__" : Str)) = false := by decide)
    (hcd : (x == ("__classdict__" : Str)) = false := by decide) (he : starEach [.Name x px] X.env = (false, eval (.Name x px) X.env) :: starEach [] X.env := by exact star_of rfl) (hpl : (backTo pos (starEach ([] : List Expr) X.env)).any (·.1) = false := by rfl) :
    QE X (.Call (.Name "len" p) [.Name x px] [] pos) (cLenDic i) := by
  refine ⟨fun B σ F H env Q rp h => wE_of (pe_callB call_lenN hg hm boot_len' (pa_cons (pe_var hN hv hd hcd) pa_nil he) (by decide) (by decide) he hpl) ?_⟩
  obtain ⟨kvs, hx, q⟩ := h
  obtain ⟨p, ep, us, vs, h1, h2, h3, h4, h5, h6⟩ := rp.mv i kvs hx
  refine ⟨.ref p, h1, p, ep, _, rfl, h2, F, .int kvs.length, rp, Same.refl _, ?_, q⟩
  rw [rows_len h5 h6]; exact den_int
end
end L2.L3
set_option Elab.async false
set_option linter.all false
set_option maxRecDepth 100000
set_option maxHeartbeats 4000000
namespace L2.L3
open PySem PySem.Spec PyProof.Rows
section
variable {X : Cx} {e : Expr} {te : TD} {pos : Pos} {t : TS3}
def dForDicN (te : TD) (g : TG3) (t : TS3) : TS3 := fun Z env => te env fun x => ∃ kvs, x = .obj (DicN kvs) ∧ turns g t Z (kvs.map (·.1)) env
theorem qs_forDicN {tg : Expr} {body : List Stmt} {g : TG3} (hp : PassesOwn (model X.prog X.w) X.A X.env X.xe) (hc : X.calm = true) (he : QE X e te) (hg : QG X tg g) (hb : QSs X body t)
    (hs : ∀ z, foldedSetIterable e X.env z = pure z := by intro _; rfl) : QS X (.For tg e body [] pos) (dForDicN te g t) := by
  refine ⟨fun B σ F H env Z rp h => wS_of (ps_for hp hc (pi_dic pe_w) pg_w pss_w hs) ?_⟩
  refine wE_mono (he B σ F H env _ rp h) fun v H1 ⟨F1, d, r1, s1, d1, kvs, ed, q1⟩ => ?_
  subst ed
  simp only [Den] at d1
  obtain ⟨p, rfl, hpp⟩ := d1
  obtain ⟨ep, us, vs, hF, h5, h6⟩ := hpp F1 (Same.refl _)
  refine ⟨p, ep, rowsN kvs us vs, rfl, r1.fh _ _ hF, ?_⟩
  have hl : (rowsN kvs us vs).length = (kvs.map (·.1)).length := by rw [rows_len h5 h6, List.length_map]
  have bk : ∀ {F' H' σ' env'}, Rep X.K ⟨F1, B.H, B.N, B.nb⟩ F' H' σ' env' → Rep X.K B F' H' σ' env' := fun r => Rep.back (B := B) r1.f0 r
  generalize hxs : kvs.map (·.1) = xs at q1 h5 hl
  refine ⟨fun i m σ H => m = xs.length - i ∧ i ≤ xs.length ∧ ∃ F2 env, Rep X.K ⟨F1, B.H, B.N, B.nb⟩ F2 H σ env ∧ turns g t Z (xs.drop i) env, ⟨xs.length, by simp, Nat.zero_le _, F1, _, r1.now, by simpa using q1⟩, ?_⟩
  rintro j m σ2 H2 ⟨rfl, hi2, F2, env2, r2, q2⟩
  have hcell : H2 p = some (DNo p ep (rowsN kvs us vs)) := r2.fh _ _ (r2.f0 _ _ hF)
  by_cases hlt : j < xs.length
  · have hxi : xs[j]? = some xs[j] := by simp [hlt]
    rw [drop_cons hxi] at q2
    refine .inr ⟨⟨hcell, by omega⟩, fun σ' H' => ∃ F3 env, Rep X.K ⟨F1, B.H, B.N, B.nb⟩ F3 H' σ' env ∧ turns g t Z (xs.drop (j + 1)) env, fun σ' H' ⟨F', env', r', q'⟩ => ⟨xs.length - (j + 1), by omega, rfl, by omega, F', env', r', q'⟩, fun z H' hz => ?_⟩
    obtain ⟨rfl, row, hr, rfl⟩ := hz
    obtain ⟨kv, k1, k2, k3, k4⟩ := rows_get hr
    obtain ⟨v, hv', dv'⟩ := h5.get hxi
    rw [k3] at hv'; cases hv'
    refine wG_mono (hg _ σ2 F2 _ env2 _ _ _ r2 (Den.mono r2.f0 _ _ dv') q2) fun σ3 H3 ⟨F3, env3, r3, s3, q3⟩ => ?_
    exact wSs_mono (hb _ σ3 F3 H3 env3 _ r3 q3) (fun _ _ q => q) (fun v H ⟨F', d, r', hd', q'⟩ => ⟨F', d, bk r', hd', q'⟩) (fun v H ⟨F', e', r', q'⟩ => ⟨F', e', bk r', q'⟩) (fun _ _ q => q)
  · have e : j = xs.length := by omega
    subst e
    rw [List.drop_eq_nil_of_le (Nat.le_refl _)] at q2
    exact .inl ⟨⟨hcell, by omega⟩, F2, env2, bk r2, q2⟩
end
end L2.L3
set_option Elab.async false
set_option linter.all false
set_option maxRecDepth 100000
set_option maxHeartbeats 4000000
set_option Elab.async false
set_option linter.all false
set_option maxRecDepth 100000
set_option maxHeartbeats 4000000
set_option Elab.async false
set_option linter.all false
set_option maxRecDepth 100000
set_option maxHeartbeats 4000000
set_option Elab.async false
set_option linter.all false
set_option maxRecDepth 100000
set_option maxHeartbeats 4000000
set_option Elab.async false
set_option linter.all false
set_option maxRecDepth 100000
set_option maxHeartbeats 4000000
set_option Elab.async false
set_option linter.all false
set_option maxRecDepth 100000
set_option maxHeartbeats 4000000
namespace L2.L3
open PySem PySem.Spec PyProof.Rows
section
variable {P : Program} {w : World} {K : PySem.W.Frag} {mg : Str → Option Value} {base : Heap}
end
end L2.L3
set_option Elab.async false
set_option linter.all false
set_option maxRecDepth 100000
set_option maxHeartbeats 4000000
set_option Elab.async false
set_option linter.all false
set_option maxRecDepth 100000
set_option maxHeartbeats 4000000
set_option Elab.async false
set_option linter.all false
set_option maxRecDepth 100000
set_option maxHeartbeats 4000000
set_option Elab.async false
set_option linter.all false
set_option maxRecDepth 100000
set_option maxHeartbeats 4000000
set_option Elab.async false
set_option linter.all false
set_option maxRecDepth 100000
set_option maxHeartbeats 4000000
set_option Elab.async false
set_option linter.all false
set_option maxRecDepth 100000
set_option maxHeartbeats 4000000
set_option Elab.async false
set_option linter.all false
set_option maxRecDepth 100000
set_option maxHeartbeats 4000000
set_option Elab.async false
set_option linter.all false
set_option maxRecDepth 100000
set_option maxHeartbeats 4000000
namespace L2.L3
open PySem PySem.Spec PyProof.Rows
end L2.L3
set_option Elab.async false
set_option linter.all false
set_option maxRecDepth 100000
set_option maxHeartbeats 4000000
namespace L2.L3
open PySem PySem.Spec PyProof.Rows
structure DefIn (K : PySem.W.Frag) (x : Str) (st : Stmt) : Prop where
  ex : ∃ (f : Addr) (oc : Value) (od an : Option Addr) (sl : Array (Option Value)) (kV dc pm cd ct : Value), PySem.W.nsIn K mainGlobals x = some (some (.ref f)) ∧
    K.lookup f = some ⟨oc, od, .func (PySem.W.fnOf x x (defArgs st) (defBody st) (defScope st) .none kV dc pm an cd ct), sl⟩ ∧ PySem.W.codeIn K cd x = true ∧ PySem.W.keepIn K (.ref f) = true
section
variable {K : PySem.W.Frag} {h : Heap} {mg : Str → Option Value} {x : Str} {st : Stmt} {i : Int}
theorem DefIn.get {ps : List Str} (D : DefIn K x st) (X : K.In h) (G : h.Ns mainGlobals mg)
    (hb : ∀ (kV doc pm : Value) (an : Option Addr) (cdv ct : Value) (us : List Value), us.length = ps.length → bindArgs (PySem.W.fnOf x x (defArgs st) (defBody st) (defScope st) .none kV doc pm an cdv ct) ⟨us, []⟩ = pure (ps.zip us)) :
    ∃ fa fd, Fun K x x st fa fd ∧ mg x = some (.ref fa) ∧ Binds K fd ps [] := by
  obtain ⟨f, oc, od, an, sl, kV, dc, pm, cd, ct, a, l, c, k⟩ := D.ex
  have F := fun_mk l c k
  exact ⟨f, _, F, PySem.W.mg_of X G a, F.binds hb⟩
theorem DefIn.law {fa : Addr} {p : Str} (D : DefIn K x st) (X : K.In h) (G : h.Ns mainGlobals mg) (hfa : mg x = some (.ref fa))
    (hb : ∀ (kV doc pm : Value) (an : Option Addr) (cdv ct : Value) (v : Value), bindArgs (PySem.W.fnOf x x (defArgs st) (defBody st) (defScope st) .none kV doc pm an cdv ct) ⟨[v], []⟩ = pure [(p, v)]) :
    ∃ fd, Fun K x x st fa fd ∧ ∀ (s : Shared) (v : Value), BindsTo s fd ⟨[v], []⟩ [(p, v)] := by
  obtain ⟨f, oc, od, an, sl, kV, dc, pm, cd, ct, a, l, c, k⟩ := D.ex
  have e := hfa.symm.trans (PySem.W.mg_of X G a)
  cases e
  exact ⟨_, fun_mk l c k, fun s v => .of_eq (hb kV dc pm an cd ct v)⟩
end
theorem bn1 {P : List Value → Prop} (h : ∀ a, P [a]) : ∀ us : List Value, us.length = 1 → P us | [a], _ => h a
theorem bn2 {P : List Value → Prop} (h : ∀ a b, P [a, b]) : ∀ us : List Value, us.length = 2 → P us | [a, b], _ => h a b
theorem bn3 {P : List Value → Prop} (h : ∀ a b c, P [a, b, c]) : ∀ us : List Value, us.length = 3 → P us | [a, b, c], _ => h a b c
structure Df (K : PySem.W.Frag) (mg : Str → Option Value) (x : Str) (st : Stmt) (ps : List Str) : Prop where
  ex : ∃ fa fd, Fun K x x st fa fd ∧ mg x = some (.ref fa) ∧ Binds K fd ps []
section
variable {P : Program} {w : World} {K : PySem.W.Frag} {mg : Str → Option Value} {base : Heap} {x : Str} {st : Stmt} {N ps : List Str} {k : Nat} {f : Fw} {fx : FwX} {i : Int}
theorem Df.known (F : Df K mg x st ps) (S : FnScope N ps (defScope st)) (hl : ∀ ds Q, f ds Q → ds.length = ps.length)
    (hbody : ∀ (fa : Addr) (cdv : Value) (A : Around) (outer : List Env) (s : Shared) (H : Hp) (E : XK), Room k (A.deeper (envOfC x (defScope st) s.heap.objs.size fa cdv)) →
      ∃ t, QSs (cxOf CX0 P w K mg base N x (defScope st) fa cdv A outer s H E).nox (defBody st) t ∧ ∀ ds (Q : D → Prop), f ds Q → t { nx := fun _ => Q .non, rt := Q } (start3 N ds)) : Known P w K mg base (k + 1) x f :=
  let ⟨fa, _, F, m, b⟩ := F.ex; Fun.known F S m b hl (hbody fa)
end
end L2.L3
set_option Elab.async false
set_option linter.all false
set_option maxRecDepth 100000
set_option maxHeartbeats 4000000
namespace L2.L3
open PySem PySem.Spec PyProof.Rows
def sortedF (ds : List D) (Q : D → Prop) : Prop := match ds with
  | [.lst xs] => ∃ ss : List Str, xs = ss.map D.str ∧ ss.length < 64 ∧ ∀ ss' : List Str, ss'.Perm ss → sortedS ss' = true → Q (.lst (ss'.map D.str))
  | _ => False
theorem strs_vals : ∀ {ys : List Str} {us : List Value}, StrsAre us ys → Vals (ys.map V.str) us
  | _, _, .nil => .nil
  | _, _, .cons y t h => .cons ⟨t, rfl⟩ (strs_vals h)
theorem boot_sorted' : bootBuiltins "sorted" = some (.builtin "sorted") := Boot.sorted
section
variable {X : Cx} {e : Expr} {ts : TDs} {p pos : Pos}
theorem call_sortedS : CallR X (.builtin "sorted") (fun xs H Q => ∃ (p : Addr) (ss : List Str), xs = [.ref p] ∧ SqL X.K H p (ss.map V.str) ∧ ss.length < 64 ∧ ∀ ss' : List Str, ss'.Perm ss → sortedS ss' = true → ∀ q, H q = none → Q (.ref q) (upd H q (.lst (ss'.map V.str)))) := by
  intro pins s σ H xs us Q I r h
  obtain ⟨p, ss, rfl, hq, hl, q⟩ := h
  obtain ⟨u, rfl, rx⟩ := vals1 r
  cases rx
  obtain ⟨its, r', pl, hz⟩ := I.list hq
  have ll := r'.length
  rw [List.length_map] at ll
  refine sorted_strs pl.isList (strs_are r') (by omega) fun out ss' ho hp hs => ?_
  have lo : ss'.length = ss.length := hp.length_eq
  obtain ⟨ep, hat⟩ := sortedAll_at s.heap its out
  refine ⟨.ref (s.heap.objs.size + 1), _, I.laid (t' := s.toks) (fun b u e => sortedAll_old e) (Nat.le_succ _) (show ObjOk X.prog X.w _ _ _ (.lst (ss'.map V.str)) from ⟨by rw [List.length_map, PySem.sizeLine_eq]; omega, out.toList, _, strs_vals ho, by simpa using hat⟩), rfl, q ss' hp hs _ (I.hok.fresh (Nat.le_succ _))⟩
theorem denL_strsM {K : PySem.W.Frag} {F : Hp} : ∀ ys : List Str, DenL K F (ys.map D.str) (ys.map V.str)
  | [] => denL_nil
  | y :: ys => denL_cons den_str (denL_strsM ys)
theorem c3_sorted : Call3 X (fun xs H Q => ∃ (p : Addr) (ss : List Str), xs = [.ref p] ∧ SqL X.K H p (ss.map V.str) ∧ ss.length < 64 ∧ ∀ ss' : List Str, ss'.Perm ss → sortedS ss' = true → ∀ q, H q = none → Q (.ref q) (upd H q (.lst (ss'.map V.str)))) sortedF := by
  intro B σ F H env Q ds vs Z rp h hz hf
  unfold sortedF at hf
  split at hf
  · obtain ⟨ss, rfl, hl, q⟩ := hf
    simp only [DenL, Den] at h
    obtain ⟨v, r, rfl, ⟨p, ys, rfl, q', r⟩, rfl⟩ := h
    have := denL_strs r
    subst this
    refine ⟨p, ss, rfl, rp.fh.seq q', hl, fun ss' hp hs a ha => ?_⟩
    obtain ⟨r2, s2⟩ := rp.laid (o := .lst (ss'.map V.str)) ha
    exact hz _ _ _ _ r2 s2 (den_lst (SqL.of upd_same) (denL_strsM ss')) (q ss' hp hs)
  · exact hf.elim
theorem q_sorted (hm : X.mg "sorted" = none) (ha : QA X [e] ts) (hg : Gl X "sorted" := by rfl) (he : starEach [e] X.env = (false, eval e X.env) :: starEach [] X.env := by exact star_of rfl) : QE X (.Call (.Name "sorted" p) [e] [] pos) (cCall sortedF ts) :=
  q_callB call_sortedS c3_sorted hg hm boot_sorted' ha (he := he)
end
end L2.L3
set_option Elab.async false
set_option linter.all false
set_option maxRecDepth 100000
set_option maxHeartbeats 4000000
namespace L2.L3
open PySem
structure M4 where
  a : Int
  b : Int
  c : Int
  d : Int
  deriving DecidableEq
namespace M4
def mul (m k : M4) : M4 := ⟨m.a * k.a + m.b * k.c, m.a * k.b + m.b * k.d, m.c * k.a + m.d * k.c, m.c * k.b + m.d * k.d⟩
def neg (m : M4) : M4 := ⟨-m.a, -m.b, -m.c, -m.d⟩
def Low (m : M4) : Prop := m.c < 0 ∨ (m.c = 0 ∧ m.d < 0)
instance (m : M4) : Decidable m.Low := inferInstanceAs (Decidable (_ ∨ _))
def one : M4 := ⟨1, 0, 0, 1⟩
end M4
def isLet (c : Nat) : Prop := c = 115 ∨ c = 114 ∨ c = 113
def LW (z : Str) : Prop := ∀ c ∈ z.cps.toList, isLet c
def letM (c : Nat) : M4 := if c = 115 then ⟨0, -1, 1, 0⟩ else if c = 114 then ⟨0, -1, 1, -1⟩ else ⟨1, -1, 1, 0⟩
theorem snoc_ind {α : Type} {P : List α → Prop} (h0 : P []) (hs : ∀ r c, P r → P (r ++ [c])) (xs : List α) : P xs := by
  have h : ∀ ys : List α, P ys.reverse := fun ys => by
    induction ys with
    | nil => exact h0
    | cons y r ih => rw [List.reverse_cons]; exact hs _ _ ih
  simpa using h xs.reverse
end L2.L3
set_option Elab.async false
set_option linter.all false
set_option maxRecDepth 100000
set_option maxHeartbeats 4000000
set_option Elab.async false
set_option linter.all false
set_option maxRecDepth 100000
set_option maxHeartbeats 4000000
namespace L2.L3
open PySem
abbrev Z2 := Int × Int
def frD (x : Z2) : D := .tup [.int x.1, .int x.2]
def LowP (x : Z2) : Prop := x.2 < 0 ∨ (x.2 = 0 ∧ x.1 < 0)
instance (x : Z2) : Decidable (LowP x) := inferInstanceAs (Decidable (_ ∨ _))
end L2.L3
set_option Elab.async false
set_option linter.all false
set_option maxRecDepth 100000
set_option maxHeartbeats 4000000
namespace L2.L3
open PySem
def B2 (n : Nat) (x : Z2) : Prop := Bits n x.1 ∧ Bits n x.2
theorem b2_le {n m : Nat} {x : Z2} (h : B2 n x) (hm : n ≤ m) : B2 m x := ⟨bits_le h.1 hm, bits_le h.2 hm⟩
theorem b2_10 : B2 1 ((1, 0) : Z2) := ⟨bitsL _ _ (by decide), bitsL _ _ (by decide)⟩
end L2.L3
set_option Elab.async false
set_option linter.all false
set_option maxRecDepth 100000
set_option maxHeartbeats 4000000
set_option Elab.async false
set_option linter.all false
set_option maxRecDepth 100000
set_option maxHeartbeats 4000000
namespace L2.L3
open PySem
theorem eqD_fr (x y : Z2) : eqD (frD x) (frD y) = decide (x = y) := by
  simp only [frD, eqD, eqDs, Bool.and_true]
  rw [Bool.eq_iff_iff]; simp [Prod.ext_iff]
theorem dep_fr (x : Z2) : dep (frD x) = 1 := by simp [frD, dep, depL]
theorem neF_fr {x y : Z2} {Q : D → Prop} : neF (frD x) (frD y) Q = Q (.bl (!decide (x = y))) := by
  unfold neF DepOk; rw [dep_fr, dep_fr, eqD_fr]; simp
end L2.L3
set_option Elab.async false
set_option linter.all false
set_option maxRecDepth 100000
set_option maxHeartbeats 4000000
set_option Elab.async false
set_option linter.all false
set_option maxRecDepth 100000
set_option maxHeartbeats 4000000
namespace L2.L3
open PySem
def Eqv (m k : M4) : Prop := m = k ∨ m = k.neg
def prodM : List Nat → M4
  | [] => M4.one
  | c :: r => (letM c).mul (prodM r)
def DifS (p q : Int) : Prop := (p < 0 ∧ 0 < q) ∨ (q < 0 ∧ 0 < p)
instance (p q : Int) : Decidable (DifS p q) := inferInstanceAs (Decidable (_ ∨ _))
def sgnS (c : Nat) : Str := ⟨#[c]⟩
end L2.L3
set_option Elab.async false
set_option linter.all false
set_option maxRecDepth 100000
set_option maxHeartbeats 4000000
namespace L2.L3
open PySem
def pairW (x c : Nat) : Option (List Nat) :=
  if x = 115 ∧ c = 115 then some [] else if x = 114 ∧ c = 114 then some [113] else if x = 113 ∧ c = 113 then some [114] else if (x = 114 ∧ c = 113) ∨ (x = 113 ∧ c = 114) then some [] else none
theorem pair_eqv {x c : Nat} {w : List Nat} (h : pairW x c = some w) : Eqv ((letM x).mul (letM c)) (prodM w) ∧ w.length ≤ 1 ∧ (w = [] ∨ ∃ y, w = [y] ∧ isLet y ∧ y ≠ 115 ∧ x ≠ 115) := by
  unfold pairW at h
  split at h
  · rename_i z; obtain ⟨rfl, rfl⟩ := z; cases h; exact ⟨.inr (by decide), by decide, .inl rfl⟩
  · split at h
    · rename_i z; obtain ⟨rfl, rfl⟩ := z; cases h; exact ⟨by rw [show prodM [113] = letM 113 from by decide]; exact .inr (by decide), by decide, .inr ⟨113, rfl, by unfold isLet; decide, by decide, by decide⟩⟩
    · split at h
      · rename_i z; obtain ⟨rfl, rfl⟩ := z; cases h; exact ⟨by rw [show prodM [114] = letM 114 from by decide]; first | exact .inr (by decide) | exact .inl (by decide), by decide, .inr ⟨114, rfl, by unfold isLet; decide, by decide, by decide⟩⟩
      · split at h
        · rename_i z; cases h
          rcases z with ⟨rfl, rfl⟩ | ⟨rfl, rfl⟩
          · exact ⟨.inr (by decide), by decide, .inl rfl⟩
          · exact ⟨.inr (by decide), by decide, .inl rfl⟩
        · cases h
theorem pair_none {x c : Nat} (hx : isLet x) (hc : isLet c) (h : pairW x c = none) : (x = 115 ↔ ¬ (c = 115)) := by
  rcases hx with z | z | z <;> rcases hc with y | y | y <;> subst z <;> subst y <;> first | (exact absurd h (by decide)) | decide
end L2.L3
set_option Elab.async false
set_option linter.all false
set_option maxRecDepth 100000
set_option maxHeartbeats 4000000
namespace L2.L3
open PySem
theorem ins_get {α : Type} (l : List α) (m : α) (j i : Nat) (hj : j ≤ l.length) : (l.take j ++ m :: l.drop j)[i]? = if i < j then l[i]? else if i = j then some m else l[i - 1]? := by
  have hl : (l.take j).length = j := by rw [List.length_take]; omega
  by_cases h1 : i < j
  · rw [if_pos h1, List.getElem?_append_left (by omega), List.getElem?_take_of_lt h1]
  · rw [if_neg h1, List.getElem?_append_right (by omega), hl]
    by_cases h2 : i = j
    · rw [if_pos h2, h2, Nat.sub_self]; rfl
    · rw [if_neg h2, show i - j = (i - j - 1) + 1 by omega, List.getElem?_cons_succ, List.getElem?_drop]
      congr 1; omega
structure RowOk (k : Nat) (row : List Z2) : Prop where
  len : row.length = k + 3
  first : row[0]? = some (-1, 0)
  last : row[k + 2]? = some (1, 0)
  det : ∀ (i : Nat) (p r : Z2), row[i]? = some p → row[i + 1]? = some r → p.1 * r.2 - p.2 * r.1 = -1
  low : ∀ (i : Nat) (p : Z2), row[i]? = some p → 0 < i → i < k + 2 → 1 ≤ p.2
  nought : ∃ i, 0 < i ∧ i < k + 2 ∧ row[i]? = some (0, 1)
  bits : ∀ p ∈ row, B2 (k + 2) p
theorem row0 : RowOk 0 [(-1, 0), (0, 1), (1, 0)] where
  len := rfl
  first := rfl
  last := rfl
  det := fun i p r h1 h2 => by
    match i with
    | 0 => cases h1; cases h2; decide
    | 1 => cases h1; cases h2; decide
    | 2 => cases h2
    | i + 3 => cases h1
  low := fun i p h h0 h1 => by
    have : i = 1 := by omega
    subst this; cases h; decide
  nought := ⟨1, by decide, by decide, rfl⟩
  bits := fun p hp => by
    simp only [List.mem_cons, List.not_mem_nil, or_false] at hp
    rcases hp with rfl | rfl | rfl <;> exact ⟨bitsL _ _ (by decide), bitsL _ _ (by decide)⟩
theorem row_in {k : Nat} {row : List Z2} (h : RowOk k row) {at_ : Nat} (ha : at_ < k + 2) {p r : Z2} (hp : row[at_]? = some p) (hr : row[at_ + 1]? = some r) :
    RowOk (k + 1) (row.take (at_ + 1) ++ (p.1 + r.1, p.2 + r.2) :: row.drop (at_ + 1)) := by
  have hl := h.len
  have g := fun i => ins_get row (p.1 + r.1, p.2 + r.2) (at_ + 1) i (by omega)
  have hd := h.det at_ p r hp hr
  have pl : 0 ≤ p.2 := by
    by_cases z : at_ = 0
    · subst z; rw [h.first] at hp; cases hp; decide
    · have := h.low at_ p hp (by omega) ha; omega
  have rl : 0 ≤ r.2 := by
    by_cases z : at_ + 1 = k + 2
    · rw [z, h.last] at hr; cases hr; decide
    · have := h.low (at_ + 1) r hr (by omega) (by omega); omega
  have ne : ¬ (p.2 = 0 ∧ r.2 = 0) := fun ⟨a, b⟩ => by rw [a, b] at hd; simp at hd
  refine ⟨by simp; omega, ?_, ?_, fun i x y h1 h2 => ?_, fun i x h1 h0 h2 => ?_, ?_, fun x hx => ?_⟩
  · rw [g, if_pos (by omega)]; exact h.first
  · rw [g, if_neg (by omega), if_neg (by omega)]; exact h.last
  · rw [g] at h1 h2
    by_cases c1 : i < at_
    · rw [if_pos (by omega)] at h1 h2; exact h.det i x y h1 h2
    · by_cases c2 : i = at_
      · subst c2
        rw [if_pos (by omega), hp] at h1
        rw [if_neg (by omega), if_pos rfl] at h2
        cases h1; cases h2
        show p.1 * (p.2 + r.2) - p.2 * (p.1 + r.1) = -1
        grind
      · by_cases c3 : i = at_ + 1
        · subst c3
          rw [if_neg (by omega), if_pos rfl] at h1
          rw [if_neg (by omega), if_neg (by omega), Nat.add_sub_cancel, hr] at h2
          cases h1; cases h2
          show (p.1 + r.1) * r.2 - (p.2 + r.2) * r.1 = -1
          grind
        · rw [if_neg (by omega), if_neg c3] at h1
          rw [if_neg (by omega), if_neg (by omega)] at h2
          exact h.det (i - 1) x y h1 (by rw [show i - 1 + 1 = i + 1 - 1 by omega]; exact h2)
  · rw [g] at h1
    by_cases c1 : i < at_ + 1
    · rw [if_pos c1] at h1; exact h.low i x h1 h0 (by omega)
    · rw [if_neg c1] at h1
      by_cases c2 : i = at_ + 1
      · rw [if_pos c2] at h1; cases h1
        show 1 ≤ p.2 + r.2
        omega
      · rw [if_neg c2] at h1; exact h.low (i - 1) x h1 (by omega) (by omega)
  · obtain ⟨i, h0, h1, h2⟩ := h.nought
    by_cases c1 : i < at_ + 1
    · exact ⟨i, h0, by omega, by rw [g, if_pos c1]; exact h2⟩
    · exact ⟨i + 1, by omega, by omega, by rw [g, if_neg (by omega), if_neg (by omega), Nat.add_sub_cancel]; exact h2⟩
  · have hm : ∀ y ∈ row, B2 (k + 1 + 2) y := fun y hy => b2_le (h.bits y hy) (by omega)
    rcases List.mem_append.mp hx with hx | hx
    · exact hm x (List.mem_of_mem_take hx)
    · rcases List.mem_cons.mp hx with rfl | hx
      · have b1 := h.bits p (List.mem_of_getElem? hp)
        have b2 := h.bits r (List.mem_of_getElem? hr)
        have e : ∀ {x y : Int}, Bits (k + 2) x → Bits (k + 2) y → Bits (k + 1 + 2) (x + y) := fun hx hy => by
          have := bits_add hx hy
          rw [Nat.max_self] at this
          exact bits_le this (by omega)
        exact ⟨e b1.1 b2.1, e b1.2 b2.2⟩
      · exact hm x (List.mem_of_mem_drop hx)
structure FracOk (n : Nat) (fs : List Z2) : Prop where
  len : fs.length = n
  two : 2 ≤ n
  most : n ≤ 22
  first : fs[0]? = some (1, 0)
  det0 : ∀ p, fs[1]? = some p → p.2 = 1
  det : ∀ (i : Nat) (p r : Z2), 0 < i → fs[i]? = some p → fs[i + 1]? = some r → p.1 * r.2 - p.2 * r.1 = -1
  last : ∀ p, fs[n - 1]? = some p → p.2 = 1
  low : ∀ (i : Nat) (p : Z2), fs[i]? = some p → 0 < i → 1 ≤ p.2
  nought : (0, 1) ∈ fs
  bits : ∀ p ∈ fs, B2 30 p
theorem row_frac {k : Nat} {row : List Z2} (h : RowOk k row) (hk : k ≤ 20) : FracOk (k + 2) ((1, 0) :: (row.drop 1).take (k + 1)) := by
  have hl := h.len
  have g : ∀ i, 0 < i → i < k + 2 → ((1, 0) :: (row.drop 1).take (k + 1))[i]? = row[i]? := fun i h0 h1 => by
    rw [show i = (i - 1) + 1 by omega, List.getElem?_cons_succ, List.getElem?_take_of_lt (by omega), List.getElem?_drop]
    congr 1; omega
  have len : ((1, 0) :: (row.drop 1).take (k + 1)).length = k + 2 := by simp; omega
  have lt : ∀ (i : Nat) (p : Z2), ((1, 0) :: (row.drop 1).take (k + 1))[i]? = some p → i < k + 2 := fun i p hp => by
    have := (List.getElem?_eq_some_iff.mp hp).1
    omega
  refine ⟨len, by omega, by omega, rfl, fun p hp => ?_, fun i p r h0 h1 h2 => ?_, fun p hp => ?_, fun i p hp h0 => ?_, ?_, fun p hp => ?_⟩
  · rw [g 1 (by omega) (by omega)] at hp
    have := h.det 0 _ p h.first hp
    simp at this; omega
  · rw [g i h0 (lt _ _ h1)] at h1
    rw [g (i + 1) (by omega) (lt _ _ h2)] at h2
    exact h.det i p r h1 h2
  · rw [show k + 2 - 1 = k + 1 by omega, g (k + 1) (by omega) (by omega)] at hp
    have := h.det (k + 1) p _ hp h.last
    simp at this; omega
  · have := lt _ _ hp
    rw [g i h0 this] at hp
    exact h.low i p hp h0 this
  · obtain ⟨i, h0, h1, h2⟩ := h.nought
    exact List.mem_of_getElem? (i := i) (by rw [g i h0 h1]; exact h2)
  · rcases List.mem_cons.mp hp with rfl | hp
    · exact b2_le b2_10 (by decide)
    · exact b2_le (h.bits p (List.mem_of_mem_drop (List.mem_of_mem_take hp))) (by omega)
theorem atI_map {α : Type} (f : α → D) (l : List α) (i : Nat) (x : α) (h : l[i]? = some x) : atI (l.map f) (i : Int) = some (f x) := by
  rw [atI_nat (by omega) (by have := (List.getElem?_eq_some_iff.mp h).1; simp; omega)]
  simp [h]
theorem ixfr0 {x : Z2} {Q : D → Prop} : ixD (frD x) (.int 0) Q = Q (.int x.1) := by
  apply propext; constructor
  · rintro ⟨v, e, h⟩; cases e; exact h
  · intro h; exact ⟨_, rfl, h⟩
theorem ixfr1 {x : Z2} {Q : D → Prop} : ixD (frD x) (.int 1) Q = Q (.int x.2) := by
  apply propext; constructor
  · rintro ⟨v, e, h⟩; cases e; exact h
  · intro h; exact ⟨_, rfl, h⟩
inductive Mk where
  | half | third | gap (j : Nat)
  deriving DecidableEq
def mkD : Mk → D
  | .half => .str "half"
  | .third => .str "third"
  | .gap j => .int j
structure MarkOk (n : Nat) (ms : List Mk) : Prop where
  len : ms.length = n
  pair : ∀ (i j : Nat), ms[i]? = some (Mk.gap j) → j ≠ i ∧ ms[j]? = some (Mk.gap i)
  few : n = 2 → Mk.third ∈ ms ∧ ∀ (i j : Nat), ms[i]? ≠ some (Mk.gap j)
structure MarkIn (n : Nat) (left : List Nat) (ms : List Mk) : Prop where
  len : ms.length = n
  nd : left.Nodup
  lt : ∀ i ∈ left, i < n
  free : ∀ i ∈ left, ms[i]? = some Mk.half
  pair : ∀ (i j : Nat), ms[i]? = some (Mk.gap j) → j ≠ i ∧ ms[j]? = some (Mk.gap i)
theorem MarkIn.third {n g : Nat} {left : List Nat} {ms : List Mk} (h : MarkIn n (g :: left) ms) : MarkIn n left (ms.set g .third) := by
  have hg := h.free g List.mem_cons_self
  have hnd := List.nodup_cons.mp h.nd
  refine ⟨by rw [List.length_set]; exact h.len, hnd.2, fun i hi => h.lt i (List.mem_cons_of_mem _ hi), fun i hi => ?_, fun i j hij => ?_⟩
  · rw [List.getElem?_set_ne (fun z => by subst z; exact hnd.1 hi)]; exact h.free i (List.mem_cons_of_mem _ hi)
  · have hig : g ≠ i := fun z => by
      subst z
      rw [List.getElem?_set_self (by rw [h.len]; exact h.lt _ List.mem_cons_self)] at hij; cases hij
    rw [List.getElem?_set_ne hig] at hij
    obtain ⟨h1, h2⟩ := h.pair i j hij
    refine ⟨h1, ?_⟩
    have : g ≠ j := fun z => by subst z; rw [hg] at h2; cases h2
    rw [List.getElem?_set_ne this]; exact h2
theorem MarkIn.skip {n g : Nat} {left : List Nat} {ms : List Mk} (h : MarkIn n (g :: left) ms) : MarkIn n left ms :=
  ⟨h.len, (List.nodup_cons.mp h.nd).2, fun i hi => h.lt i (List.mem_cons_of_mem _ hi), fun i hi => h.free i (List.mem_cons_of_mem _ hi), h.pair⟩
theorem MarkIn.two {n g o k : Nat} {left : List Nat} {ms : List Mk} (h : MarkIn n (g :: left) ms) (ho : left[k]? = some o) : MarkIn n (left.eraseIdx k) ((ms.set g (.gap o)).set o (.gap g)) := by
  have hg := h.free g List.mem_cons_self
  have hnd := List.nodup_cons.mp h.nd
  have om : o ∈ left := List.mem_of_getElem? ho
  have hoh := h.free o (List.mem_cons_of_mem _ om)
  have ne : g ≠ o := fun z => hnd.1 (z ▸ om)
  have gl : g < ms.length := by rw [h.len]; exact h.lt _ List.mem_cons_self
  have ol : o < ms.length := by rw [h.len]; exact h.lt _ (List.mem_cons_of_mem _ om)
  have sub : ∀ i ∈ left.eraseIdx k, i ∈ left ∧ i ≠ o := fun i hi => by
    refine ⟨List.mem_of_mem_eraseIdx hi, fun z => ?_⟩
    subst z
    obtain ⟨j, hj1, hj2⟩ := List.mem_eraseIdx_iff_getElem?.mp hi
    obtain ⟨hk, ek⟩ := List.getElem?_eq_some_iff.mp ho
    obtain ⟨hj, ej⟩ := List.getElem?_eq_some_iff.mp hj2
    exact hj1 ((List.getElem_inj (h₀ := hj) (h₁ := hk) hnd.2).mp (by rw [ej, ek]))
  have get : ∀ i, ((ms.set g (.gap o)).set o (.gap g))[i]? = if i = o then some (.gap g) else if i = g then some (.gap o) else ms[i]? := fun i => by
    by_cases c1 : i = o
    · subst c1; rw [if_pos rfl, List.getElem?_set_self (by rw [List.length_set]; exact ol)]
    · rw [if_neg c1, List.getElem?_set_ne (Ne.symm c1)]
      by_cases c2 : i = g
      · subst c2; rw [if_pos rfl, List.getElem?_set_self gl]
      · rw [if_neg c2, List.getElem?_set_ne (Ne.symm c2)]
  refine ⟨by rw [List.length_set, List.length_set]; exact h.len, hnd.2.eraseIdx k, fun i hi => h.lt i (List.mem_cons_of_mem _ (sub i hi).1), fun i hi => ?_, fun i j hij => ?_⟩
  · obtain ⟨h1, h2⟩ := sub i hi
    rw [get, if_neg h2, if_neg (fun z => by subst z; exact hnd.1 h1)]
    exact h.free i (List.mem_cons_of_mem _ h1)
  · rw [get] at hij
    by_cases c1 : i = o
    · rw [if_pos c1] at hij; cases hij
      subst c1
      exact ⟨ne, by rw [get, if_neg ne, if_pos rfl]⟩
    · rw [if_neg c1] at hij
      by_cases c2 : i = g
      · rw [if_pos c2] at hij; cases hij
        subst c2
        exact ⟨Ne.symm ne, by rw [get, if_pos rfl]⟩
      · rw [if_neg c2] at hij
        obtain ⟨h1, h2⟩ := h.pair i j hij
        refine ⟨h1, ?_⟩
        rw [get, if_neg (fun z => by subst z; rw [hoh] at h2; cases h2), if_neg (fun z => by subst z; rw [hg] at h2; cases h2)]
        exact h2
theorem er_map {α β : Type} (f : α → β) : ∀ (l : List α) (k : Nat), (l.map f).eraseIdx k = (l.eraseIdx k).map f
  | [], _ => rfl
  | _ :: _, 0 => rfl
  | a :: l, k + 1 => by show f a :: (l.map f).eraseIdx k = f a :: (l.eraseIdx k).map f; rw [er_map f l k]
theorem depL_mk (ms : List Mk) : depL (ms.map mkD) = 0 := by
  induction ms with
  | nil => rfl
  | cons m r ih => rw [List.map_cons]; simp only [depL, ih]; cases m <;> rfl
theorem depL_nats (l : List Nat) : depL (l.map fun (i : Nat) => D.int i) = 0 := by
  induction l with
  | nil => rfl
  | cons m r ih => rw [List.map_cons]; simp only [depL, ih, dep]; rfl
theorem has_third (ms : List Mk) : ((ms.map mkD).any fun e => eqD e (.str "third")) = decide (Mk.third ∈ ms) := by
  induction ms with
  | nil => rfl
  | cons m r ih =>
    rw [List.map_cons, List.any_cons, ih]
    cases m with
    | half =>
      rw [show eqD (mkD .half) (.str "third") = false by decide]
      simp
    | third => rw [show eqD (mkD .third) (.str "third") = true by decide]; simp
    | gap j => rw [show eqD (mkD (.gap j)) (.str "third") = false from rfl]; simp
def natsD (l : List Nat) : List D := l.map fun (i : Nat) => D.int i
structure FanOk (fs : List Z2) (ms : List Mk) : Prop where
  fr : FracOk fs.length fs
  mar : MarkOk fs.length ms
def fanD (fs : List Z2) (ms : List Mk) : D := .tup [.tup (fs.map frD), .tup (ms.map mkD)]
end L2.L3
set_option Elab.async false
set_option linter.all false
set_option maxRecDepth 100000
set_option maxHeartbeats 4000000
namespace L2.L3
open PySem
section
variable {fs : List Z2} {n : Nat} {g : Nat}
end
theorem ix_map {α : Type} {f : α → D} {l : List α} {i : Nat} {x : α} {Q : D → Prop} (h : l[i]? = some x) (q : Q (f x)) : ixD (.tup (l.map f)) (.int (i : Int)) Q := ⟨_, atI_map f l i x h, q⟩
end L2.L3
set_option Elab.async false
set_option linter.all false
set_option maxRecDepth 100000
set_option maxHeartbeats 4000000
namespace L2.L3
open PySem
end L2.L3
set_option Elab.async false
set_option linter.all false
set_option maxRecDepth 100000
set_option maxHeartbeats 4000000
namespace L2.L3
open PySem L2
def det2 (u v : Z2) : Int := u.1 * v.2 - u.2 * v.1
theorem det2_mid (u v w : Z2) : det2 u w * v.2 = det2 u v * w.2 + det2 v w * u.2 := by unfold det2; grind
theorem neg_left {a b : Int} (h : a * b < 0) (hb : 0 < b) : a < 0 := by
  by_cases c : a < 0
  · exact c
  · have := Int.mul_nonneg (show 0 ≤ a by omega) (Int.le_of_lt hb)
    omega
theorem one_of_mul {a b : Int} (h : a * b = -1) (hb : 0 < b) : b = 1 :=
  Int.eq_one_of_dvd_one (Int.le_of_lt hb) ⟨-a, by rw [Int.mul_neg, Int.mul_comm, h]; rfl⟩
theorem FracOk.lt {n : Nat} {fs : List Z2} (h : FracOk n fs) : ∀ (k i : Nat) (u w : Z2), 0 < i → fs[i]? = some u → fs[i + k + 1]? = some w → det2 u w < 0
  | 0, i, u, w, h0, hu, hw => by
    have := h.det i u w h0 hu hw
    unfold det2; omega
  | k + 1, i, u, w, h0, hu, hw => by
    have hl := (List.getElem?_eq_some_iff.mp hw).1
    obtain ⟨v, hv⟩ : ∃ v, fs[i + k + 1]? = some v := ⟨fs[i + k + 1]'(by omega), List.getElem?_eq_getElem _⟩
    have h1 := FracOk.lt h k i u v h0 hu hv
    have h2 : det2 v w = -1 := h.det (i + k + 1) v w (by omega) hv hw
    have qu := h.low i u hu h0
    have qv := h.low _ v hv (by omega)
    have qw := h.low _ w hw (by omega)
    have e := det2_mid u v w
    rw [h2] at e
    have a1 : det2 u v * w.2 < 0 := Int.mul_neg_of_neg_of_pos h1 (by omega)
    have a2 : det2 u w * v.2 < 0 := by rw [e]; omega
    exact neg_left a2 (by omega)
theorem FracOk.inj {n : Nat} {fs : List Z2} (h : FracOk n fs) {i j : Nat} {u : Z2} (hi : fs[i]? = some u) (hj : fs[j]? = some u) : i = j := by
  have self : det2 u u = 0 := by unfold det2; rw [Int.mul_comm]; omega
  have top : ∀ k : Nat, 0 < k → fs[k]? ≠ some (1, 0) := fun k hk e => by have := h.low k _ e hk; simp at this
  rcases Nat.lt_trichotomy i j with c | c | c
  · exfalso
    by_cases z : 0 < i
    · have := h.lt (j - i - 1) i u u z hi (by rw [show i + (j - i - 1) + 1 = j by omega]; exact hj)
      omega
    · have z' : i = 0 := by omega
      subst z'
      rw [h.first] at hi; cases hi
      exact top j (by omega) hj
  · exact c
  · exfalso
    by_cases z : 0 < j
    · have := h.lt (i - j - 1) j u u z hj (by rw [show j + (i - j - 1) + 1 = i by omega]; exact hi)
      omega
    · have z' : j = 0 := by omega
      subst z'
      rw [h.first] at hj; cases hj
      exact top i (by omega) hi
structure Ear (n : Nat) (fs : List Z2) (i : Nat) (u v w : Z2) : Prop where
  i0 : 0 < i
  il : i < n
  near : fs[i - 1]? = some u
  mid : fs[i]? = some v
  far : fs[(i + 1) % n]? = some w
  ne : v ≠ (0, 1)
  one : (det2 u w).natAbs = 1
theorem ear_max {n : Nat} {fs : List Z2} (h : FracOk n fs) (m : Nat) : ∀ k, k ≤ n → 0 < k → (∀ i, 0 < i → i < k → ∀ p, fs[i]? = some p → p.2 ≤ m) ∨ ∃ i p, 0 < i ∧ i < k ∧ fs[i]? = some p ∧ (m : Int) < p.2 ∧ ∀ j, 0 < j → j < k → ∀ r, fs[j]? = some r → r.2 ≤ p.2
  | 0, _, h0 => absurd h0 (by decide)
  | 1, _, _ => .inl fun i hi h1 => by omega
  | k + 2, hk, _ => by
    have hl := h.len
    obtain ⟨p, hp⟩ : ∃ p, fs[k + 1]? = some p := ⟨fs[k + 1]'(by omega), List.getElem?_eq_getElem _⟩
    rcases ear_max h m (k + 1) (by omega) (by omega) with a | ⟨i, r, i0, il, hr, hm, a⟩
    · by_cases c : p.2 ≤ m
      · refine .inl fun i h0 h1 r hr => ?_
        rcases Nat.lt_succ_iff_lt_or_eq.mp h1 with z | z
        · exact a i h0 z r hr
        · subst z; rw [hp] at hr; cases hr; exact c
      · refine .inr ⟨k + 1, p, by omega, by omega, hp, by omega, fun j h0 h1 r hr => ?_⟩
        rcases Nat.lt_succ_iff_lt_or_eq.mp h1 with z | z
        · have := a j h0 z r hr; omega
        · subst z; rw [hp] at hr; cases hr; exact Int.le_refl _
    · by_cases c : p.2 ≤ r.2
      · refine .inr ⟨i, r, i0, by omega, hr, hm, fun j h0 h1 q hq => ?_⟩
        rcases Nat.lt_succ_iff_lt_or_eq.mp h1 with z | z
        · exact a j h0 z q hq
        · subst z; rw [hp] at hq; cases hq; exact c
      · refine .inr ⟨k + 1, p, by omega, by omega, hp, by omega, fun j h0 h1 q hq => ?_⟩
        rcases Nat.lt_succ_iff_lt_or_eq.mp h1 with z | z
        · have := a j h0 z q hq; omega
        · subst z; rw [hp] at hq; cases hq; exact Int.le_refl _
theorem ear_is {n : Nat} {fs : List Z2} (h : FracOk n fs) (hn : 2 < n) : ∃ i u v w, Ear n fs i u v w := by
  have hl := h.len
  have at_ : ∀ i, i < n → ∃ p, fs[i]? = some p := fun i hi => ⟨fs[i]'(by omega), List.getElem?_eq_getElem _⟩
  rcases ear_max h 1 n (Nat.le_refl _) (by omega) with a | ⟨i, v, i0, il, hv, hm, a⟩
  ·
    obtain ⟨p1, h1⟩ := at_ 1 (by omega)
    obtain ⟨p2, h2⟩ := at_ 2 hn
    obtain ⟨pl, hpl⟩ := at_ (n - 1) (by omega)
    obtain ⟨pk, hpk⟩ := at_ (n - 2) (by omega)
    have q2 : p2.2 = 1 := by have := a 2 (by omega) hn p2 h2; have := h.low 2 p2 h2 (by omega); omega
    have qk : pk.2 = 1 := by have := a (n - 2) (by omega) (by omega) pk hpk; have := h.low _ pk hpk (by omega); omega
    by_cases c : p1 = (0, 1)
    · have cl : pl ≠ (0, 1) := fun e => by
        have := h.inj (i := 1) (j := n - 1) (u := (0, 1)) (by rw [h1, c]) (by rw [hpl, e])
        omega
      refine ⟨n - 1, pk, pl, (1, 0), by omega, by omega, by rw [show n - 1 - 1 = n - 2 by omega]; exact hpk, hpl, ?_, cl, ?_⟩
      · rw [show n - 1 + 1 = n by omega, Nat.mod_self]; exact h.first
      · unfold det2; show (pk.1 * 0 - pk.2 * 1).natAbs = 1; rw [qk]; simp
    · refine ⟨1, (1, 0), p1, p2, by omega, by omega, h.first, h1, ?_, c, ?_⟩
      · rw [Nat.mod_eq_of_lt (by omega)]; exact h2
      · unfold det2; show (1 * p2.2 - 0 * p2.1).natAbs = 1; rw [q2]; simp
  ·
    have i1 : 1 < i := by
      rcases Nat.lt_or_ge 1 i with c | c
      · exact c
      · have : i = 1 := by omega
        subst this
        have := h.det0 v hv; omega
    have i2 : i + 1 < n := by
      rcases Nat.lt_or_ge (i + 1) n with c | c
      · exact c
      · have : i = n - 1 := by omega
        subst this
        have := h.last v hv; omega
    obtain ⟨u, hu⟩ := at_ (i - 1) (by omega)
    obtain ⟨w, hw⟩ := at_ (i + 1) i2
    have d1 : det2 u v = -1 := h.det (i - 1) u v (by omega) hu (by rw [show i - 1 + 1 = i by omega]; exact hv)
    have d2 : det2 v w = -1 := h.det i v w i0 hv hw
    have qu := h.low _ u hu (by omega)
    have qw := h.low _ w hw (by omega)
    have mu := a (i - 1) (by omega) (by omega) u hu
    have mw := a (i + 1) (by omega) i2 w hw
    have e := det2_mid u v w
    rw [d1, d2] at e
    refine ⟨i, u, v, w, i0, il, hu, hv, by rw [Nat.mod_eq_of_lt i2]; exact hw, fun z => by rw [z] at hm; simp at hm, ?_⟩
    have nu : u.2 ≠ v.2 := fun z => by
      unfold det2 at d1
      rw [z, Int.mul_comm v.2] at d1
      have : (u.1 - v.1) * v.2 = -1 := by rw [Int.sub_mul]; exact d1
      have := one_of_mul this (by omega)
      omega
    have nw : w.2 ≠ v.2 := fun z => by
      unfold det2 at d2
      rw [z, Int.mul_comm v.2] at d2
      have : (v.1 - w.1) * v.2 = -1 := by rw [Int.sub_mul]; exact d2
      have := one_of_mul this (by omega)
      omega
    have lo : det2 u w * v.2 < 0 := by rw [e]; omega
    have hi : -(2 * v.2) < det2 u w * v.2 := by rw [e]; omega
    have l1 : det2 u w < 0 := neg_left lo (by omega)
    have l2 : -2 < det2 u w := by
      by_cases c : -2 < det2 u w
      · exact c
      · have := Int.mul_le_mul_of_nonneg_right (show det2 u w ≤ -2 by omega) (show 0 ≤ v.2 by omega)
        omega
    omega
theorem er_get {α : Type} (l : List α) (i j : Nat) : (l.eraseIdx i)[j]? = if j < i then l[j]? else l[j + 1]? := List.getElem?_eraseIdx ..
theorem FracOk.cut {n : Nat} {fs : List Z2} (h : FracOk n fs) (hn : 2 < n) {i : Nat} {u v w : Z2} (e : Ear n fs i u v w) : FracOk (n - 1) (fs.eraseIdx i) := by
  have hl := h.len
  have i0 := e.i0
  have il := e.il
  have hu := e.near
  have hw := e.far
  have one := e.one
  have g := fun j => er_get fs i j
  have sub : ∀ p, p ∈ fs.eraseIdx i → p ∈ fs := fun p hp => List.mem_of_mem_eraseIdx hp
  refine ⟨by rw [List.length_eraseIdx, if_pos (by omega)]; omega, by omega, by have := h.most; omega, ?_, fun p hp => ?_, fun j p r j0 hp hr => ?_, fun p hp => ?_, fun j p hp j0 => ?_, ?_, fun p hp => h.bits p (sub p hp)⟩
  · rw [g, if_pos i0]; exact h.first
  · rw [g] at hp
    by_cases c : 1 < i
    · rw [if_pos c] at hp; exact h.det0 p hp
    · have : i = 1 := by omega
      subst this
      rw [if_neg c] at hp
      rw [Nat.mod_eq_of_lt (by omega)] at hw
      rw [hw] at hp; cases hp
      rw [h.first] at hu; cases hu
      have := h.low _ w hw (by omega)
      unfold det2 at one
      simp at one; omega
  · rw [g] at hp hr
    by_cases c : j + 1 < i
    · rw [if_pos (by omega)] at hp
      rw [if_pos c] at hr
      exact h.det j p r j0 hp hr
    · rw [if_neg c] at hr
      by_cases c2 : j + 1 = i
      · rw [if_pos (by omega)] at hp
        rw [show i - 1 = j by omega, hp] at hu; cases hu
        have := (List.getElem?_eq_some_iff.mp hr).1
        rw [Nat.mod_eq_of_lt (by omega), ← c2, hr] at hw; cases hw
        have := h.lt 1 j _ _ j0 hp hr
        show det2 _ _ = -1
        omega
      · rw [if_neg (by omega)] at hp
        exact h.det (j + 1) p r (by omega) hp hr
  · rw [g] at hp
    by_cases c : i = n - 1
    · rw [if_pos (by omega), show n - 1 - 1 = i - 1 by omega, hu] at hp; cases hp
      rw [c, show n - 1 + 1 = n by omega, Nat.mod_self, h.first] at hw; cases hw
      have := h.low _ u hu (by omega)
      unfold det2 at one
      simp at one; omega
    · rw [if_neg (by omega), show n - 1 - 1 + 1 = n - 1 by omega] at hp
      exact h.last p hp
  · rw [g] at hp
    by_cases c : j < i
    · rw [if_pos c] at hp; exact h.low j p hp j0
    · rw [if_neg c] at hp; exact h.low (j + 1) p hp (by omega)
  · obtain ⟨k, hk⟩ := List.getElem?_of_mem h.nought
    have hk' := (List.getElem?_eq_some_iff.mp hk).1
    have ne : k ≠ i := fun z => by rw [z, e.mid] at hk; exact e.ne (Option.some.inj hk)
    by_cases c : k < i
    · exact List.mem_of_getElem? (i := k) (by rw [g, if_pos c]; exact hk)
    · exact List.mem_of_getElem? (i := k - 1) (by rw [g, if_neg (by omega), show k - 1 + 1 = k by omega]; exact hk)
abbrev Z22 := Z2 × Z2
def nx (n i : Nat) : Nat := if i + 1 = n then 0 else i + 1
def Bd (row : List Z2) (e : Z22) : Prop := ∃ i, row[i]? = some e.1 ∧ row[nx row.length i]? = some e.2
def Inj (row : List Z2) : Prop := ∀ (i j : Nat) (u : Z2), row[i]? = some u → row[j]? = some u → i = j
theorem nx_mod {n i : Nat} (h : i < n) : (i + 1) % n = nx n i := by
  unfold nx
  by_cases c : i + 1 = n
  · rw [if_pos c, c, Nat.mod_self]
  · rw [if_neg c, Nat.mod_eq_of_lt (by omega)]
theorem bd_erase {row : List Z2} (hi : Inj row) {i : Nat} {u v w : Z2} (i0 : 0 < i) (h2 : 2 < row.length)
    (hu : row[i - 1]? = some u) (hv : row[i]? = some v) (hw : row[nx row.length i]? = some w) (e : Z22) :
    Bd (row.eraseIdx i) e ↔ e = (u, w) ∨ (Bd row e ∧ e.1 ≠ v ∧ e.2 ≠ v) := by
  have il := (List.getElem?_eq_some_iff.mp hv).1
  have hl : (row.eraseIdx i).length = row.length - 1 := by rw [List.length_eraseIdx, if_pos il]
  have g := fun j => er_get row i j
  have gap : (row.eraseIdx i)[i - 1]? = some u ∧ (row.eraseIdx i)[nx (row.length - 1) (i - 1)]? = some w := by
    refine ⟨by rw [g, if_pos (by omega)]; exact hu, ?_⟩
    rw [g]
    by_cases c : i + 1 = row.length
    · have e1 : nx (row.length - 1) (i - 1) = 0 := by unfold nx; rw [if_pos (by omega)]
      have e2 : nx row.length i = 0 := by unfold nx; rw [if_pos c]
      rw [e2] at hw
      rw [e1, if_pos i0]; exact hw
    · have e1 : nx (row.length - 1) (i - 1) = i := by unfold nx; rw [if_neg (by omega)]; omega
      have e2 : nx row.length i = i + 1 := by unfold nx; rw [if_neg c]
      rw [e2] at hw
      rw [e1, if_neg (by omega)]; exact hw
  have nv : ∀ j x, row[j]? = some x → j ≠ i → x ≠ v := fun j x hj hne z => hne (hi j i v (z ▸ hj) hv)
  constructor
  · rintro ⟨j, ha, hb⟩
    rw [hl] at hb
    by_cases c1 : j + 1 = i
    · have : j = i - 1 := by omega
      subst this
      left
      rw [gap.1] at ha; rw [gap.2] at hb
      exact Prod.ext (Option.some.inj ha).symm (Option.some.inj hb).symm
    · right
      rw [g] at ha hb
      by_cases c2 : j < i
      · have e1 : nx (row.length - 1) j = j + 1 := by unfold nx; rw [if_neg (by omega)]
        have e2 : nx row.length j = j + 1 := by unfold nx; rw [if_neg (by omega)]
        rw [if_pos c2] at ha
        rw [e1, if_pos (by omega)] at hb
        exact ⟨⟨j, ha, by rw [e2]; exact hb⟩, nv j _ ha (by omega), nv (j + 1) _ hb (by omega)⟩
      · rw [if_neg c2] at ha
        by_cases c3 : j + 1 = row.length - 1
        · have e1 : nx (row.length - 1) j = 0 := by unfold nx; rw [if_pos c3]
          have e2 : nx row.length (j + 1) = 0 := by unfold nx; rw [if_pos (by omega)]
          rw [e1, if_pos i0] at hb
          exact ⟨⟨j + 1, ha, by rw [e2]; exact hb⟩, nv _ _ ha (by omega), nv 0 _ hb (by omega)⟩
        · have e1 : nx (row.length - 1) j = j + 1 := by unfold nx; rw [if_neg c3]
          have e2 : nx row.length (j + 1) = j + 2 := by unfold nx; rw [if_neg (by omega)]
          rw [e1, if_neg (by omega)] at hb
          exact ⟨⟨j + 1, ha, by rw [e2]; exact hb⟩, nv _ _ ha (by omega), nv _ _ hb (by omega)⟩
  · rintro (rfl | ⟨⟨j, ha, hb⟩, h1, h2'⟩)
    · exact ⟨i - 1, gap.1, by rw [hl]; exact gap.2⟩
    · have j1 : j ≠ i := fun z => h1 (by rw [z, hv] at ha; exact (Option.some.inj ha).symm)
      have j2 : nx row.length j ≠ i := fun z => h2' (by rw [z, hv] at hb; exact (Option.some.inj hb).symm)
      have jl := (List.getElem?_eq_some_iff.mp ha).1
      by_cases c : j < i
      · have e2 : nx row.length j = j + 1 := by unfold nx; rw [if_neg (by omega)]
        rw [e2] at hb j2
        refine ⟨j, by rw [g, if_pos c]; exact ha, ?_⟩
        have e1 : nx (row.length - 1) j = j + 1 := by unfold nx; rw [if_neg (by omega)]
        rw [hl, e1, g, if_pos (by omega)]; exact hb
      · refine ⟨j - 1, by rw [g, if_neg (by omega), show j - 1 + 1 = j by omega]; exact ha, ?_⟩
        rw [hl, g]
        by_cases c3 : j + 1 = row.length
        · have e1 : nx (row.length - 1) (j - 1) = 0 := by unfold nx; rw [if_pos (by omega)]
          have e2 : nx row.length j = 0 := by unfold nx; rw [if_pos c3]
          rw [e2] at hb
          rw [e1, if_pos i0]; exact hb
        · have e1 : nx (row.length - 1) (j - 1) = j := by unfold nx; rw [if_neg (by omega)]; omega
          have e2 : nx row.length j = j + 1 := by unfold nx; rw [if_neg c3]
          rw [e2] at hb
          rw [e1, if_neg (by omega)]; exact hb
end L2.L3
set_option Elab.async false
set_option linter.all false
set_option maxRecDepth 100000
set_option maxHeartbeats 4000000
namespace L2.L3
open PySem L2
abbrev Tile := Z2 × Z2 × Z2
def te (t : Tile) : List Z22 := [(t.1, t.2.1), (t.2.1, t.2.2), (t.2.2, t.1)]
def edg (ts : List Tile) : List Z22 := ts.flatMap te
def rv (e : Z22) : Z22 := (e.2, e.1)
def ed1 : Z22 := ((1, 0), (0, 1))
def ed2 : Z22 := ((0, 1), (1, 0))
inductive TilesOf : List Z2 → List Tile → Prop
  | done {row : List Z2} : row.length = 2 → TilesOf row []
  | cut {row : List Z2} {i : Nat} {u v w : Z2} {ts : List Tile} : 2 < row.length → Ear row.length row i u v w → TilesOf (row.eraseIdx i) ts → TilesOf row ((u, v, w) :: ts)
theorem mem_edg {t : Tile} {ts : List Tile} {e : Z22} : e ∈ edg (t :: ts) ↔ e = (t.1, t.2.1) ∨ e = (t.2.1, t.2.2) ∨ e = (t.2.2, t.1) ∨ e ∈ edg ts := by
  unfold edg te
  simp only [List.flatMap_cons, List.mem_append, List.mem_cons, List.not_mem_nil, or_false, or_assoc]
theorem Bd.next {row : List Z2} (hi : Inj row) {a b c : Z2} (h1 : Bd row (a, b)) (h2 : Bd row (a, c)) : b = c := by
  obtain ⟨i, a1, b1⟩ := h1
  obtain ⟨j, a2, b2⟩ := h2
  have := hi i j a a1 a2
  subst this
  rw [b1] at b2
  exact Option.some.inj b2
theorem Bd.back {row : List Z2} (hi : Inj row) (hl : 2 < row.length) {a b : Z2} (h1 : Bd row (a, b)) (h2 : Bd row (b, a)) : False := by
  obtain ⟨i, a1, b1⟩ := h1
  obtain ⟨j, b2, a2⟩ := h2
  have e1 := hi _ _ _ b1 b2
  have e2 := hi _ _ _ a1 a2
  have l1 := (List.getElem?_eq_some_iff.mp a1).1
  have l2 := (List.getElem?_eq_some_iff.mp b2).1
  unfold nx at e1 e2
  split at e1 <;> split at e2 <;> omega
theorem Bd.mem {row : List Z2} {e : Z22} (h : Bd row e) : e.1 ∈ row ∧ e.2 ∈ row := by
  obtain ⟨i, a, b⟩ := h
  exact ⟨List.mem_of_getElem? a, List.mem_of_getElem? b⟩
structure Cut (row row' : List Z2) (u v w : Z2) : Prop where
  inj : Inj row
  inj' : Inj row'
  more : 2 < row.length
  one : Bd row (u, v)
  two : Bd row (v, w)
  bd : ∀ e, Bd row' e ↔ e = (u, w) ∨ (Bd row e ∧ e.1 ≠ v ∧ e.2 ≠ v)
  off : v ∉ row'
  ne0 : v ≠ (0, 1)
  ne1 : v ≠ (1, 0)
  uv : u ≠ v
  vw : v ≠ w
  uw : u ≠ w
  sub : ∀ p ∈ row', p ∈ row
  mu : u ∈ row
  mv : v ∈ row
  mw : w ∈ row
theorem FracOk.cutOk {row : List Z2} (h : FracOk row.length row) (hn : 2 < row.length) {i : Nat} {u v w : Z2} (e : Ear row.length row i u v w) : Cut row (row.eraseIdx i) u v w := by
  have i0 := e.i0
  have il := e.il
  have hi : Inj row := fun _ _ _ => h.inj
  have hw := e.far
  rw [nx_mod il] at hw
  have hc := h.cut hn e
  have n1 : nx row.length (i - 1) = i := by unfold nx; rw [if_neg (by omega)]; omega
  have b1 : Bd row (u, v) := ⟨i - 1, e.near, by rw [n1]; exact e.mid⟩
  have b2 : Bd row (v, w) := ⟨i, e.mid, hw⟩
  have uv : u ≠ v := fun z => by
    have := hi _ _ _ e.near (z ▸ e.mid); omega
  refine ⟨hi, fun _ _ _ => hc.inj, hn, b1, b2, bd_erase hi i0 hn e.near e.mid hw, fun hm => ?_, e.ne, fun z => ?_, uv, fun z => ?_, fun z => ?_, fun p hp => List.mem_of_mem_eraseIdx hp, b1.mem.1, b1.mem.2, b2.mem.2⟩
  · obtain ⟨j, hj⟩ := List.getElem?_of_mem hm
    rw [er_get] at hj
    by_cases c : j < i
    · rw [if_pos c] at hj
      have := hi _ _ _ hj e.mid; omega
    · rw [if_neg c] at hj
      have := hi _ _ _ hj e.mid; omega
  · have := hi _ _ _ h.first (z ▸ e.mid); omega
  · have := hi _ _ _ (z ▸ e.mid) hw
    unfold nx at this; split at this <;> omega
  · have := hi _ _ _ (z ▸ e.near) hw
    unfold nx at this; split at this <;> omega
theorem FracOk.pair {row : List Z2} (h : FracOk row.length row) (h2 : row.length = 2) : row = [(1, 0), (0, 1)] := by
  match row, h2, h.first, h.nought with
  | [a, b], _, f, m =>
    cases (Option.some.inj f : a = (1, 0))
    simp at m
    rw [← m]
theorem bd_pair (e : Z22) : Bd [(1, 0), (0, 1)] e ↔ e = ed1 ∨ e = ed2 := by
  constructor
  · rintro ⟨i, a, b⟩
    match i with
    | 0 => exact .inl (Prod.ext (Option.some.inj a).symm (Option.some.inj b).symm)
    | 1 => exact .inr (Prod.ext (Option.some.inj a).symm (Option.some.inj b).symm)
    | i + 2 => cases a
  · rintro (rfl | rfl)
    · exact ⟨0, rfl, rfl⟩
    · exact ⟨1, rfl, rfl⟩
structure TileOk (row : List Z2) (ts : List Tile) : Prop where
  inn : ∀ e ∈ edg ts, e.1 ∈ row ∧ e.2 ∈ row
  ne : ∀ e ∈ edg ts, e.1 ≠ e.2
  none : ∀ e, Bd row e → rv e ∉ edg ts
  dif : (edg ts).Nodup
  a : ed1 ∈ edg ts ↔ ¬ Bd row ed2
  b : ed2 ∈ edg ts ↔ ¬ Bd row ed1
  c : ∀ e, Bd row e → e ≠ ed1 → e ≠ ed2 → e ∈ edg ts
  d : ∀ e ∈ edg ts, ¬ Bd row e → e ≠ ed1 → e ≠ ed2 → rv e ∈ edg ts
  e : ∀ S : Z22 → Prop, (∀ t ∈ ts, (S (t.1, t.2.1) → S (t.2.1, t.2.2)) ∧ (S (t.2.1, t.2.2) → S (t.2.2, t.1)) ∧ (S (t.2.2, t.1) → S (t.1, t.2.1))) → (∀ e ∈ edg ts, ¬ Bd row e → S e → S (rv e)) → (ed1 ∈ edg ts → S ed1) → (ed2 ∈ edg ts → S ed2) → ∀ e ∈ edg ts, S e
theorem tile_done : TileOk [(1, 0), (0, 1)] [] where
  inn := fun e h => by cases h
  ne := fun e h => by cases h
  none := fun e _ h => by cases h
  dif := List.nodup_nil
  a := ⟨fun h => absurd h (by simp [edg]), fun h => absurd ((bd_pair _).mpr (.inr rfl)) h⟩
  b := ⟨fun h => absurd h (by simp [edg]), fun h => absurd ((bd_pair _).mpr (.inl rfl)) h⟩
  c := fun e h h1 h2 => ((bd_pair e).mp h).elim (fun z => absurd z h1) (fun z => absurd z h2)
  d := fun e h => by cases h
  e := fun S _ _ _ _ e h => by cases h
theorem tile_ends {row row' : List Z2} {u v w : Z2} {ts : List Tile} (k : Cut row row' u v w) (h : TileOk row' ts) {x y : Z22} (hr : rv x = y) (hx : x.1 ≠ v ∧ x.2 ≠ v)
    (h' : x ∈ edg ts ↔ ¬ Bd row' y) : x ∈ edg ((u, v, w) :: ts) ↔ ¬ Bd row y := by
  subst hr
  rw [mem_edg]
  by_cases c : x = (w, u)
  · subst c
    refine ⟨fun _ hb => ?_, fun _ => .inr (.inr (.inl rfl))⟩
    exact k.vw (Bd.next k.inj k.one hb)
  · have : Bd row' (rv x) ↔ Bd row (rv x) := by
      rw [k.bd]
      refine ⟨?_, fun hb => .inr ⟨hb, hx.2, hx.1⟩⟩
      rintro (z | z)
      · exact absurd (by have := congrArg rv z; exact this) c
      · exact z.1
    rw [← this, ← h']
    refine ⟨?_, fun m => .inr (.inr (.inr m))⟩
    rintro (z | z | z | z)
    · exact absurd (by rw [z]) hx.2
    · exact absurd (by rw [z]) hx.1
    · exact absurd z c
    · exact z
theorem tile_cut {row row' : List Z2} {u v w : Z2} {ts : List Tile} (k : Cut row row' u v w) (h : TileOk row' ts) : TileOk row ((u, v, w) :: ts) := by
  have novert : ∀ e ∈ edg ts, e.1 ≠ v ∧ e.2 ≠ v := fun e he => ⟨fun z => k.off (z ▸ (h.inn e he).1), fun z => k.off (z ▸ (h.inn e he).2)⟩
  have buw : Bd row' (u, w) := (k.bd _).mpr (.inl rfl)
  have nuw : ¬ Bd row (u, w) := fun hb => k.vw (Bd.next k.inj k.one hb)
  have nwu : (w, u) ∉ edg ts := h.none (u, w) buw
  refine ⟨fun e he => ?_, fun e he => ?_, fun e hb he => ?_, ?_, tile_ends k h rfl ⟨fun z => k.ne1 z.symm, fun z => k.ne0 z.symm⟩ h.a, tile_ends k h rfl ⟨fun z => k.ne0 z.symm, fun z => k.ne1 z.symm⟩ h.b, fun e hb n1 n2 => ?_, fun e he hb n1 n2 => ?_, fun S hr hv h1 h2 => ?_⟩
  · rcases mem_edg.mp he with rfl | rfl | rfl | m
    · exact ⟨k.mu, k.mv⟩
    · exact ⟨k.mv, k.mw⟩
    · exact ⟨k.mw, k.mu⟩
    · exact ⟨k.sub _ (h.inn e m).1, k.sub _ (h.inn e m).2⟩
  · rcases mem_edg.mp he with rfl | rfl | rfl | m
    · exact k.uv
    · exact k.vw
    · exact fun z => k.uw z.symm
    · exact h.ne e m
  · rcases mem_edg.mp he with z | z | z | m
    · have : e = (v, u) := congrArg rv z
      exact Bd.back k.inj k.more k.one (this ▸ hb)
    · have : e = (w, v) := congrArg rv z
      exact Bd.back k.inj k.more k.two (this ▸ hb)
    · have : e = (u, w) := congrArg rv z
      exact nuw (this ▸ hb)
    · have nv := novert _ m
      exact h.none e ((k.bd e).mpr (.inr ⟨hb, nv.2, nv.1⟩)) m
  · show (te (u, v, w) ++ edg ts).Nodup
    refine List.nodup_append.mpr ⟨?_, h.dif, ?_⟩
    · unfold te
      simp only [List.nodup_cons, List.mem_cons, List.not_mem_nil, or_false, not_or, Prod.mk.injEq, not_and, not_false_eq_true, List.nodup_nil, and_true]
      exact ⟨⟨fun z => absurd z k.uv, fun z => absurd z k.uw⟩, fun z => absurd z k.vw⟩
    · intro a ha b hb z
      subst z
      have nv := novert _ hb
      unfold te at ha
      simp only [List.mem_cons, List.not_mem_nil, or_false] at ha
      rcases ha with rfl | rfl | rfl
      · exact nv.2 rfl
      · exact nv.1 rfl
      · exact nwu hb
  · by_cases c : e.1 = v
    · have : e = (v, w) := Prod.ext c (Bd.next k.inj (show Bd row (v, e.2) by rw [← c]; exact hb) k.two)
      exact mem_edg.mpr (.inr (.inl this))
    · by_cases c2 : e.2 = v
      · obtain ⟨i, a1, b1⟩ := hb
        obtain ⟨j, a2, b2⟩ := k.one
        have il := (List.getElem?_eq_some_iff.mp a1).1
        have jl := (List.getElem?_eq_some_iff.mp a2).1
        have := k.inj _ _ v (c2 ▸ b1) b2
        have ij : i = j := by unfold nx at this; split at this <;> split at this <;> omega
        subst ij
        rw [a1] at a2
        exact mem_edg.mpr (.inl (Prod.ext (Option.some.inj a2) c2))
      · exact mem_edg.mpr (.inr (.inr (.inr (h.c e ((k.bd e).mpr (.inr ⟨hb, c, c2⟩)) n1 n2))))
  · rcases mem_edg.mp he with z | z | z | m
    · exact absurd (z ▸ k.one) hb
    · exact absurd (z ▸ k.two) hb
    · have : rv e = (u, w) := congrArg rv z
      rw [this]
      refine mem_edg.mpr (.inr (.inr (.inr (h.c _ buw (fun q => n2 ?_) (fun q => n1 ?_)))))
      · rw [z]; exact congrArg rv q
      · rw [z]; exact congrArg rv q
    · by_cases c : Bd row' e
      · rcases (k.bd e).mp c with rfl | ⟨q, _⟩
        · exact mem_edg.mpr (.inr (.inr (.inl rfl)))
        · exact absurd q hb
      · exact mem_edg.mpr (.inr (.inr (.inr (h.d e m c n1 n2))))
  · have old : ∀ e ∈ edg ts, S e := h.e S (fun t ht => hr t (List.mem_cons_of_mem _ ht)) (fun e he hb => by
        refine hv e (mem_edg.mpr (.inr (.inr (.inr he)))) fun q => hb ?_
        have nv := novert e he
        exact (k.bd e).mpr (.inr ⟨q, nv.1, nv.2⟩)) (fun m => h1 (mem_edg.mpr (.inr (.inr (.inr m))))) (fun m => h2 (mem_edg.mpr (.inr (.inr (.inr m)))))
    have r := hr (u, v, w) (List.mem_cons_self ..)
    have last : S (w, u) := by
      by_cases c1 : (u, w) = ed1
      · have : (w, u) = ed2 := congrArg rv c1
        rw [this]; exact h2 (mem_edg.mpr (.inr (.inr (.inl this.symm))))
      · by_cases c2 : (u, w) = ed2
        · have : (w, u) = ed1 := congrArg rv c2
          rw [this]; exact h1 (mem_edg.mpr (.inr (.inr (.inl this.symm))))
        · have m := h.c _ buw c1 c2
          exact hv (u, w) (mem_edg.mpr (.inr (.inr (.inr m)))) nuw (old _ m)
    intro e he
    rcases mem_edg.mp he with rfl | rfl | rfl | m
    · exact r.2.2 last
    · exact r.1 (r.2.2 last)
    · exact last
    · exact old e m
theorem tiles_ok {row : List Z2} {ts : List Tile} (t : TilesOf row ts) : FracOk row.length row → TileOk row ts := by
  induction t with
  | done h2 => intro h; rw [h.pair h2]; exact tile_done
  | cut hn e _ ih =>
    rename_i row i u v w ts _
    intro h
    have hc := h.cut hn e
    have hl : (row.eraseIdx i).length = row.length - 1 := by rw [List.length_eraseIdx, if_pos e.il]
    exact tile_cut (h.cutOk hn e) (ih (by rw [hl]; exact hc))
end L2.L3
set_option Elab.async false
set_option linter.all false
set_option maxRecDepth 100000
set_option maxHeartbeats 4000000
namespace L2.L3
open PySem L2
inductive Pla where
  | gap (i : Nat) | edge (e : Z22)
  deriving DecidableEq
def gapE (fs : List Z2) (i : Nat) : Z22 := (fs.getD i (1, 0), fs.getD (nx fs.length i) (1, 0))
theorem nx_lt {n i : Nat} (h : i < n) : nx n i < n := by unfold nx; split <;> omega
section
variable {fs : List Z2} {ms : List Mk} {ts : List Tile} {ha th : Pla → Option Pla}
theorem get_D {l : List Z2} {i : Nat} (h : i < l.length) : l[i]? = some (l.getD i (1, 0)) := by
  rw [List.getD_eq_getElem?_getD, List.getElem?_eq_getElem h]; rfl
theorem gapE_bd {i : Nat} (h : i < fs.length) : Bd fs (gapE fs i) := ⟨i, get_D h, get_D (nx_lt h)⟩
theorem bd_gapE {e : Z22} (h : Bd fs e) : ∃ i, i < fs.length ∧ e = gapE fs i := by
  obtain ⟨i, h1, h2⟩ := h
  have hi := (List.getElem?_eq_some_iff.mp h1).1
  rw [get_D hi] at h1
  rw [get_D (nx_lt hi)] at h2
  exact ⟨i, hi, Prod.ext (Option.some.inj h1).symm (Option.some.inj h2).symm⟩
theorem gapE_inj (h : FracOk fs.length fs) {i j : Nat} (hi : i < fs.length) (hj : j < fs.length) (e : gapE fs i = gapE fs j) : i = j :=
  h.inj (get_D hi) (by rw [get_D hj]; exact congrArg some (congrArg Prod.fst e).symm)
structure Links (fs : List Z2) (ms : List Mk) (ts : List Tile) (ha th : Pla → Option Pla) : Prop where
  rot : ∀ t ∈ ts, th (.edge (t.1, t.2.1)) = some (.edge (t.2.1, t.2.2)) ∧ th (.edge (t.2.1, t.2.2)) = some (.edge (t.2.2, t.1)) ∧ th (.edge (t.2.2, t.1)) = some (.edge (t.1, t.2.1))
  thg : ∀ i, ms[i]? = some Mk.third → th (.gap i) = some (.gap i)
  hag : ∀ i, ms[i]? = some Mk.third → ha (.gap i) = some (.edge (gapE fs i)) ∧ ha (.edge (gapE fs i)) = some (.gap i)
  hah : ∀ i, ms[i]? = some Mk.half → ha (.edge (gapE fs i)) = some (.edge (gapE fs i))
  ham : ∀ i j, ms[i]? = some (Mk.gap j) → ha (.edge (gapE fs i)) = some (.edge (gapE fs j))
  hai : ∀ e ∈ edg ts, ¬ Bd fs e → ha (.edge e) = some (.edge (rv e))
def isPl (ms : List Mk) (ts : List Tile) : Pla → Prop
  | .gap i => ms[i]? = some Mk.third
  | .edge e => e ∈ edg ts
theorem edg_tile {e : Z22} (h : e ∈ edg ts) : ∃ t ∈ ts, e ∈ te t := List.mem_flatMap.mp h
theorem edg_of {t : Tile} (h : t ∈ ts) {e : Z22} (he : e ∈ te t) : e ∈ edg ts := List.mem_flatMap.mpr ⟨t, h, he⟩
theorem gap_in (h : FracOk fs.length fs) (hn : 2 < fs.length) (k : TileOk fs ts) {i : Nat} (hi : i < fs.length) : gapE fs i ∈ edg ts := by
  have hb := gapE_bd hi
  have inj : Inj fs := fun _ _ _ => h.inj
  by_cases c1 : gapE fs i = ed1
  · rw [c1] at hb ⊢
    exact k.a.mpr fun h2 => Bd.back inj hn hb h2
  · by_cases c2 : gapE fs i = ed2
    · rw [c2] at hb ⊢
      exact k.b.mpr fun h2 => Bd.back inj hn h2 hb
    · exact k.c _ hb c1 c2
theorem rv_in (k : TileOk fs ts) {e : Z22} (he : e ∈ edg ts) (hb : ¬ Bd fs e) : rv e ∈ edg ts := by
  by_cases c1 : e = ed1
  · subst c1; exact k.b.mpr hb
  · by_cases c2 : e = ed2
    · subst c2; exact k.a.mpr hb
    · exact k.d e he hb c1 c2
theorem mka_at (m : MarkOk fs.length ms) {i : Nat} (hi : i < fs.length) : ms[i]? = some Mk.half ∨ ms[i]? = some Mk.third ∨ ∃ j, j < fs.length ∧ ms[i]? = some (Mk.gap j) := by
  have hl := m.len
  have : ms[i]? = some (ms[i]'(by omega)) := List.getElem?_eq_getElem _
  cases e : ms[i]'(by omega) with
  | half => rw [e] at this; exact .inl this
  | third => rw [e] at this; exact .inr (.inl this)
  | gap j =>
    rw [e] at this
    have q := (List.getElem?_eq_some_iff.mp (m.pair i j this).2).1
    exact .inr (.inr ⟨j, by omega, this⟩)
theorem mka_lt (m : MarkOk fs.length ms) {i : Nat} {x : Mk} (h : ms[i]? = some x) : i < fs.length := by
  have := (List.getElem?_eq_some_iff.mp h).1; have := m.len; omega
theorem ha_total (h : FanOk fs ms) (hn : 2 < fs.length) (k : TileOk fs ts) (l : Links fs ms ts ha th) {p : Pla} (hp : isPl ms ts p) : ∃ q, ha p = some q ∧ isPl ms ts q ∧ ha q = some p := by
  cases p with
  | gap i =>
    have hp' : ms[i]? = some Mk.third := hp
    exact ⟨_, (l.hag i hp').1, gap_in h.fr hn k (mka_lt h.mar hp'), (l.hag i hp').2⟩
  | edge e =>
    have he : e ∈ edg ts := hp
    by_cases hb : Bd fs e
    · obtain ⟨i, hi, rfl⟩ := bd_gapE hb
      rcases mka_at h.mar hi with c | c | ⟨j, hj, c⟩
      · exact ⟨_, l.hah i c, he, l.hah i c⟩
      · exact ⟨_, (l.hag i c).2, c, (l.hag i c).1⟩
      · exact ⟨_, l.ham i j c, gap_in h.fr hn k hj, l.ham j i (h.mar.pair i j c).2⟩
    · have r := rv_in k he hb
      refine ⟨_, l.hai e he hb, r, ?_⟩
      have nb : ¬ Bd fs (rv e) := fun q => k.none _ q he
      exact l.hai (rv e) r nb
theorem th_total (l : Links fs ms ts ha th) {p : Pla} (hp : isPl ms ts p) : ∃ q, th p = some q ∧ isPl ms ts q := by
  cases p with
  | gap i => exact ⟨_, l.thg i hp, hp⟩
  | edge e =>
    obtain ⟨t, ht, he⟩ := edg_tile hp
    have r := l.rot t ht
    have m : ∀ x ∈ te t, x ∈ edg ts := fun x hx => edg_of ht hx
    unfold te at he m
    simp only [List.mem_cons, List.not_mem_nil, or_false] at he
    rcases he with rfl | rfl | rfl
    · exact ⟨_, r.1, m _ (by simp)⟩
    · exact ⟨_, r.2.1, m _ (by simp)⟩
    · exact ⟨_, r.2.2, m _ (by simp)⟩
theorem ha_fix (h : FanOk fs ms) (hn : 2 < fs.length) (k : TileOk fs ts) (l : Links fs ms ts ha th) {p : Pla} (hp : isPl ms ts p) : ha p = some p ↔ ∃ i, ms[i]? = some Mk.half ∧ p = .edge (gapE fs i) := by
  constructor
  · intro hf
    cases p with
    | gap i => rw [(l.hag i hp).1] at hf; cases hf
    | edge e =>
      have he : e ∈ edg ts := hp
      by_cases hb : Bd fs e
      · obtain ⟨i, hi, rfl⟩ := bd_gapE hb
        rcases mka_at h.mar hi with c | c | ⟨j, hj, c⟩
        · exact ⟨i, c, rfl⟩
        · rw [(l.hag i c).2] at hf; cases hf
        · rw [l.ham i j c] at hf
          have := gapE_inj h.fr hj hi (by injection hf with q; injection q)
          exact absurd this (h.mar.pair i j c).1
      · rw [l.hai e he hb] at hf
        have q : rv e = e := by injection hf with q; injection q
        exact absurd (congrArg Prod.fst q).symm (k.ne e he)
  · rintro ⟨i, c, rfl⟩
    exact l.hah i c
theorem th_fix (k : TileOk fs ts) (l : Links fs ms ts ha th) {p : Pla} (hp : isPl ms ts p) : th p = some p ↔ ∃ i, ms[i]? = some Mk.third ∧ p = .gap i := by
  constructor
  · intro hf
    cases p with
    | gap i => exact ⟨i, hp, rfl⟩
    | edge e =>
      exfalso
      have hp' : e ∈ edg ts := hp
      obtain ⟨t, ht, he⟩ := edg_tile hp'
      have r := l.rot t ht
      have ne := k.ne e hp'
      unfold te at he
      simp only [List.mem_cons, List.not_mem_nil, or_false] at he
      rcases he with rfl | rfl | rfl
      · rw [r.1] at hf; injection hf with q; injection q with q; exact ne (congrArg Prod.fst q).symm
      · rw [r.2.1] at hf; injection hf with q; injection q with q; exact ne (congrArg Prod.fst q).symm
      · rw [r.2.2] at hf; injection hf with q; injection q with q; exact ne (congrArg Prod.fst q).symm
  · rintro ⟨i, c, rfl⟩
    exact l.thg i c
def FirstOk (fs : List Z2) (ts : List Tile) (ha : Pla → Option Pla) (f : Pla) : Prop := (ed1 ∈ edg ts ∧ f = .edge ed1) ∨ (ed1 ∉ edg ts ∧ ha (.edge (gapE fs (fs.length - 1))) = some f)
theorem last_ed2 (h : FracOk fs.length fs) (hb : Bd fs ed2) : gapE fs (fs.length - 1) = ed2 := by
  obtain ⟨i, hi, e⟩ := bd_gapE hb
  have h2 : fs[nx fs.length i]? = some (1, 0) := by
    rw [get_D (nx_lt hi)]
    exact congrArg some (congrArg Prod.snd e).symm
  have := h.inj h2 h.first
  unfold nx at this
  split at this
  · have : i = fs.length - 1 := by omega
    rw [← this]; exact e.symm
  · omega
theorem first_in (h : FanOk fs ms) (hn : 2 < fs.length) (k : TileOk fs ts) (l : Links fs ms ts ha th) {f : Pla} (hf : FirstOk fs ts ha f) : isPl ms ts f := by
  rcases hf with ⟨a, rfl⟩ | ⟨_, b⟩
  · exact a
  · obtain ⟨q, h1, h2, _⟩ := ha_total (p := .edge (gapE fs (fs.length - 1))) h hn k l (gap_in h.fr hn k (by omega))
    rw [b] at h1; cases h1; exact h2
theorem reach (h : FanOk fs ms) (hn : 2 < fs.length) (k : TileOk fs ts) (l : Links fs ms ts ha th) {f : Pla} (hf : FirstOk fs ts ha f) {S : Pla → Prop} (s0 : S f) (s1 : ∀ p q, S p → ha p = some q → S q) (s2 : ∀ p q, S p → th p = some q → S q) : ∀ p, isPl ms ts p → S p := by
  have both : (ed1 ∈ edg ts → S (.edge ed1)) ∧ (ed2 ∈ edg ts → S (.edge ed2)) := by
    rcases hf with ⟨a, rfl⟩ | ⟨na, b⟩
    · refine ⟨fun _ => s0, fun m => ?_⟩
      exact s1 _ _ s0 (l.hai ed1 a (k.b.mp m))
    · refine ⟨fun m => absurd m na, fun _ => ?_⟩
      have hb : Bd fs ed2 := Classical.byContradiction fun q => na (k.a.mpr q)
      obtain ⟨q, h1, h2, h3⟩ := ha_total (p := .edge (gapE fs (fs.length - 1))) h hn k l (gap_in h.fr hn k (by omega))
      rw [b] at h1; cases h1
      rw [last_ed2 h.fr hb] at h3
      exact s1 _ _ s0 h3
  have edges : ∀ e ∈ edg ts, S (.edge e) := k.e (fun e => S (.edge e)) (fun t ht => ⟨fun q => s2 _ _ q (l.rot t ht).1, fun q => s2 _ _ q (l.rot t ht).2.1, fun q => s2 _ _ q (l.rot t ht).2.2⟩) (fun e he hb q => s1 _ _ q (l.hai e he hb)) both.1 both.2
  intro p hp
  cases p with
  | edge e => exact edges e hp
  | gap i =>
    have hp' : ms[i]? = some Mk.third := hp
    exact s1 _ _ (edges _ (gap_in h.fr hn k (mka_lt h.mar hp'))) (l.hag i hp').2
end
theorem count_fix {α β : Type} [DecidableEq α] {met : List α} {is : List β} {g : β → α} (P : α → Bool) (nd : met.Nodup) (gi : ∀ i ∈ is, ∀ j ∈ is, g i = g j → i = j) (ni : is.Nodup) (hP : ∀ p ∈ met, P p = true ↔ ∃ i ∈ is, p = g i) (hm : ∀ i ∈ is, g i ∈ met) : (met.filter P).length = is.length := by
  have n1 : (met.filter P).Nodup := nd.filter P
  have n2 : (is.map g).Nodup := by
    rw [List.nodup_iff_pairwise_ne, List.pairwise_map]
    exact (List.nodup_iff_pairwise_ne.mp ni).imp_of_mem fun ha hb ne e => ne (gi _ ha _ hb e)
  have perm : (met.filter P).Perm (is.map g) := (List.perm_ext_iff_of_nodup n1 n2).mpr fun a => by
    rw [List.mem_filter, List.mem_map]
    constructor
    · rintro ⟨h1, h2⟩
      obtain ⟨i, hi, e⟩ := (hP a h1).mp h2
      exact ⟨i, hi, e.symm⟩
    · rintro ⟨i, hi, rfl⟩
      exact ⟨hm i hi, (hP _ (hm i hi)).mpr ⟨i, hi, rfl⟩⟩
  rw [perm.length_eq, List.length_map]
end L2.L3
set_option Elab.async false
set_option linter.all false
set_option maxRecDepth 100000
set_option maxHeartbeats 4000000
namespace K55
open PySem L2 L2.L3
def tlD (t : Tile) : D := .tup [frD t.1, frD t.2.1, frD t.2.2]
theorem erase_map {α β : Type} (f : α → β) (l : List α) (i : Nat) : (l.map f).eraseIdx i = (l.eraseIdx i).map f := by
  apply List.ext_getElem?
  intro j
  simp only [er_get, List.getElem?_map]
  split <;> rfl
def pTiles (x : D) (Q : D → Prop) : Prop := ∃ fs, x = .tup (fs.map frD) ∧ FracOk fs.length fs ∧ ∀ ts, TilesOf fs ts → ts.length ≤ fs.length → Q (.lst (ts.map tlD))
def f_law_tiles : Fw := F1 pTiles
def t_law_tiles_2_0 : TS3 := (dForR rng2 (cCons (cC (.int 1)) (cCons (cLenOwn 1) cNil)) (kName 3) (dSeq (dSet 4 (cIxOwn 1 (cOp subD (cVar 3) (cC (.int 1))))) (dSeq (dSet 5 (cIxOwn 1 (cOp modD (cOp addD (cVar 3) (cC (.int 1))) (cLenOwn 1)))) (dIf (cAnd (cTest (cOp neF (cIxOwn 1 (cVar 3)) (cTup (cCons (cC (.int 0)) (cCons (cC (.int 1)) cNil))))) (cTest (cOp eqF (cCall absF (cCons (cOp subD (cOp mulD (cOp ixD (cVar 4) (cC (.int 0))) (cOp ixD (cVar 5) (cC (.int 1)))) (cOp mulD (cOp ixD (cVar 4) (cC (.int 1))) (cOp ixD (cVar 5) (cC (.int 0))))) cNil)) (cC (.int 1))))) (dSeq (dAppend 2 (cTup (cCons (cVar 4) (cCons (cIxOwn 1 (cVar 3)) (cCons (cVar 5) cNil))))) (dSeq (dPopI 1 (cVar 3)) dBreak)) dNext))))
def t_law_tiles : TS3 := (dSeq (dSetOwn 1 (cListOf (cCons (cVar 0) cNil))) (dSeq (dSetOwn 2 (cFew cNil)) (dSeq (dWhile (cTest (cOp gtD (cLenOwn 1) (cC (.int 2)))) t_law_tiles_2_0) (dFreeze 2 (dRet (cVar 2))))))
theorem len_law_tiles : ∀ ds Q, f_law_tiles ds Q → ds.length = 1 := lenF1
theorem ob_law_tiles : ∀ ds (Q : D → Prop), f_law_tiles ds Q → t_law_tiles { nx := fun _ => Q .non, rt := Q } (start3 ["_law_fractions_here", "_law_row_here", "_law_tiles_here", "_law_i", "_law_near", "_law_far"] ds) := by
  rintro ds Q ⟨x, rfl, fs, rfl, hf, h⟩
  simp_arith only [t_law_tiles, dWhile, dPopI]
  refine ⟨fun e => ∃ (row : List Z2) (acc : List Tile) (k3 k4 k5 : Option Lo), e = [some (.d (.tup (fs.map frD))), some (.own (row.map frD)), some (.own (acc.map tlD)), k3, k4, k5] ∧ FracOk row.length row ∧ (∀ rest, TilesOf row rest → TilesOf fs (acc ++ rest)) ∧ acc.length + row.length = fs.length,
    fun e => match e with | [_, some (.own l), _, _, _, _] => l.length | _ => 0, ⟨fs, [], none, none, none, rfl, hf, fun rest t => t, by simp⟩, ?_⟩
  rintro env ⟨row, acc, k3, k4, k5, rfl, hr, ht, hlen⟩
  have two := hr.two
  have most := hf.most
  refine ⟨_, rfl, ?_⟩
  by_cases c : 2 < row.length
  · rw [if_pos (by rw [List.length_map]; omega)]
    simp_arith only [t_law_tiles_2_0, dPopI, List.length_map]
    refine ⟨by omega, by omega, ?_⟩
    refine turns_of (fun i e => ∃ k3 k4 k5 : Option Lo, e = [some (.d (.tup (fs.map frD))), some (.own (row.map frD)), some (.own (acc.map tlD)), k3, k4, k5] ∧ ∀ j u v w, j < i + 1 → ¬ Ear row.length row j u v w) ?_ ?_ ⟨k3, k4, k5, rfl, fun j u v w hj e => by have := e.i0; omega⟩
    · rintro i x env N hx ⟨k3, k4, k5, rfl, hno⟩ hN
      have hi : i < row.length - 1 := by
        have := (List.getElem?_eq_some_iff.mp hx).1
        simp [intsD] at this; omega
      have hxe : x = .int ((i + 1 : Nat) : Int) := by
        unfold intsD at hx
        rw [List.getElem?_map, List.getElem?_range (by omega)] at hx
        cases hx; simp
        try omega
      subst hxe
      have hu : row[i]? = some row[i] := List.getElem?_eq_getElem (by omega)
      have hv : row[i + 1]? = some row[i + 1] := List.getElem?_eq_getElem (by omega)
      have hm : (i + 1 + 1) % row.length < row.length := Nat.mod_lt _ (by omega)
      have hw : row[(i + 1 + 1) % row.length]? = some (row[(i + 1 + 1) % row.length]) := List.getElem?_eq_getElem hm
      generalize row[i] = u at hu
      generalize row[i + 1] = v at hv
      generalize row[(i + 1 + 1) % row.length] = w at hw
      have e1 : atI (row.map frD) (((i + 1 : Nat) : Int) - 1) = some (frD u) := by rw [show ((i + 1 : Nat) : Int) - 1 = (i : Int) by omega]; exact atI_map _ _ i _ hu
      have e2 : atI (row.map frD) ((i + 1 : Nat) : Int) = some (frD v) := atI_map _ _ (i + 1) _ hv
      have e3 : atI (row.map frD) ((((i + 1 : Nat) : Int) + 1).fmod (row.length : Int)) = some (frD w) := by
        have : (((i + 1 : Nat) : Int) + 1).fmod (row.length : Int) = (((i + 1 + 1) % row.length : Nat) : Int) := by
          rw [Int.fmod_eq_emod_of_nonneg _ (by omega), Int.natCast_emod, show (((i + 1 + 1 : Nat)) : Int) = ((i + 1 : Nat) : Int) + 1 by omega]
        rw [this]; exact atI_map _ _ _ _ hw
      have bu := hr.bits u (List.mem_of_getElem? hu)
      have bw := hr.bits w (List.mem_of_getElem? hw)
      simp_arith only [dPopI, List.length_map]
      refine ⟨_, _, rfl, e1, by show (row.length : Int) ≠ 0; omega, _, _, rfl, e3, _, _, rfl, e2, ?_⟩
      rw [show (D.tup [D.int 0, D.int 1]) = frD (0, 1) from rfl, neF_fr]
      refine ⟨_, rfl, ?_⟩
      by_cases c0 : v = (0, 1)
      · rw [decide_eq_true c0]
        refine hN _ ⟨_, _, _, rfl, fun j a b d hj e => ?_⟩
        rcases Nat.lt_succ_iff_lt_or_eq.mp hj with z | z
        · exact hno j a b d z e
        · subst z
          have := e.mid
          rw [hv] at this
          exact e.ne ((Option.some.inj this).symm.trans c0)
      · rw [decide_eq_false c0]
        show ixD (frD u) (.int 0) _
        rw [ixfr0, ixfr1]
        simp_arith only [and_true]
        refine ⟨mul_ok bu.1 bw.2 (by decide), ?_⟩
        rw [ixfr1, ixfr0]
        simp_arith only [and_true]
        refine ⟨mul_ok bu.2 bw.1 (by decide), ?_⟩
        by_cases c1 : ((u.1 * w.2 - u.2 * w.1).natAbs : Int) = 1
        · rw [if_pos c1]
          have ear : Ear row.length row (i + 1) u v w := ⟨by omega, by omega, by rw [show i + 1 - 1 = i by omega]; exact hu, hv, hw, c0, by show (u.1 * w.2 - u.2 * w.1).natAbs = 1; omega⟩
          have cut := hr.cut c ear
          have hle : (row.eraseIdx (i + 1)).length = row.length - 1 := by rw [List.length_eraseIdx, if_pos (by omega)]
          refine ⟨by omega, _, _, rfl, e2, i + 1, rfl, by omega, by omega, ⟨row.eraseIdx (i + 1), acc ++ [(u, v, w)], _, _, _, erase_map .. , by rw [List.map_append]; rfl, rfl, rfl, rfl, by rw [hle]; exact cut, fun rest t => ?_, ?_⟩, ?_⟩
          · have := ht ((u, v, w) :: rest) (.cut c ear t)
            rw [List.append_assoc]; exact this
          · rw [hle, List.length_append]; simp; omega
          · rw [List.length_eraseIdx, if_pos (by simp; omega), List.length_map]; omega
        · rw [if_neg c1]
          refine hN _ ⟨_, _, _, rfl, fun j a b d hj e => ?_⟩
          rcases Nat.lt_succ_iff_lt_or_eq.mp hj with z | z
          · exact hno j a b d z e
          · subst z
            have q1 := e.near
            have q2 := e.far
            rw [show i + 1 - 1 = i by omega, hu] at q1
            rw [hw] at q2
            cases q1; cases q2
            have := e.one
            unfold det2 at this
            exact c1 (by omega)
    · rintro env ⟨k3, k4, k5, rfl, hno⟩
      exfalso
      obtain ⟨i, u, v, w, e⟩ := ear_is hr c
      have el : (intsD 1 ((row.length : Int) - 1).toNat).length = row.length - 1 := by simp [intsD] <;> omega
      rw [el] at hno
      exact hno i u v w (by have := e.il; omega) e
  · rw [if_neg (by rw [List.length_map]; omega)]
    refine ⟨_, rfl, _, rfl, ?_⟩
    have t := ht [] (.done (by omega))
    rw [List.append_nil] at t
    exact h acc t (by omega)
def plD : Pla → D
  | .gap i => .int i
  | .edge e => .tup [frD e.1, frD e.2]
theorem plD_key (p : Pla) : keyN (plD p) = true ∧ dep (plD p) ≤ 8 := by
  cases p with
  | gap i => exact ⟨rfl, by simp [plD, dep]⟩
  | edge e => exact ⟨by simp [plD, frD, keyN, keyNs], by simp [plD, frD, dep, depL]⟩
theorem frD_inj {x y : Z2} (h : frD x = frD y) : x = y := by
  unfold frD at h
  simp only [D.tup.injEq, List.cons.injEq, D.int.injEq, and_true] at h
  exact Prod.ext h.1 h.2
theorem plD_inj {p q : Pla} (h : plD p = plD q) : p = q := by
  cases p with
  | gap i => cases q with
    | gap j => simp only [plD, D.int.injEq] at h; rw [show i = j by omega]
    | edge e => simp only [plD] at h; cases h
  | edge e => cases q with
    | gap j => simp only [plD] at h; cases h
    | edge d =>
      simp only [plD, D.tup.injEq, List.cons.injEq, and_true] at h
      rw [show e = d from Prod.ext (frD_inj h.1) (frD_inj h.2)]
theorem plD_eq (p q : Pla) : eqD (plD p) (plD q) = decide (p = q) := by
  rw [Bool.eq_iff_iff, eqD_key (plD_key p).1 (plD_key q).1, decide_eq_true_eq]
  exact ⟨plD_inj, fun h => h ▸ rfl⟩
structure DicF (kvs : List (D × D)) (f : Pla → Option Pla) : Prop where
  ok : DicOk kvs
  get : ∀ p, getN kvs (plD p) = (f p).map plD
  key : ∀ kv ∈ kvs, ∃ p, kv.1 = plD p
def updF (f : Pla → Option Pla) (p q : Pla) : Pla → Option Pla := fun x => if x = p then some q else f x
theorem updF_same {f : Pla → Option Pla} {p q : Pla} : updF f p q p = some q := if_pos rfl
theorem updF_ne {f : Pla → Option Pla} {p q x : Pla} (h : x ≠ p) : updF f p q x = f x := if_neg h
theorem DicF.nil : DicF [] (fun _ => none) := ⟨DicOk.nil, fun _ => rfl, fun kv h => absurd h List.not_mem_nil⟩
theorem DicF.put {kvs : List (D × D)} {f : Pla → Option Pla} (h : DicF kvs f) (p q : Pla) : DicF (putN kvs (plD p) (plD q)) (updF f p q) := by
  refine ⟨h.ok.put (plD_key p).1 (plD_key p).2, fun x => ?_, fun kv m => ?_⟩
  · rw [getN_put h.ok (plD_key p).1 (plD_key x).1, plD_eq, h.get]
    unfold updF
    by_cases c : p = x
    · rw [if_pos (decide_eq_true c), if_pos c.symm]; rfl
    · rw [if_neg (by simpa using c), if_neg (fun z => c z.symm)]
  · unfold putN at m
    split at m
    · obtain ⟨kw, m', rfl⟩ := List.mem_map.mp m
      obtain ⟨z, hz⟩ := h.key kw m'
      refine ⟨z, ?_⟩
      split <;> exact hz
    · rcases List.mem_append.mp m with m | m
      · exact h.key kv m
      · rw [List.mem_singleton] at m; subst m; exact ⟨p, rfl⟩
theorem DicF.any {kvs : List (D × D)} {f : Pla → Option Pla} (h : DicF kvs f) (p : Pla) : (kvs.any fun kv => eqD kv.1 (plD p)) = (f p).isSome := by
  rw [getN_any, h.get, Option.isSome_map]
theorem DicF.mem {kvs : List (D × D)} {f : Pla → Option Pla} (h : DicF kvs f) (p : Pla) : plD p ∈ kvs.map (·.1) ↔ (f p).isSome = true := by
  rw [← h.any, List.any_eq_true, List.mem_map]
  constructor
  · rintro ⟨kv, m, e⟩; exact ⟨kv, m, by rw [e]; exact keyN_refl _ (plD_key p).1⟩
  · rintro ⟨kv, m, e⟩
    obtain ⟨z, hz⟩ := h.key kv m
    rw [hz, plD_eq, decide_eq_true_eq] at e
    exact ⟨kv, m, by rw [hz, e]⟩
def LinksRes (fs : List Z2) (ms : List Mk) (ha th : Pla → Option Pla) (f : Pla) : Prop :=
  (2 < fs.length ∧ ∃ ts, TileOk fs ts ∧ TilesOf fs ts ∧ ts.length ≤ fs.length ∧ Links fs ms ts ha th ∧ FirstOk fs ts ha f) ∨
  (fs.length = 2 ∧ (∀ i, ms[i]? = some Mk.third → th (.gap i) = some (.gap i) ∧ ha (.gap i) = some (.gap (if ms[1 - i]? = some Mk.third then 1 - i else i))) ∧ f = .gap (if ms[1]? = some Mk.third then 1 else 0))
def pLinks (x : D) (Q : D → Prop) : Prop := ∃ fs ms, x = fanD fs ms ∧ FanOk fs ms ∧ ∀ hk tk ha th f, DicF hk ha → DicF tk th → LinksRes fs ms ha th f → Q (.tup [.obj (DicN hk), .obj (DicN tk), plD f])
structure ThOk (ts : List Tile) (th : Pla → Option Pla) : Prop where
  rot : ∀ t ∈ ts, th (.edge (t.1, t.2.1)) = some (.edge (t.2.1, t.2.2)) ∧ th (.edge (t.2.1, t.2.2)) = some (.edge (t.2.2, t.1)) ∧ th (.edge (t.2.2, t.1)) = some (.edge (t.1, t.2.1))
  only : ∀ e, (th (.edge e)).isSome = true → e ∈ edg ts
  gaps : ∀ i, th (.gap i) = none
theorem ThOk.nil : ThOk [] (fun _ => none) := ⟨fun t h => absurd h List.not_mem_nil, fun e h => (by cases h), fun _ => rfl⟩
theorem edg_snoc (ts : List Tile) (t : Tile) : edg (ts ++ [t]) = edg ts ++ te t := by unfold edg; simp
theorem ThOk.snoc {ts : List Tile} {th : Pla → Option Pla} (h : ThOk ts th) {t : Tile} (nd : (edg (ts ++ [t])).Nodup) :
    ThOk (ts ++ [t]) (updF (updF (updF th (.edge (t.1, t.2.1)) (.edge (t.2.1, t.2.2))) (.edge (t.2.1, t.2.2)) (.edge (t.2.2, t.1))) (.edge (t.2.2, t.1)) (.edge (t.1, t.2.1))) := by
  rw [edg_snoc, List.nodup_append] at nd
  obtain ⟨n1, n2, n3⟩ := nd
  unfold te at n2 n3
  simp only [List.nodup_cons, List.mem_cons, List.not_mem_nil, or_false, not_or] at n2
  obtain ⟨⟨a12, a13⟩, a23, _⟩ := n2
  have e12 : (Pla.edge (t.1, t.2.1)) ≠ .edge (t.2.1, t.2.2) := fun z => a12 (by injection z)
  have e13 : (Pla.edge (t.1, t.2.1)) ≠ .edge (t.2.2, t.1) := fun z => a13 (by injection z)
  have e23 : (Pla.edge (t.2.1, t.2.2)) ≠ .edge (t.2.2, t.1) := fun z => a23 (by injection z)
  have old : ∀ e ∈ edg ts, updF (updF (updF th (.edge (t.1, t.2.1)) (.edge (t.2.1, t.2.2))) (.edge (t.2.1, t.2.2)) (.edge (t.2.2, t.1))) (.edge (t.2.2, t.1)) (.edge (t.1, t.2.1)) (.edge e) = th (.edge e) := fun e he => by
    have q := fun x hx (z : Pla.edge e = .edge x) => n3 e he x hx (by injection z)
    rw [updF_ne (q _ (by simp)), updF_ne (q _ (by simp)), updF_ne (q _ (by simp))]
  refine ⟨fun u hu => ?_, fun e he => ?_, fun i => ?_⟩
  · rcases List.mem_append.mp hu with hu | hu
    · have m : ∀ x ∈ te u, x ∈ edg ts := fun x hx => edg_of hu hx
      unfold te at m
      have r := h.rot u hu
      exact ⟨by rw [old _ (m _ (by simp))]; exact r.1, by rw [old _ (m _ (by simp))]; exact r.2.1, by rw [old _ (m _ (by simp))]; exact r.2.2⟩
    · rw [List.mem_singleton] at hu; subst hu
      exact ⟨by rw [updF_ne e13, updF_ne e12, updF_same], by rw [updF_ne e23, updF_same], updF_same⟩
  · rw [edg_snoc]
    by_cases c : e ∈ te t
    · exact List.mem_append.mpr (.inr c)
    · refine List.mem_append.mpr (.inl (h.only e ?_))
      unfold te at c
      simp only [List.mem_cons, List.not_mem_nil, or_false, not_or] at c
      have q : ∀ x, e ≠ x → Pla.edge e ≠ .edge x := fun x hx z => hx (by injection z)
      rw [updF_ne (q _ c.2.2), updF_ne (q _ c.2.1), updF_ne (q _ c.1)] at he
      exact he
  · rw [updF_ne (by simp), updF_ne (by simp), updF_ne (by simp)]; exact h.gaps i
structure HaOk (fs : List Z2) (ms : List Mk) (ts : List Tile) (j : Nat) (ha th : Pla → Option Pla) : Prop where
  rot : ∀ t ∈ ts, th (.edge (t.1, t.2.1)) = some (.edge (t.2.1, t.2.2)) ∧ th (.edge (t.2.1, t.2.2)) = some (.edge (t.2.2, t.1)) ∧ th (.edge (t.2.2, t.1)) = some (.edge (t.1, t.2.1))
  only : ∀ e, (th (.edge e)).isSome = true → e ∈ edg ts
  thg : ∀ i, i < j → ms[i]? = some Mk.third → th (.gap i) = some (.gap i)
  hag : ∀ i, i < j → ms[i]? = some Mk.third → ha (.gap i) = some (.edge (gapE fs i)) ∧ ha (.edge (gapE fs i)) = some (.gap i)
  hah : ∀ i, i < j → ms[i]? = some Mk.half → ha (.edge (gapE fs i)) = some (.edge (gapE fs i))
  ham : ∀ i k, i < j → ms[i]? = some (Mk.gap k) → ha (.edge (gapE fs i)) = some (.edge (gapE fs k))
  hai : ∀ e ∈ edg ts, (∀ i, i < j → e ≠ gapE fs i) → ha (.edge e) = some (.edge (rv e))
theorem HaOk.more {fs : List Z2} {ms : List Mk} {ts : List Tile} {j : Nat} {ha th ha' th' : Pla → Option Pla} (hf : FracOk fs.length fs) (hj : j < fs.length) (h : HaOk fs ms ts j ha th)
    (h1 : ∀ x, x ≠ .gap j → x ≠ .edge (gapE fs j) → ha' x = ha x) (h2 : ∀ x, x ≠ .gap j → th' x = th x)
    (h3 : ms[j]? = some Mk.third → th' (.gap j) = some (.gap j) ∧ ha' (.gap j) = some (.edge (gapE fs j)) ∧ ha' (.edge (gapE fs j)) = some (.gap j))
    (h4 : ms[j]? = some Mk.half → ha' (.edge (gapE fs j)) = some (.edge (gapE fs j))) (h5 : ∀ k, ms[j]? = some (Mk.gap k) → ha' (.edge (gapE fs j)) = some (.edge (gapE fs k))) : HaOk fs ms ts (j + 1) ha' th' := by
  have ne : ∀ i, i < j → Pla.edge (gapE fs i) ≠ .edge (gapE fs j) := fun i hi z => by
    have := gapE_inj (i := i) (j := j) hf (by omega) hj (by injection z); omega
  have ng : ∀ i, i < j → Pla.gap i ≠ .gap j := fun i hi z => by injection z with z; omega
  refine ⟨fun t ht => ?_, fun e he => ?_, fun i hi hm => ?_, fun i hi hm => ?_, fun i hi hm => ?_, fun i k hi hm => ?_, fun e he hn => ?_⟩
  · rw [h2 _ (by simp), h2 _ (by simp), h2 _ (by simp)]; exact h.rot t ht
  · rw [h2 _ (by simp)] at he; exact h.only e he
  · rcases Nat.lt_succ_iff_lt_or_eq.mp hi with z | z
    · rw [h2 _ (ng i z)]; exact h.thg i z hm
    · subst z; exact (h3 hm).1
  · rcases Nat.lt_succ_iff_lt_or_eq.mp hi with z | z
    · rw [h1 _ (ng i z) (by simp), h1 _ (by simp) (ne i z)]; exact h.hag i z hm
    · subst z; exact (h3 hm).2
  · rcases Nat.lt_succ_iff_lt_or_eq.mp hi with z | z
    · rw [h1 _ (by simp) (ne i z)]; exact h.hah i z hm
    · subst z; exact h4 hm
  · rcases Nat.lt_succ_iff_lt_or_eq.mp hi with z | z
    · rw [h1 _ (by simp) (ne i z)]; exact h.ham i k z hm
    · subst z; exact h5 k hm
  · rw [h1 _ (by simp) (fun z => hn j (by omega) (by injection z))]
    exact h.hai e he fun i hi => hn i (by omega)
theorem gp_at {fs : List Z2} {i : Nat} (h : i < fs.length) {Q : D → Prop} (q : Q (plD (.edge (gapE fs i)))) : ixD (.lst ((List.range fs.length).map fun i => plD (.edge (gapE fs i)))) (.int (i : Int)) Q :=
  ⟨_, atI_map (fun i => plD (.edge (gapE fs i))) (List.range fs.length) i i (by rw [List.getElem?_range h]), q⟩
section
variable {a b : D} {Q : D → Prop}
theorem ixt0 : ixD (.tup [a, b]) (.int 0) Q = Q a := propext ⟨fun ⟨v, e, q⟩ => by have : some a = some v := e; cases this; exact q, fun q => ⟨a, rfl, q⟩⟩
theorem ixt1 : ixD (.tup [a, b]) (.int 1) Q = Q b := propext ⟨fun ⟨v, e, q⟩ => by have : some b = some v := e; cases this; exact q, fun q => ⟨b, rfl, q⟩⟩
theorem ixl0 : ixD (.lst [a, b]) (.int 0) Q = Q a := propext ⟨fun ⟨v, e, q⟩ => by have : some a = some v := e; cases this; exact q, fun q => ⟨a, rfl, q⟩⟩
theorem ixl1 : ixD (.lst [a, b]) (.int 1) Q = Q b := propext ⟨fun ⟨v, e, q⟩ => by have : some b = some v := e; cases this; exact q, fun q => ⟨b, rfl, q⟩⟩
end
theorem neF_ss {z z' : Str} {Q : D → Prop} : neF (.str z) (.str z') Q = Q (.bl (!(z == z'))) := by
  unfold neF DepOk; simp only [dep, eqD, Nat.zero_le, and_self, true_and]
theorem eqF_is {i : Int} {z : Str} {Q : D → Prop} : eqF (.int i) (.str z) Q = Q (.bl false) := by
  unfold eqF DepOk
  simp [dep, eqD]
def gpD (fs : List Z2) : List D := (List.range fs.length).map fun i => plD (.edge (gapE fs i))
def t_law_links_7 : TS3 := (dSeq (dSet 11 (cTup (cCons (cTup (cCons (cC (.int 1)) (cCons (cC (.int 0)) cNil))) (cCons (cTup (cCons (cC (.int 0)) (cCons (cC (.int 1)) cNil))) cNil)))) (dSeq (dFreezeN 4 (dIf (cTest (cOp eqF (cCall lenF (cCons (cVar 1) cNil)) (cC (.int 2)))) (dSeq (dSet 11 (cOp ixD (cLst (cCons (cC (.int 1)) (cCons (cC (.int 0)) cNil))) (cCall intF (cCons (cOp neF (cOp ixD (cVar 2) (cC (.int 1))) (cC (.str "third"))) cNil)))) (dFor (cLst (cCons (cC (.int 0)) (cCons (cC (.int 1)) cNil))) (kName 9) (dIf (cTest (cOp eqF (cOp ixD (cVar 2) (cVar 9)) (cC (.str "third")))) (dDicPut 8 (cVar 9) (cOp ixD (cLst (cCons (cVar 9) (cCons (cOp subD (cC (.int 1)) (cVar 9)) cNil))) (cCall intF (cCons (cOp eqF (cOp ixD (cVar 2) (cOp subD (cC (.int 1)) (cVar 9))) (cC (.str "third"))) cNil)))) dNext))) (dIf (cTest (cOp (inN true) (cVar 11) (cVar 4))) (dSet 11 (cDicGet 8 (cOp ixD (cVar 3) (cUn negD (cC (.int 1)))))) dNext))) (dFreezeN 8 (dRet (cTup (cCons (cVar 8) (cCons (cVar 4) (cCons (cVar 11) cNil))))))))
def t_law_links_6 : TS3 := (dSeq (dForE (cCons (cVar 2) cNil) (kTup 2 (kCons (kName 9) (kCons (kName 10) kNil))) (dIf (cTest (cOp eqF (cVar 10) (cC (.str "third")))) (dSeq (dDicPut 4 (cVar 9) (cVar 9)) (dSeq (dDicPut 8 (cVar 9) (cOp ixD (cVar 3) (cVar 9))) (dDicPut 8 (cOp ixD (cVar 3) (cVar 9)) (cVar 9)))) (dIf (cTest (cOp eqF (cVar 10) (cC (.str "half")))) (dDicPut 8 (cOp ixD (cVar 3) (cVar 9)) (cOp ixD (cVar 3) (cVar 9))) (dDicPut 8 (cOp ixD (cVar 3) (cVar 9)) (cOp ixD (cVar 3) (cVar 10)))))) t_law_links_7)
def t_law_links_4 : TS3 := (dSeq (dDicNew 8) (dSeq (dForDic 4 (kTup 2 (kCons (kName 5) (kCons (kName 7) kNil))) (dDicPut 8 (cTup (cCons (cVar 5) (cCons (cVar 7) cNil))) (cTup (cCons (cVar 7) (cCons (cVar 5) cNil))))) t_law_links_6))
theorem links_rest {fs : List Z2} {ms : List Mk} {Q : D → Prop} (hf : FanOk fs ms) (h : ∀ hk tk ha th f, DicF hk ha → DicF tk th → LinksRes fs ms ha th f → Q (.tup [.obj (DicN hk), .obj (DicN tk), plD f])) :
    ∀ (ts : List Tile) (tk : List (D × D)) (th : Pla → Option Pla) (k5 k6 k7 : Option Lo), TilesOf fs ts → ts.length ≤ fs.length → DicF tk th → ThOk ts th → tk.length ≤ 3 * ts.length →
    t_law_links_4 { nx := fun _ => Q .non, rt := Q } [some (.d (fanD fs ms)), some (.d (.tup (fs.map frD))), some (.d (.tup (ms.map mkD))), some (.d (.lst (gpD fs))), some (.dic tk), k5, k6, k7, none, none, none, none] := by
  have two := hf.fr.two
  have most := hf.fr.most
  intro ts tk th k5 k6 k7 htl hlen hd ht hl
  have ok := tiles_ok htl hf.fr
  have rest6 : ∀ (hk : List (D × D)) (ha : Pla → Option Pla) (k5 k7 : Option Lo), DicF hk ha → (∀ e ∈ edg ts, ha (.edge e) = some (.edge (rv e))) → (∀ i, ha (.gap i) = none) → hk.length ≤ tk.length →
      t_law_links_6 { nx := fun _ => Q .non, rt := Q } [some (.d (fanD fs ms)), some (.d (.tup (fs.map frD))), some (.d (.tup (ms.map mkD))), some (.d (.lst (gpD fs))), some (.dic tk), k5, k6, k7, some (.dic hk), none, none, none] := by
    intro hk ha k5 k7 hd2 hrv hg hl2
    have rest7 : ∀ (hk tk : List (D × D)) (ha th : Pla → Option Pla) (k9 k10 : Option Lo), DicF hk ha → DicF tk th → HaOk fs ms ts fs.length ha th → hk.length ≤ 1000 →
        t_law_links_7 { nx := fun _ => Q .non, rt := Q } [some (.d (fanD fs ms)), some (.d (.tup (fs.map frD))), some (.d (.tup (ms.map mkD))), some (.d (.lst (gpD fs))), some (.dic tk), k5, k6, k7, some (.dic hk), k9, k10, none] := by
      intro hk tk ha th k9 k10 e1 e2 hh hl
      have ed : (D.tup [D.tup [D.int 1, D.int 0], D.tup [D.int 0, D.int 1]]) = plD (.edge ed1) := rfl
      simp_arith only [t_law_links_7, dFreezeN, Lo.dic.injEq, List.length_map]
      rw [ed]
      by_cases c : fs.length = 2
      · rw [if_pos (by omega)]
        obtain ⟨t3, ngap⟩ := hf.mar.few c
        have ml := hf.mar.len
        have at_ : ∀ i, i < 2 → ms[i]? = some Mk.third ∨ ms[i]? = some Mk.half := fun i hi => by
          rcases mka_at hf.mar (i := i) (by omega) with z | z | ⟨j, _, z⟩
          · exact .inr z
          · exact .inl z
          · exact absurd z (ngap i j)
        have sz2 := PySem.sizeLine_eq
        have kg0 := plD_key (.gap 0)
        have kg1 := plD_key (.gap 1)
        obtain ⟨m0, m1, rfl⟩ : ∃ m0 m1, ms = [m0, m1] := by
          match ms, (show ms.length = 2 by omega) with
          | [a, b], _ => exact ⟨a, b, rfl⟩
        have b0 := at_ 0 (by omega)
        have b1 := at_ 1 (by omega)
        simp only [List.getElem?_cons_zero, List.getElem?_cons_succ, Option.some.injEq] at b0 b1
        have q1 : (Str.ofString "half" == Str.ofString "third") = false := by decide
        have q2 : (Str.ofString "third" == Str.ofString "third") = true := by decide
        rcases b0 with rfl | rfl <;> rcases b1 with rfl | rfl
        · have a1 := e1.put (.gap 0) (.gap 1)
          have a2 := a1.put (.gap 1) (.gap 0)
          have n1 := putN_len (kvs := hk) (k := plD (.gap 0)) (v := plD (.gap 1))
          simp_arith only [turns, mkD, neF_ss, q1, q2, dDicPut, dFreezeN, Lo.dic.injEq, ixt0, ixt1, ixl0, ixl1]
          refine ⟨kg0.1, kg0.2, e1.ok, by omega, kg1.1, kg1.2, a1.ok, Nat.lt_of_le_of_lt n1 (by omega), h _ _ _ _ (.gap 1) a2 e2 (.inr ⟨c, fun i hi => ⟨hh.thg i (mka_lt hf.mar hi) hi, ?_⟩, rfl⟩)⟩
          match i, hi with
          | 0, _ => rw [updF_ne (by simp), updF_same]; rfl
          | 1, _ => rw [updF_same]; rfl
        · have a1 := e1.put (.gap 0) (.gap 0)
          simp_arith only [turns, mkD, neF_ss, q1, q2, dDicPut, dFreezeN, Lo.dic.injEq, ixt0, ixt1, ixl0, ixl1]
          refine ⟨kg0.1, kg0.2, e1.ok, by omega, h _ _ _ _ (.gap 0) a1 e2 (.inr ⟨c, fun i hi => ⟨hh.thg i (mka_lt hf.mar hi) hi, ?_⟩, rfl⟩)⟩
          match i, hi with
          | 0, _ => rw [updF_same]; rfl
          | 1, hi => simp at hi
        · have a1 := e1.put (.gap 1) (.gap 1)
          simp_arith only [turns, mkD, neF_ss, q1, q2, dDicPut, dFreezeN, Lo.dic.injEq, ixt0, ixt1, ixl0, ixl1]
          refine ⟨kg1.1, kg1.2, e1.ok, by omega, h _ _ _ _ (.gap 1) a1 e2 (.inr ⟨c, fun i hi => ⟨hh.thg i (mka_lt hf.mar hi) hi, ?_⟩, rfl⟩)⟩
          match i, hi with
          | 0, hi => simp at hi
          | 1, _ => rw [updF_same]; rfl
        · simp at t3
      · rw [if_neg (by omega)]
        have hn : 2 < fs.length := by omega
        have lk : Links fs ms ts ha th := ⟨hh.rot, fun i hi => hh.thg i (mka_lt hf.mar hi) hi, fun i hi => hh.hag i (mka_lt hf.mar hi) hi, fun i hi => hh.hah i (mka_lt hf.mar hi) hi, fun i k hi => hh.ham i k (mka_lt hf.mar hi) hi, fun e he hb => hh.hai e he fun i hi z => hb (z ▸ gapE_bd hi)⟩
        have in1 : (th (.edge ed1)).isSome = true ↔ ed1 ∈ edg ts := ⟨hh.only ed1, fun m => by
          obtain ⟨q, hq, _⟩ := th_total (p := .edge ed1) lk m
          rw [hq]; rfl⟩
        simp only [inN]
        have ke := plD_key (.edge ed1)
        refine ⟨tk, rfl, ke.1, ke.2, e2.ok, _, rfl, ?_⟩
        rw [if_pos trivial, e2.any]
        by_cases m : ed1 ∈ edg ts
        · rw [in1.mpr m]
          exact h hk tk ha th _ e1 e2 (.inl ⟨hn, ts, ok, htl, hlen, lk, .inl ⟨m, rfl⟩⟩)
        · have nm : (th (.edge ed1)).isSome = false := by
            cases z : (th (.edge ed1)).isSome with
            | false => rfl
            | true => exact absurd (in1.mp z) m
          rw [nm]
          obtain ⟨f, hf1, hf2, hf3⟩ := ha_total (p := .edge (gapE fs (fs.length - 1))) hf hn ok lk (gap_in hf.fr hn ok (by omega))
          have kl := plD_key (.edge (gapE fs (fs.length - 1)))
          have al : atI (gpD fs) (-1) = some (plD (.edge (gapE fs (fs.length - 1)))) := by
            have lg : (gpD fs).length = fs.length := by simp [gpD]
            have ix : ixN (gpD fs).length (-1) = some (fs.length - 1) := by
              unfold ixN
              rw [lg, if_neg (by decide), if_pos (by omega)]
              congr 1; omega
            unfold atI
            rw [ix]
            show (gpD fs)[fs.length - 1]? = _
            unfold gpD
            rw [List.getElem?_map, List.getElem?_range (by omega)]; rfl
          show cDicGet 8 _ _ _
          simp_arith only [cDicGet, Lo.dic.injEq]
          refine ⟨_, al, plD f, kl.1, kl.2, e1.ok, by rw [e1.get, hf1]; rfl, ?_⟩
          exact h hk tk ha th f e1 e2 (.inl ⟨hn, ts, ok, htl, hlen, lk, .inr ⟨m, hf1⟩⟩)
    simp_arith only [t_law_links_6, dForE, Lo.dic.injEq]
    refine ⟨_, _, rfl, rfl, ?_⟩
    have ml := hf.mar.len
    have sz := PySem.sizeLine_eq
    refine turns_of (fun j e => ∃ (hk tk : List (D × D)) (ha th : Pla → Option Pla) (k9 k10 : Option Lo), e = [some (.d (fanD fs ms)), some (.d (.tup (fs.map frD))), some (.d (.tup (ms.map mkD))), some (.d (.lst (gpD fs))), some (.dic tk), k5, k6, k7, some (.dic hk), k9, k10, none] ∧ DicF hk ha ∧ DicF tk th ∧ HaOk fs ms ts j ha th ∧ hk.length ≤ 100 + 2 * j ∧ tk.length ≤ 100 + j) ?_ ?_ ⟨hk, tk, ha, th, none, none, rfl, hd2, hd, ⟨ht.rot, ht.only, fun i hi => absurd hi (Nat.not_lt_zero _), fun i hi => absurd hi (Nat.not_lt_zero _), fun i hi => absurd hi (Nat.not_lt_zero _), fun i k hi => absurd hi (Nat.not_lt_zero _), fun e he _ => hrv e he⟩, by omega, by omega⟩
    · rintro j x env N hx ⟨hk, tk, ha, th, k9, k10, rfl, e1, e2, hh, l1, l2⟩ hN
      obtain ⟨m, hm, rfl⟩ : ∃ m, ms[j]? = some m ∧ x = .tup [.int (j : Int), mkD m] := by
        obtain ⟨y, hy, rfl⟩ := enumD_at hx
        rw [List.getElem?_map] at hy
        obtain ⟨m, hm, rfl⟩ := Option.map_eq_some_iff.mp hy
        exact ⟨m, hm, rfl⟩
      have hj := mka_lt hf.mar hm
      have kg := plD_key (.gap j)
      have ke := plD_key (.edge (gapE fs j))
      cases m with
      | third =>
        have a1 := e2.put (.gap j) (.gap j)
        have a2 := e1.put (.gap j) (.edge (gapE fs j))
        have a3 := a2.put (.edge (gapE fs j)) (.gap j)
        have n1 := putN_len (kvs := tk) (k := plD (.gap j)) (v := plD (.gap j))
        have n2 := putN_len (kvs := hk) (k := plD (.gap j)) (v := plD (.edge (gapE fs j)))
        have n3 := putN_len (kvs := putN hk (plD (.gap j)) (plD (.edge (gapE fs j)))) (k := plD (.edge (gapE fs j))) (v := plD (.gap j))
        simp_arith only [mkD, dDicPut, Lo.dic.injEq, gpD]
        rw [if_pos (beq_self_eq_true _)]
        refine ⟨kg.1, kg.2, e2.ok, by omega, gp_at hj ⟨kg.1, kg.2, e1.ok, by omega, gp_at hj ⟨ke.1, ke.2, a2.ok, Nat.lt_of_le_of_lt n2 (by omega), hN _ ⟨_, _, _, _, _, _, rfl, a3, a1, ?_, Nat.le_trans n3 (by omega), Nat.le_trans n1 (by omega)⟩⟩⟩⟩
        refine hh.more hf.fr hj (fun x x1 x2 => by rw [updF_ne x2, updF_ne x1]) (fun x x1 => updF_ne x1) (fun _ => ⟨updF_same, by rw [updF_ne (by simp), updF_same], updF_same⟩) (fun z => by rw [hm] at z; cases z) (fun k z => by rw [hm] at z; cases z)
      | half =>
        have a1 := e1.put (.edge (gapE fs j)) (.edge (gapE fs j))
        have n1 := putN_len (kvs := hk) (k := plD (.edge (gapE fs j))) (v := plD (.edge (gapE fs j)))
        simp_arith only [mkD, dDicPut, Lo.dic.injEq, gpD]
        rw [if_neg (by decide), if_pos (beq_self_eq_true _)]
        refine gp_at hj (gp_at hj ⟨ke.1, ke.2, e1.ok, by omega, hN _ ⟨_, _, _, _, _, _, rfl, a1, e2, ?_, Nat.le_trans n1 (by omega), by omega⟩⟩)
        exact hh.more hf.fr hj (fun x x1 x2 => updF_ne x2) (fun x x1 => rfl) (fun z => by rw [hm] at z; cases z) (fun _ => updF_same) (fun k z => by rw [hm] at z; cases z)
      | gap k =>
        have hk' : k < fs.length := mka_lt hf.mar (hf.mar.pair j k hm).2
        have a1 := e1.put (.edge (gapE fs j)) (.edge (gapE fs k))
        have n1 := putN_len (kvs := hk) (k := plD (.edge (gapE fs j))) (v := plD (.edge (gapE fs k)))
        simp_arith only [mkD, dDicPut, Lo.dic.injEq, gpD, eqF_is]
        refine gp_at hk' (gp_at hj ⟨ke.1, ke.2, e1.ok, by omega, hN _ ⟨_, _, _, _, _, _, rfl, a1, e2, ?_, Nat.le_trans n1 (by omega), by omega⟩⟩)
        exact hh.more hf.fr hj (fun x x1 x2 => updF_ne x2) (fun x x1 => rfl) (fun z => by rw [hm] at z; cases z) (fun z => by rw [hm] at z; cases z) (fun k' z => by rw [hm] at z; cases z; exact updF_same)
    · rintro env ⟨hk, tk, ha, th, k9, k10, rfl, e1, e2, hh, l1, l2⟩
      have el : (enumD (ms.map mkD)).length = fs.length := by rw [enumD_len, List.length_map, ml]
      rw [el] at hh l1
      exact rest7 hk tk ha th k9 k10 e1 e2 hh (by omega)
  simp_arith only [t_law_links_4, dDicNew, dForDic, Lo.dic.injEq]
  intro p
  have sz := PySem.sizeLine_eq
  refine turns_of (fun i e => ∃ (hk : List (D × D)) (ha : Pla → Option Pla) (k5 k7 : Option Lo), e = [some (.d (fanD fs ms)), some (.d (.tup (fs.map frD))), some (.d (.tup (ms.map mkD))), some (.d (.lst (gpD fs))), some (.d (.obj (AtN p))), k5, k6, k7, some (.dic hk), none, none, none] ∧ DicF hk ha ∧ (∀ e, plD (.edge e) ∈ (tk.map (·.1)).take i → ha (.edge e) = some (.edge (rv e))) ∧ (∀ i, ha (.gap i) = none) ∧ hk.length ≤ i) ?_ ?_ ⟨[], _, k5, k7, rfl, DicF.nil, fun e he => by simp at he, fun _ => rfl, by simp⟩
  · rintro i x env N hx ⟨hk, ha, k5, k7, rfl, hd2, hr, hg, hl2⟩ hN
    have hi : i < tk.length := by have := (List.getElem?_eq_some_iff.mp hx).1; simpa using this
    have hm := List.mem_of_getElem? hx
    obtain ⟨kv, hkv, rfl⟩ := List.mem_map.mp hm
    obtain ⟨q, hq⟩ := hd.key kv hkv
    rw [hq] at hm hx ⊢
    have hs := (hd.mem q).mp hm
    cases q with
    | gap g => rw [ht.gaps g] at hs; cases hs
    | edge e =>
      have k1 := plD_key (.edge e)
      have d1 := hd2.put (.edge e) (.edge (rv e))
      have l1 := putN_len (kvs := hk) (k := plD (.edge e)) (v := plD (.edge (rv e)))
      have tke : (tk.map (·.1)).take (i + 1) = (tk.map (·.1)).take i ++ [plD (.edge e)] := by rw [List.take_succ, hx]; rfl
      simp only [plD, rv] at l1
      simp_arith only [plD, dDicPut, Lo.dic.injEq]
      refine ⟨k1.1, k1.2, hd2.ok, by omega, hN _ ⟨_, _, _, _, rfl, d1, fun d hdm => ?_, fun g => ?_, by omega⟩⟩
      · by_cases c : d = e
        · subst c; exact updF_same
        · rw [updF_ne (fun z => c (by injection z))]
          rw [tke] at hdm
          rcases List.mem_append.mp hdm with z | z
          · exact hr d z
          · rw [List.mem_singleton] at z
            exact absurd (by have := plD_inj z; injection this) c
      · rw [updF_ne (by simp)]; exact hg g
  · rintro env ⟨hk, ha, k5, k7, rfl, hd2, hr, hg, hl2⟩
    refine ⟨rfl, ?_⟩
    rw [List.length_map] at hr hl2
    refine rest6 hk ha k5 k7 hd2 (fun e he => hr e ?_) hg hl2
    rw [List.take_of_length_le (by simp), hd.mem]
    obtain ⟨t, htt, het⟩ := edg_tile he
    have r := ht.rot t htt
    unfold te at het
    simp only [List.mem_cons, List.not_mem_nil, or_false] at het
    rcases het with rfl | rfl | rfl
    · rw [r.1]; rfl
    · rw [r.2.1]; rfl
    · rw [r.2.2]; rfl
end K55
set_option Elab.async false
set_option linter.all false
set_option maxRecDepth 100000
set_option maxHeartbeats 4000000
namespace K55
open PySem L2 L2.L3
end K55
set_option Elab.async false
set_option linter.all false
set_option maxRecDepth 100000
set_option maxHeartbeats 4000000
namespace K55
open PySem L2 L2.L3
end K55
set_option Elab.async false
set_option linter.all false
set_option maxRecDepth 100000
set_option maxHeartbeats 4000000
namespace K55
open PySem L2 L2.L3
theorem nodup_le {α : Type} [DecidableEq α] : ∀ (l m : List α), l.Nodup → (∀ x ∈ l, x ∈ m) → l.length ≤ m.length
  | [], m, _, _ => Nat.zero_le _
  | x :: l, m, nd, h => by
    rw [List.nodup_cons] at nd
    have hx := h x List.mem_cons_self
    have ih := nodup_le l (m.erase x) nd.2 fun y hy => (List.mem_erase_of_ne (a := y) (b := x) (fun e => nd.1 (by rw [← e]; exact hy))).mpr (h y (List.mem_cons_of_mem _ hy))
    rw [List.length_erase_of_mem hx] at ih
    have : 0 < m.length := List.length_pos_of_mem hx
    simp only [List.length_cons]; omega
structure Sys (ha th : Pla → Option Pla) (f : Pla) (isP : Pla → Prop) (all : List Pla) : Prop where
  f0 : isP f
  h1 : ∀ p, isP p → ∃ q, ha p = some q ∧ isP q
  t1 : ∀ p, isP p → ∃ q, th p = some q ∧ isP q
  hh : ∀ p q, isP p → ha p = some q → ha q = some p
  t3 : ∀ p, isP p → ∃ q r, th p = some q ∧ th q = some r ∧ th r = some p
  al : ∀ p, isP p → p ∈ all
  few : all.length ≤ 500
  re : ∀ S : Pla → Prop, S f → (∀ p q, S p → ha p = some q → S q) → (∀ p q, S p → th p = some q → S q) → ∀ p, isP p → S p
section
variable {ha th : Pla → Option Pla} {f : Pla} {isP : Pla → Prop} {all met : List Pla} {at_ : Nat}
end
structure TabOk (a b : List Nat) : Prop where
  len : b.length = a.length
  al : ∀ (i x : Nat), a[i]? = some x → x < a.length
  bl : ∀ (i x : Nat), b[i]? = some x → x < a.length
  aa : ∀ (i x : Nat), a[i]? = some x → a[x]? = some i
  bbb : ∀ (i x y : Nat), b[i]? = some x → b[x]? = some y → b[y]? = some i
def PlaSrc (fs : List Z2) (ms : List Mk) (ha th : Pla → Option Pla) (isP : Pla → Prop) : Prop :=
  (2 < fs.length ∧ ∃ ts, TileOk fs ts ∧ TilesOf fs ts ∧ Links fs ms ts ha th ∧ ∀ p, isP p ↔ isPl ms ts p) ∨
  (fs.length = 2 ∧ (∀ i, ms[i]? = some Mk.third → th (.gap i) = some (.gap i) ∧ ha (.gap i) = some (.gap (if ms[1 - i]? = some Mk.third then 1 - i else i))) ∧ ∀ p, isP p ↔ ∃ i, ms[i]? = some Mk.third ∧ p = .gap i)
theorem idx_count [DecidableEq Mk] (x : Mk) : ∀ ms : List Mk, ((List.range ms.length).filter fun i => decide (ms[i]? = some x)).length = ms.count x
  | [] => rfl
  | m :: ms => by
    have ih := idx_count x ms
    rw [List.length_cons, List.range_succ_eq_map, List.filter_cons, List.count_cons, ← ih, List.filter_map, List.getElem?_cons_zero]
    have e : ((fun i => decide ((m :: ms)[i]? = some x)) ∘ Nat.succ) = fun i => decide (ms[i]? = some x) := by funext i; rfl
    rw [e]
    by_cases c : m = x
    · subst c; simp
    · have c' : ¬ (m == x) = true := by simpa using c
      simp [c]
theorem fix_count {met : List Pla} {ms : List Mk} (x : Mk) (g : Nat → Pla) (P : Pla → Bool) (nd : met.Nodup) (gi : ∀ i j, ms[i]? = some x → ms[j]? = some x → g i = g j → i = j) (hP : ∀ p ∈ met, P p = true ↔ ∃ i, ms[i]? = some x ∧ p = g i) (hm : ∀ i, ms[i]? = some x → g i ∈ met) : (met.filter P).length = ms.count x := by
  rw [← idx_count]
  have mem : ∀ i, i ∈ ((List.range ms.length).filter fun i => decide (ms[i]? = some x)) ↔ ms[i]? = some x := fun i => by
    rw [List.mem_filter, List.mem_range, decide_eq_true_eq]
    exact ⟨fun z => z.2, fun z => ⟨(List.getElem?_eq_some_iff.mp z).1, z⟩⟩
  refine count_fix (g := g) P nd (fun i hi j hj e => gi i j ((mem i).mp hi) ((mem j).mp hj) e) (List.nodup_range.filter _) (fun p hp => ?_) (fun i hi => hm i ((mem i).mp hi))
  rw [hP p hp]
  exact ⟨fun ⟨i, a, b⟩ => ⟨i, (mem i).mpr a, b⟩, fun ⟨i, a, b⟩ => ⟨i, (mem i).mp a, b⟩⟩
theorem edg_len : ∀ ts : List Tile, (edg ts).length = 3 * ts.length
  | [] => rfl
  | t :: ts => by
    have := edg_len ts
    show (te t ++ edg ts).length = _
    rw [List.length_append, this]
    unfold te
    simp; omega
theorem sys_of {fs : List Z2} {ms : List Mk} {ha th : Pla → Option Pla} {f : Pla} (hf : FanOk fs ms) (h : LinksRes fs ms ha th f) : ∃ isP all, Sys ha th f isP all ∧ PlaSrc fs ms ha th isP ∧
    ∀ met : List Pla, met.Nodup → (∀ p, isP p ↔ p ∈ met) → (met.filter fun p => decide (ha p = some p)).length = ms.count .half ∧ (met.filter fun p => decide (th p = some p)).length = ms.count .third := by
  have most := hf.fr.most
  have ml := hf.mar.len
  rcases h with ⟨hn, ts, ok, htl, hlen, lk, fo⟩ | ⟨c, hl, rfl⟩
  · refine ⟨isPl ms ts, (edg ts).map .edge ++ (List.range fs.length).map .gap, ⟨first_in hf hn ok lk fo, fun p hp => ?_, fun p hp => th_total lk hp, fun p q hp hq => ?_, fun p hp => ?_, fun p hp => ?_, ?_, fun S s0 s1 s2 => reach hf hn ok lk fo s0 s1 s2⟩, .inl ⟨hn, ts, ok, htl, lk, fun _ => Iff.rfl⟩, fun met nd hm => ⟨?_, ?_⟩⟩
    · obtain ⟨q, a, b, _⟩ := ha_total hf hn ok lk hp
      exact ⟨q, a, b⟩
    · obtain ⟨q', a, _, c⟩ := ha_total hf hn ok lk hp
      rw [hq] at a; cases a; exact c
    · cases p with
      | gap i => exact ⟨_, _, lk.thg i hp, lk.thg i hp, lk.thg i hp⟩
      | edge e =>
        obtain ⟨t, ht, he⟩ := edg_tile hp
        have r := lk.rot t ht
        unfold te at he
        simp only [List.mem_cons, List.not_mem_nil, or_false] at he
        rcases he with rfl | rfl | rfl
        · exact ⟨_, _, r.1, r.2.1, r.2.2⟩
        · exact ⟨_, _, r.2.1, r.2.2, r.1⟩
        · exact ⟨_, _, r.2.2, r.1, r.2.1⟩
    · cases p with
      | edge e => exact List.mem_append.mpr (.inl (List.mem_map.mpr ⟨e, hp, rfl⟩))
      | gap i => exact List.mem_append.mpr (.inr (List.mem_map.mpr ⟨i, List.mem_range.mpr (mka_lt hf.mar hp), rfl⟩))
    · rw [List.length_append, List.length_map, List.length_map, edg_len, List.length_range]; omega
    · refine fix_count .half (fun i => .edge (gapE fs i)) _ nd (fun i j hi hj e => gapE_inj hf.fr (mka_lt hf.mar hi) (mka_lt hf.mar hj) (by injection e)) (fun p hp => ?_) (fun i hi => ?_)
      · rw [decide_eq_true_eq]; exact ha_fix hf hn ok lk ((hm p).mpr hp)
      · exact (hm _).mp (gap_in hf.fr hn ok (mka_lt hf.mar hi))
    · refine fix_count .third (fun i => .gap i) _ nd (fun i j hi hj e => by injection e) (fun p hp => ?_) (fun i hi => (hm _).mp hi)
      rw [decide_eq_true_eq]; exact th_fix ok lk ((hm p).mpr hp)
  · obtain ⟨t3, ngap⟩ := hf.mar.few c
    have lt2 : ∀ i x, ms[i]? = some x → i < 2 := fun i x hi => by have := (List.getElem?_eq_some_iff.mp hi).1; omega
    have two : ∀ i, i < 2 → ms[i]? = some Mk.third ∨ ms[i]? = some Mk.half := fun i hi => by
      rcases mka_at hf.mar (i := i) (by omega) with z | z | ⟨j, _, z⟩
      · exact .inr z
      · exact .inl z
      · exact absurd z (ngap i j)
    have one3 : ms[1]? ≠ some Mk.third → ms[0]? = some Mk.third := fun z => by
      obtain ⟨i, hi⟩ := List.getElem?_of_mem t3
      have := lt2 i _ hi
      have : i ≠ 1 := fun w => z (w ▸ hi)
      have : i = 0 := by omega
      exact this ▸ hi
    refine ⟨fun p => ∃ i, ms[i]? = some Mk.third ∧ p = .gap i, [.gap 0, .gap 1], ⟨?_, ?_, ?_, ?_, ?_, ?_, by simp, fun S s0 s1 s2 => ?_⟩, .inr ⟨c, hl, fun _ => Iff.rfl⟩, fun met nd hm => ⟨?_, ?_⟩⟩
    · by_cases z : ms[1]? = some Mk.third
      · rw [if_pos z]; exact ⟨1, z, rfl⟩
      · rw [if_neg z]; exact ⟨0, one3 z, rfl⟩
    · rintro p ⟨i, hi, rfl⟩
      refine ⟨_, (hl i hi).2, ?_⟩
      by_cases z : ms[1 - i]? = some Mk.third
      · rw [if_pos z]; exact ⟨1 - i, z, rfl⟩
      · rw [if_neg z]; exact ⟨i, hi, rfl⟩
    · rintro p ⟨i, hi, rfl⟩
      exact ⟨_, (hl i hi).1, i, hi, rfl⟩
    · rintro p q ⟨i, hi, rfl⟩ hq
      have l2 := lt2 i _ hi
      rw [(hl i hi).2] at hq
      by_cases z : ms[1 - i]? = some Mk.third
      · rw [if_pos z] at hq
        cases hq
        rw [(hl _ z).2, show 1 - (1 - i) = i by omega, if_pos hi]
      · rw [if_neg z] at hq
        cases hq
        rw [(hl i hi).2, if_neg z]
    · rintro p ⟨i, hi, rfl⟩
      exact ⟨_, _, (hl i hi).1, (hl i hi).1, (hl i hi).1⟩
    · rintro p ⟨i, hi, rfl⟩
      have := lt2 i _ hi
      match i, this with
      | 0, _ => simp
      | 1, _ => simp
    · rintro p ⟨i, hi, rfl⟩
      by_cases z : ms[1]? = some Mk.third
      · rw [if_pos z] at s0
        have := lt2 i _ hi
        match i, this with
        | 1, _ => exact s0
        | 0, _ =>
          have q := (hl 1 z).2
          rw [if_pos (show ms[1 - 1]? = some Mk.third from hi)] at q
          exact s1 _ _ s0 q
      · rw [if_neg z] at s0
        have := lt2 i _ hi
        have : i ≠ 1 := fun w => z (w ▸ hi)
        have : i = 0 := by omega
        subst this; exact s0
    · refine fix_count .half (fun i => .gap (1 - i)) _ nd (fun i j hi hj e => by
        have := lt2 i _ hi
        have := lt2 j _ hj
        injection e with e
        omega) (fun p hp => ?_) (fun i hi => ?_)
      · obtain ⟨i, hi, rfl⟩ := (hm p).mpr hp
        have l2 := lt2 i _ hi
        rw [decide_eq_true_eq, (hl i hi).2]
        by_cases z : ms[1 - i]? = some Mk.third
        · rw [if_pos z]
          refine ⟨fun w => ?_, fun ⟨k, hk, w⟩ => ?_⟩
          · injection w with w; injection w with w; omega
          · injection w with w
            have := lt2 k _ hk
            have : k = 1 - i := by omega
            rw [this, z] at hk; cases hk
        · rw [if_neg z]
          refine ⟨fun _ => ⟨1 - i, ?_, by rw [show 1 - (1 - i) = i by omega]⟩, fun _ => rfl⟩
          rcases two (1 - i) (by omega) with w | w
          · exact absurd w z
          · exact w
      · have l2 := lt2 i _ hi
        refine (hm _).mp ⟨1 - i, ?_, rfl⟩
        rcases two (1 - i) (by omega) with w | w
        · exact w
        · exfalso
          obtain ⟨k, hk⟩ := List.getElem?_of_mem t3
          have := lt2 k _ hk
          have : k = i ∨ k = 1 - i := by omega
          rcases this with v | v
          · rw [v, hi] at hk; cases hk
          · rw [v, w] at hk; cases hk
    · refine fix_count .third (fun i => .gap i) _ nd (fun i j hi hj e => by injection e) (fun p hp => ?_) (fun i hi => (hm _).mp ⟨i, hi, rfl⟩)
      obtain ⟨i, hi, rfl⟩ := (hm p).mpr hp
      rw [decide_eq_true_eq]
      exact ⟨fun _ => ⟨i, hi, rfl⟩, fun _ => (hl i hi).1⟩
end K55
set_option Elab.async false
set_option linter.all false
set_option maxRecDepth 100000
set_option maxHeartbeats 8000000
namespace K55
open PySem L2 L2.L3
open Classical in
theorem getD_at {l : List Nat} {i : Nat} (h : i < l.length) : l[i]? = some (l.getD i 0) := by
  rw [List.getD_eq_getElem?_getD, List.getElem?_eq_getElem h]; rfl
end K55
set_option Elab.async false
set_option linter.all false
set_option maxRecDepth 100000
set_option maxHeartbeats 8000000
namespace K55
open PySem L2 L2.L3
end K55
set_option Elab.async false
set_option linter.all false
set_option maxRecDepth 100000
set_option maxHeartbeats 8000000
namespace K55
open PySem L2 L2.L3
def lp (a b : List Nat) (p c : Nat) : Nat := if c = 115 then a.getD p 0 else if c = 114 then b.getD p 0 else b.getD (b.getD p 0) 0
def lw (a b : List Nat) (cs : List Nat) (p : Nat) : Nat := cs.foldl (lp a b) p
theorem lw_app (a b u v : List Nat) (p : Nat) : lw a b (u ++ v) p = lw a b v (lw a b u p) := List.foldl_append
theorem lw_snoc (a b u : List Nat) (c p : Nat) : lw a b (u ++ [c]) p = lp a b (lw a b u p) c := lw_app a b u [c] p
section
variable {a b : List Nat} (t : TabOk a b)
include t
theorem ta_lt {p : Nat} (h : p < a.length) : a.getD p 0 < a.length := t.al _ _ (getD_at h)
theorem tb_lt {p : Nat} (h : p < a.length) : b.getD p 0 < a.length := t.bl _ _ (getD_at (l := b) (by rw [t.len]; exact h))
theorem ta_two {p : Nat} (h : p < a.length) : a.getD (a.getD p 0) 0 = p := by
  have h2 := t.aa _ _ (getD_at h)
  rw [getD_at (ta_lt t h)] at h2
  exact Option.some.inj h2
theorem tb_three {p : Nat} (h : p < a.length) : b.getD (b.getD (b.getD p 0) 0) 0 = p := by
  have e := t.len
  have l1 := tb_lt t h
  have l2 := tb_lt t l1
  have h3 := t.bbb _ _ _ (getD_at (l := b) (i := p) (by omega)) (getD_at (l := b) (by omega))
  rw [getD_at (l := b) (by omega)] at h3
  exact Option.some.inj h3
theorem lp_lt {p : Nat} (h : p < a.length) (c : Nat) : lp a b p c < a.length := by
  unfold lp; split
  · exact ta_lt t h
  · split
    · exact tb_lt t h
    · exact tb_lt t (tb_lt t h)
theorem lw_lt {p : Nat} (h : p < a.length) (cs : List Nat) : lw a b cs p < a.length := by
  refine snoc_ind (P := fun cs => lw a b cs p < a.length) h (fun r c ih => ?_) cs
  rw [lw_snoc]; exact lp_lt t ih c
theorem lp_pair {x c : Nat} {w : List Nat} (h : pairW x c = some w) {p : Nat} (hp : p < a.length) : lp a b (lp a b p x) c = lw a b w p := by
  unfold pairW at h
  split at h
  · rename_i z; obtain ⟨rfl, rfl⟩ := z; cases h; exact ta_two t hp
  · split at h
    · rename_i z; obtain ⟨rfl, rfl⟩ := z; cases h; rfl
    · split at h
      · rename_i z; obtain ⟨rfl, rfl⟩ := z; cases h
        show b.getD (b.getD (b.getD (b.getD p 0) 0) 0) 0 = b.getD p 0
        rw [tb_three t hp]
      · split at h
        · rename_i z; cases h
          rcases z with ⟨rfl, rfl⟩ | ⟨rfl, rfl⟩
          · exact tb_three t hp
          · exact tb_three t hp
        · cases h
end
end K55
set_option Elab.async false
set_option linter.all false
set_option maxRecDepth 100000
set_option maxHeartbeats 8000000
namespace KR
open PySem L2 L2.L3 K55
def f_law_cell_at : Fw := F2 pCell
def t_law_cell_at : TS3 := (dSeq (dIf (cTest (cOp ltD (cVar 1) (cCall lenF (cCons (cVar 0) cNil)))) (dRet (cOp ixD (cVar 0) (cVar 1))) dNext) (dRet (cC (.int 0))))
theorem len_law_cell_at : ∀ ds Q, f_law_cell_at ds Q → ds.length = 2 := lenF2
theorem ob_law_cell_at : ∀ ds (Q : D → Prop), f_law_cell_at ds Q → t_law_cell_at { nx := fun _ => Q .non, rt := Q } (start3 ["_law_script", "_law_k"] ds) := by
  exact ob_law_cell
def pDigit (x y : D) (Q : D → Prop) : Prop := ∃ m : Int, x = .obj RestP ∧ y = .int m ∧ 0 < m ∧ m ≤ 1000000000000 ∧ ∀ d : Int, 0 ≤ d → d < m → Q (.int d)
def f_law_digit : Fw := F2 pDigit
def t_law_digit : TS3 := (dSeq (dSet 2 (cOp modD (cRest (cVar 0)) (cVar 1))) (dSeq (dRestPut (cVar 0) (cOp fdivD (cRest (cVar 0)) (cVar 1))) (dRet (cVar 2))))
theorem len_law_digit : ∀ ds Q, f_law_digit ds Q → ds.length = 2 := lenF2
theorem ob_law_digit : ∀ ds (Q : D → Prop), f_law_digit ds Q → t_law_digit { nx := fun _ => Q .non, rt := Q } (start3 ["_law_rest", "_law_many", "_law_digit_here"] ds) := by
  rintro ds Q ⟨x, y, rfl, m, rfl, rfl, h0, h1, h⟩
  simp_arith only [t_law_digit, cRest, dRestPut]
  intro r
  have f := fmod_range (a := r) (b := m) h0
  have hm : m.natAbs < 2 ^ 256 := Nat.lt_of_le_of_lt (show m.natAbs ≤ 1000000000000 by omega) (by decide)
  refine ⟨modL _ (by omega), fun r2 => ⟨divL _ ⟨by omega, hm⟩, ?_⟩⟩
  exact h _ f.1 f.2
def pFrR (x y : D) (Q : D → Prop) : Prop := ∃ n : Nat, x = .obj RestP ∧ y = .int (n : Int) ∧ 2 ≤ n ∧ n ≤ 22 ∧ ∀ fs, FracOk n fs → Q (.tup (fs.map frD))
def f_law_fractions : Fw := F2 pFrR
def t_law_fractions : TS3 := (dSeq (dSetOwn 2 (cFew (cCons (cTup (cCons (cUn negD (cC (.int 1))) (cCons (cC (.int 0)) cNil))) (cCons (cTup (cCons (cC (.int 0)) (cCons (cC (.int 1)) cNil))) (cCons (cTup (cCons (cC (.int 1)) (cCons (cC (.int 0)) cNil))) cNil))))) (dSeq (dForR rng1 (cCons (cOp subD (cVar 1) (cC (.int 2))) cNil) (kName 3) (dSeq (dSet 4 (cCall f_law_digit (cCons (cVar 0) (cCons (cOp subD (cLenOwn 2) (cC (.int 1))) cNil)))) (dInsert 2 (cOp addD (cVar 4) (cC (.int 1))) (cTup (cCons (cOp addD (cOp ixD (cIxOwn 2 (cVar 4)) (cC (.int 0))) (cOp ixD (cIxOwn 2 (cOp addD (cVar 4) (cC (.int 1)))) (cC (.int 0)))) (cCons (cOp addD (cOp ixD (cIxOwn 2 (cVar 4)) (cC (.int 1))) (cOp ixD (cIxOwn 2 (cOp addD (cVar 4) (cC (.int 1)))) (cC (.int 1)))) cNil)))))) (dFreeze 2 (dRet (cCall tupleF (cCons (cOp addD (cLst (cCons (cTup (cCons (cC (.int 1)) (cCons (cC (.int 0)) cNil))) cNil)) (cSl (cVar 2) (cPart (cC (.int 1))) (cPart (cOp subD (cCall lenF (cCons (cVar 2) cNil)) (cC (.int 1)))))) cNil))))))
theorem len_law_fractions : ∀ ds Q, f_law_fractions ds Q → ds.length = 2 := lenF2
theorem ob_law_fractions : ∀ ds (Q : D → Prop), f_law_fractions ds Q → t_law_fractions { nx := fun _ => Q .non, rt := Q } (start3 ["_law_rest", "_law_many", "_law_row", "_law_k", "_law_at"] ds) := by
  rintro ds Q ⟨x, y, rfl, n, rfl, rfl, h2, h22, h⟩
  simp_arith only [t_law_fractions]
  refine ⟨by omega, by omega, ?_⟩
  refine turns_of (fun i e => ∃ (row : List Z2) (k1 k2 : Option Lo), e = [some (.d (.obj RestP)), some (.d (.int n)), some (.own (row.map frD)), k1, k2] ∧ RowOk i row) ?_ ?_ ⟨[(-1, 0), (0, 1), (1, 0)], _, _, rfl, row0⟩
  · rintro i x env N hx ⟨row, k1, k2, rfl, hr⟩ hN
    have hi : i < n - 2 := by
      have := (List.getElem?_eq_some_iff.mp hx).1
      simp [intsD] at this; omega
    have hxe : x = .int (i : Int) := by
      unfold intsD at hx
      rw [List.getElem?_map, List.getElem?_range (by omega)] at hx
      cases hx; simp
    subst hxe
    have hl := hr.len
    simp_arith only [List.length_map, f_law_digit, F2_eq, pDigit]
    have hk : ((row.length : Int) - 1) = ((i + 2 : Nat) : Int) := by omega
    rw [hk]
    refine ⟨by omega, by omega, fun v v0 v1 => ?_⟩
    obtain ⟨a, ea⟩ : ∃ a : Nat, v = (a : Int) := ⟨_, (Int.toNat_of_nonneg v0).symm⟩
    subst ea
    have ha : a < i + 2 := by omega
    have hp : row[a]? = some row[a] := List.getElem?_eq_getElem (by omega)
    have hq : row[a + 1]? = some row[a + 1] := List.getElem?_eq_getElem (by omega)
    have e1 : atI (row.map frD) (a : Int) = some (frD row[a]) := atI_map _ _ _ _ hp
    have e2 : atI (row.map frD) ((a : Int) + 1) = some (frD row[a + 1]) := atI_map _ _ (a + 1) _ hq
    refine ⟨_, _, rfl, e1, ?_⟩
    rw [ixfr0]
    refine ⟨_, _, rfl, e2, ?_⟩
    rw [ixfr0]
    refine ⟨_, _, rfl, e1, ?_⟩
    rw [ixfr1]
    refine ⟨_, _, rfl, e2, ?_⟩
    rw [ixfr1]
    refine ⟨by omega, by omega, by omega, hN _ ⟨row.take (a + 1) ++ (row[a].1 + row[a + 1].1, row[a].2 + row[a + 1].2) :: row.drop (a + 1), some (.d (.int i)), some (.d (.int a)), ?_, row_in hr ha hp hq⟩⟩
    rw [show ((a : Int) + 1).toNat = a + 1 by omega, List.map_append, List.map_cons, List.map_take, List.map_drop]
    rfl
  · rintro env ⟨row, k1, k2, rfl, hr⟩
    simp_arith only [and_true]
    have el : (intsD 0 ((n : Int) - 2).toNat).length = n - 2 := by simp [intsD]; omega
    rw [el] at hr
    have hl := hr.len
    have ec : cutD (row.map frD) (some 1) (some (((row.map frD).length : Int) - 1)) = ((row.drop 1).take (n - 2 + 1)).map frD := by
      unfold cutD
      rw [List.length_map, show ((row.length : Int) - 1) = ((row.length - 1 : Nat) : Int) by omega, show (1 : Int) = ((1 : Nat) : Int) from rfl, HT.sIx_nat, HT.sIx_nat]
      rw [List.map_take, List.map_drop]
      congr 1
      · omega
      · congr 1; omega
    rw [ec]
    refine ⟨by simp; omega, ?_⟩
    have := h _ (by have := row_frac hr (by omega); rw [show n - 2 + 2 = n by omega] at this; exact this)
    exact this
def pMkR (x y : D) (Q : D → Prop) : Prop := ∃ n : Nat, x = .obj RestP ∧ y = .int (n : Int) ∧ 2 ≤ n ∧ n ≤ 22 ∧ ∀ ms, MarkOk n ms → Q (.tup (ms.map mkD))
def f_law_marks : Fw := F2 pMkR
def t_law_marks_2_3 : TS3 := (dIf (cAnd (cTest (cOp gtD (cVar 5) (cC (.int 1)))) (cOwnNe 3)) (dSeq (dSetPop 6 3 (cCall f_law_digit (cCons (cVar 0) (cCons (cLenOwn 3) cNil)))) (dSeq (dPut 2 (cVar 4) (cVar 6)) (dPut 2 (cVar 6) (cVar 4)))) dNext)
def t_law_marks_3 : TS3 := (dSeq (dFreeze 2 (dIf (cAnd (cTest (cOp eqF (cVar 1) (cC (.int 2)))) (cTest (cOp (inLD true) (cC (.str "third")) (cVar 2)))) (dSet 2 (cLst (cCons (cC (.str "third")) (cCons (cC (.str "half")) cNil)))) dNext)) (dRet (cCall tupleF (cCons (cVar 2) cNil))))
def t_law_marks_2_2 : TS3 := (dSeq (dIf (cTest (cOp eqF (cVar 5) (cC (.int 1)))) (dPut 2 (cVar 4) (cC (.str "third"))) dNext) t_law_marks_2_3)
def t_law_marks : TS3 := (dSeq (dSetOwn 2 (cCompR rng1 [] (cCons (cVar 1) cNil) cTrue (cC (.str "half")))) (dSeq (dSetOwn 3 (cListR (cCons (cVar 1) cNil))) (dSeq (dWhile (cOwnNe 3) (dSeq (dSetPop 4 3 (cC (.int 0))) (dSeq (dSet 5 (cCall f_law_digit (cCons (cVar 0) (cCons (cC (.int 4)) cNil)))) t_law_marks_2_2))) t_law_marks_3)))
theorem len_law_marks : ∀ ds Q, f_law_marks ds Q → ds.length = 2 := lenF2
theorem ob_law_marks : ∀ ds (Q : D → Prop), f_law_marks ds Q → t_law_marks { nx := fun _ => Q .non, rt := Q } (start3 ["_law_rest", "_law_many", "_law_marks_here", "_law_left", "_law_gap", "_law_way", "_law_other"] ds) := by
  rintro ds Q ⟨x, y, rfl, n, rfl, rfl, h2, h22, h⟩
  simp_arith only [t_law_marks, dWhile]
  refine ⟨by omega, by omega, ?_⟩
  refine comps_map (fun _ => .str "half") _ _ (fun x hx N hN => by simp_arith only [capE]; exact hN) (by simp [intsD, PySem.sizeLine_eq]; omega) ?_
  refine ⟨by omega, by omega, ?_⟩
  have ints_nats : intsD 0 (n : Int).toNat = natsD (List.range n) := by
    unfold intsD natsD
    rw [show (n : Int).toNat = n by omega]
    refine List.map_congr_left fun i _ => ?_
    rw [Int.zero_add]
  refine ⟨fun e => ∃ (left : List Nat) (ms : List Mk) (k5 k6 k7 : Option Lo), e = [some (.d (.obj RestP)), some (.d (.int n)), some (.own (ms.map mkD)), some (.own (natsD left)), k5, k6, k7] ∧ MarkIn n left ms,
    fun e => match e with | [_, _, _, some (.own l), _, _, _] => l.length | _ => 0, ⟨List.range n, List.replicate n .half, none, none, none, ?_, ?_⟩, ?_⟩
  · rw [ints_nats]
    have e : [] ++ (natsD (List.range n)).map (fun _ => D.str (Str.ofString "half")) = (List.replicate n Mk.half).map mkD := by
      unfold natsD
      rw [List.nil_append, List.map_map, List.map_replicate]
      apply List.ext_getElem?
      intro i
      by_cases hi : i < n
      · rw [List.getElem?_map, List.getElem?_range hi, List.getElem?_replicate, if_pos hi]; rfl
      · rw [List.getElem?_eq_none (by simp; omega), List.getElem?_eq_none (by simp; omega)]
    rw [e]
  · refine ⟨by simp, List.nodup_range, fun i hi => List.mem_range.mp hi, fun i hi => ?_, fun i j hij => ?_⟩
    · rw [List.getElem?_replicate, if_pos (List.mem_range.mp hi)]
    · rw [List.getElem?_replicate] at hij; split at hij <;> cases hij
  rintro env ⟨left, ms, k5, k6, k7, rfl, hm⟩
  refine ⟨natsD left, rfl, by rw [natsD, depL_nats]; decide, ?_⟩
  cases left with
  | nil =>
    rw [if_neg (by simp [natsD])]
    simp_arith only [t_law_marks_3]
    have fin : ∀ ms : List Mk, MarkOk n ms → Q (.tup (ms.map mkD)) := h
    by_cases e2 : (n : Int) = 2
    · rw [if_pos e2]
      have en : n = 2 := by omega
      refine ⟨ms.map mkD, rfl, by rw [L2.L3.depL_mk]; decide, by decide, _, rfl, ?_⟩
      rw [if_pos rfl, has_third]
      by_cases ht : Mk.third ∈ ms
      · rw [decide_eq_true ht]
        simp_arith only [and_true]
        refine fin ms ⟨hm.len, hm.pair, fun _ => ⟨ht, fun i j hij => ?_⟩⟩
        obtain ⟨h1, h2⟩ := hm.pair i j hij
        have l1 := (List.getElem?_eq_some_iff.mp hij).1
        have l2 := (List.getElem?_eq_some_iff.mp h2).1
        rw [hm.len] at l1 l2
        obtain ⟨q, hq, eq⟩ := List.getElem_of_mem ht
        rw [hm.len] at hq
        have hqi : q = i ∨ q = j := by omega
        rcases hqi with z | z
        · subst z; rw [List.getElem?_eq_getElem (by rw [hm.len]; exact hq), eq] at hij; cases hij
        · subst z; rw [List.getElem?_eq_getElem (by rw [hm.len]; exact hq), eq] at h2; cases h2
      · rw [decide_eq_false ht]
        simp_arith only [and_true]
        refine fin [.third, .half] ⟨by rw [en]; rfl, fun i j hij => ?_, fun _ => ⟨by simp, fun i j hij => ?_⟩⟩
        · match i with
          | 0 => cases hij
          | 1 => cases hij
          | i + 2 => cases hij
        · match i with
          | 0 => cases hij
          | 1 => cases hij
          | i + 2 => cases hij
    · rw [if_neg e2]
      exact fin ms ⟨hm.len, hm.pair, fun z => absurd (by omega) e2⟩
  | cons g left =>
    rw [if_pos (by simp [natsD])]
    have hg := hm.lt g List.mem_cons_self
    refine ⟨_, rfl, 0, .int g, rfl, rfl, by decide, ?_⟩
    have eE : (natsD (g :: left)).eraseIdx 0 = natsD left := rfl
    rw [eE]
    simp_arith only [f_law_digit, F2_eq, pDigit]
    intro w w0 w1
    simp_arith only [t_law_marks_2_2]
    have hml : (ms.map mkD).length = n := by rw [List.length_map, hm.len]
    have ixg : ∀ (l : List D) (j : Nat), l.length = n → j < n → ixN l.length (j : Int) = some j := fun l j hl hj => by
      unfold ixN
      rw [if_pos (by omega), if_pos (by omega)]; rfl
    have mset : ∀ (j : Nat) (m : Mk), (ms.map mkD).set j (mkD m) = (ms.set j m).map mkD := fun j m => by rw [List.map_set]
    have less : (natsD left).length < (natsD (g :: left)).length := by simp [natsD]
    by_cases c1 : w = 1
    · rw [if_pos c1]
      subst c1
      refine ⟨_, g, rfl, ixg _ _ hml hg, ?_⟩
      simp_arith only [t_law_marks_2_3]
      exact ⟨⟨left, ms.set g .third, _, _, _, mset g .third, rfl, rfl, rfl, rfl, hm.third⟩, less⟩
    · rw [if_neg c1]
      simp_arith only [t_law_marks_2_3]
      by_cases c2 : 1 < w
      · rw [if_pos c2]
        refine ⟨by rw [natsD, depL_nats]; decide, ?_⟩
        by_cases c3 : (natsD left).isEmpty = false
        · rw [if_pos c3]
          have hl0 : 0 < left.length := by
            cases left with
            | nil => cases c3
            | cons _ _ => simp
          have ll := hm.nd
          have lln : left.length ≤ n := by
            have := nodup_le _ (List.range n) (List.nodup_cons.mp ll).2 (fun y hy => List.mem_range.mpr (hm.lt y (List.mem_cons_of_mem _ hy)))
            rwa [List.length_range] at this
          have hll : (natsD left).length = left.length := by simp [natsD]
          rw [hll]
          refine ⟨_, _, rfl, _, rfl, rfl, by omega, by omega, fun u u0 u1 => ?_⟩
          obtain ⟨a, ea⟩ : ∃ a : Nat, u = (a : Int) := ⟨_, (Int.toNat_of_nonneg u0).symm⟩
          subst ea
          have ha : a < left.length := by omega
          have ho : left[a]? = some left[a] := List.getElem?_eq_getElem ha
          have hol : left[a] < n := hm.lt _ (List.mem_cons_of_mem _ (List.getElem_mem ha))
          refine ⟨a, .int left[a], rfl, by unfold natsD; rw [List.getElem?_map, ho]; rfl, by omega, _, g, rfl, ixg _ _ hml hg, _, left[a], rfl, ixg _ _ (by rw [List.length_set]; exact hml) hol, ?_⟩
          refine ⟨⟨left.eraseIdx a, (ms.set g (.gap left[a])).set left[a] (.gap g), _, _, _, ?_, ?_, rfl, rfl, rfl, hm.two ho⟩, ?_⟩
          · rw [List.map_set, List.map_set]; rfl
          · unfold natsD; rw [er_map]
          · unfold natsD; rw [List.length_eraseIdx, List.length_map, if_pos ha]; simp; omega
        · rw [if_neg c3]; exact ⟨⟨left, ms, _, _, _, rfl, rfl, rfl, rfl, rfl, hm.skip⟩, less⟩
      · rw [if_neg c2]; exact ⟨⟨left, ms, _, _, _, rfl, rfl, rfl, rfl, rfl, hm.skip⟩, less⟩
def pFanR (x y z : D) (Q : D → Prop) : Prop := ∃ m g : Int, x = .obj RestP ∧ y = .int m ∧ z = .int g ∧ 2 ≤ m ∧ m ≤ 22 ∧ 2 ≤ g ∧ g ≤ 22 ∧ ∀ fs ms, FanOk fs ms → (fs.length : Int) ≤ max m g → Q (fanD fs ms)
def f_law_fan : Fw := F3 pFanR
def t_law_fan_2 : TS3 := (dRet (cTup (cCons (cCall f_law_fractions (cCons (cVar 0) (cCons (cVar 3) cNil))) (cCons (cCall f_law_marks (cCons (cVar 0) (cCons (cVar 3) cNil))) cNil))))
def t_law_fan : TS3 := (dSeq (dSet 3 (cOp addD (cC (.int 2)) (cCall f_law_digit (cCons (cVar 0) (cCons (cOp subD (cVar 1) (cC (.int 1))) cNil))))) (dSeq (dIf (cTest (cOp eqF (cCall f_law_digit (cCons (cVar 0) (cCons (cC (.int 8)) cNil))) (cC (.int 1)))) (dSet 3 (cOp addD (cC (.int 2)) (cCall f_law_digit (cCons (cVar 0) (cCons (cOp subD (cVar 2) (cC (.int 1))) cNil))))) dNext) t_law_fan_2))
theorem len_law_fan : ∀ ds Q, f_law_fan ds Q → ds.length = 3 := lenF3
theorem ob_law_fan : ∀ ds (Q : D → Prop), f_law_fan ds Q → t_law_fan { nx := fun _ => Q .non, rt := Q } (start3 ["_law_rest", "_law_most", "_law_great", "_law_many"] ds) := by
  rintro ds Q ⟨x, y, z, rfl, m, g, rfl, rfl, rfl, m2, m22, g2, g22, h⟩
  have fin : ∀ n : Int, 2 ≤ n → n ≤ max m g → t_law_fan_2 { nx := fun _ => Q .non, rt := Q } [some (.d (.obj RestP)), some (.d (.int m)), some (.d (.int g)), some (.d (.int n))] := fun n h1 h2 => by
    obtain ⟨k, rfl⟩ : ∃ k : Nat, n = (k : Int) := ⟨_, (Int.toNat_of_nonneg (by omega)).symm⟩
    simp_arith only [t_law_fan_2, f_law_fractions, f_law_marks, F2_eq, pFrR, pMkR]
    refine ⟨k, rfl, by omega, by omega, fun fs hfs => ⟨k, rfl, by omega, by omega, fun ms hms => ?_⟩⟩
    have e := hfs.len
    exact h fs ms ⟨by rw [e]; exact hfs, by rw [e]; exact hms⟩ (by omega)
  simp_arith only [t_law_fan, f_law_digit, F2_eq, pDigit]
  refine ⟨by omega, by omega, fun d d0 d1 e e0 e1 => ?_⟩
  by_cases c : e = 1
  · rw [if_pos c]
    exact ⟨by omega, by omega, fun d d0 d1 => fin _ (by omega) (by omega)⟩
  · rw [if_neg c]
    exact fin _ (by omega) (by omega)
def pBig (x y : D) (Q : D → Prop) : Prop := ∃ (ns : List Int) (k : Int), x = .lst (ns.map D.int) ∧ y = .int k ∧ 0 ≤ k ∧ k ≤ 1000 ∧ ∀ r : Int, Q (.int r)
def f_law_big : Fw := F2 pBig
theorem ix8 {l : List Int} (hl : l.length = 8) (P : Int → Prop) (hP : ∀ x ∈ l, P x) {i : Int} (h0 : 0 ≤ i) (h8 : i < 8) {Q : D → Prop} (q : ∀ x, P x → Q (.int x)) : ixD (.tup (l.map D.int)) (.int i) Q := by
  obtain ⟨k, rfl⟩ : ∃ k : Nat, i = (k : Int) := ⟨_, (Int.toNat_of_nonneg h0).symm⟩
  have hk : k < l.length := by omega
  refine ⟨.int l[k], ?_, q _ (hP _ (List.getElem_mem hk))⟩
  have e1 : ixN (l.map D.int).length (k : Int) = some k := by unfold ixN; rw [List.length_map, if_pos (by omega), if_pos (by omega)]; simp
  unfold atI
  rw [e1]
  simp [hk]
def t_law_big_5_1 : TS3 := (dSet 5 (cOp addD (cOp mulD (cVar 5) (cC (.int 7919))) (cOp modD (cOp modD (cOp mulD (cVar 7) (cOp ixD (cVar 2) (cOp modD (cVar 6) (cC (.int 8))))) (cOp ixD (cVar 3) (cOp modD (cVar 6) (cC (.int 8))))) (cC (.int 7919)))))
def t_law_big_4 : TS3 := (dSeq (dSet 5 (cC (.int 0))) (dSeq (dForR rng1 (cCons (cC (.int 60)) cNil) (kName 6) (dSeq (dSet 7 (cOp addD (cOp addD (cOp modD (cCall f_law_cell_at (cCons (cVar 0) (cCons (cOp addD (cVar 1) (cOp modD (cVar 6) (cC (.int 9)))) cNil))) (cOp powD (cC (.int 10)) (cC (.int 18)))) (cC (.int 1))) (cOp mulD (cVar 6) (cVar 6)))) t_law_big_5_1)) (dRet (cVar 5))))
def t_law_big : TS3 := (dSeq (dSet 2 (cTup (cCons (cC (.int 48271)) (cCons (cC (.int 69621)) (cCons (cC (.int 16807)) (cCons (cC (.int 39373)) (cCons (cC (.int 21401)) (cCons (cC (.int 60493)) (cCons (cC (.int 87721)) (cCons (cC (.int 31337)) cNil)))))))))) (dSeq (dSet 3 (cTup (cCons (cC (.int 99991)) (cCons (cC (.int 99989)) (cCons (cC (.int 99971)) (cCons (cC (.int 99961)) (cCons (cC (.int 99929)) (cCons (cC (.int 99923)) (cCons (cC (.int 99907)) (cCons (cC (.int 99901)) cNil)))))))))) (dSeq (dSet 4 (cCall f_law_cell_at (cCons (cVar 0) (cCons (cVar 1) cNil)))) (dSeq (dIf (cTest (cOp geD (cVar 4) (cOp powD (cC (.int 10)) (cC (.int 18))))) (dRet (cVar 4)) dNext) t_law_big_4))))
theorem len_law_big : ∀ ds Q, f_law_big ds Q → ds.length = 2 := lenF2
theorem ob_law_big : ∀ ds (Q : D → Prop), f_law_big ds Q → t_law_big { nx := fun _ => Q .non, rt := Q } (start3 ["_law_script", "_law_at", "_law_by", "_law_prime", "_law_cell", "_law_big_here", "_law_k", "_law_one"] ds) := by
  rintro ds Q ⟨x, y, rfl, ns, k, rfl, rfl, k0, k1, h⟩
  simp_arith only [t_law_big, f_law_cell_at, F2_eq, pCell]
  refine ⟨ns, k, rfl, rfl, k0, powL _ _ (by decide), ?_⟩
  by_cases c : 1000000000000000000 ≤ cellZ ns k
  · rw [if_pos c]; exact h _
  · rw [if_neg c]
    simp_arith only [t_law_big_4]
    refine turns_of (fun _ e => ∃ (b : Int) (k6 k7 : Option Lo), e = [some (.d (.lst (ns.map D.int))), some (.d (.int k)), some (.d (.tup ([48271, 69621, 16807, 39373, 21401, 60493, 87721, 31337].map D.int))), some (.d (.tup ([99991, 99989, 99971, 99961, 99929, 99923, 99907, 99901].map D.int))), some (.d (.int (cellZ ns k))), some (.d (.int b)), k6, k7]) ?_ ?_ ⟨0, none, none, rfl⟩
    · rintro i x env N hx ⟨b, k6, k7, rfl⟩ hN
      have hi : i < 60 := by
        have := (List.getElem?_eq_some_iff.mp hx).1
        simpa [intsD] using this
      have hxe : x = .int (i : Int) := by
        unfold intsD at hx
        rw [List.getElem?_map, List.getElem?_range (by omega)] at hx
        cases hx; simp
      subst hxe
      have f9 := fmod_range (a := (i : Int)) (b := 9) (by decide)
      have f8 := fmod_range (a := (i : Int)) (b := 8) (by decide)
      simp only [cVar, cOp, cC, cCall, cCons, cNil, dSeq, dSet, kName, List.set_cons_zero, List.set_cons_succ, List.getElem?_cons_zero, List.getElem?_cons_succ, Option.some.injEq, Lo.d.injEq, exists_eq_left', ii_eq, addD_ii, F2_eq, pCell, f_law_cell_at, t_law_big_5_1]
      refine ⟨modL _ (by decide), ns, _, rfl, rfl, by omega, powL _ _ (by decide), modL _ (by decide), mul_ok_l (by omega) (by omega), mul_ok_r (by decide) (by decide), modL _ (by decide), ?_⟩
      refine ix8 rfl (fun x => -(2 ^ 64) < x ∧ x < 2 ^ 64) (by decide) f8.1 f8.2 fun y hy => ?_
      refine ⟨mul_ok_r hy.1 hy.2, modL _ (by decide), ?_⟩
      refine ix8 rfl (fun x => x ≠ 0) (by decide) f8.1 f8.2 fun z hz => ?_
      exact ⟨modL _ hz, modL _ (by decide), hN _ ⟨_, _, _, rfl⟩⟩
    · rintro env ⟨b, k6, k7, rfl⟩
      simp_arith only [and_true]
      exact h b
def f_law_gaps : Fw := F1 fun x Q => ∃ fs : List Z2, x = .tup (fs.map frD) ∧ 0 < fs.length ∧ fs.length ≤ 22 ∧ Q (.lst (gpD fs))
def t_law_gaps : TS3 := (dRet (cFresh (cCompR rng1 [0] (cCons (cCall lenF (cCons (cVar 0) cNil)) cNil) cTrue (cTup (cCons (cOp ixD (cVar 1) (cVar 0)) (cCons (cOp ixD (cVar 1) (cOp modD (cOp addD (cVar 0) (cC (.int 1))) (cCall lenF (cCons (cVar 1) cNil)))) cNil))))))
theorem len_law_gaps : ∀ ds Q, f_law_gaps ds Q → ds.length = 1 := lenF1
theorem ob_law_gaps : ∀ ds (Q : D → Prop), f_law_gaps ds Q → t_law_gaps { nx := fun _ => Q .non, rt := Q } (start3 ["_law_fractions_here"] ds) := by
  rintro ds Q ⟨x, rfl, fs, rfl, h0, h22, h⟩
  simp_arith only [t_law_gaps, List.length_map]
  refine ⟨by omega, by omega, ?_⟩
  refine comps_map (fun x => match x with | .int i => plD (.edge (gapE fs i.toNat)) | _ => .non) _ _ (fun x hx N hN => ?_) (by simp [intsD, PySem.sizeLine_eq]; omega) ?_
  · obtain ⟨i, hi, rfl⟩ : ∃ i : Nat, i < fs.length ∧ x = .int (i : Int) := by
      unfold intsD at hx
      obtain ⟨i, hi, rfl⟩ := List.mem_map.mp hx
      exact ⟨i, by simpa using hi, by simp⟩
    simp_arith only [capE, List.length_map]
    have hm : (i + 1) % fs.length < fs.length := Nat.mod_lt _ (by omega)
    have e2 : ((i : Int) + 1).fmod (fs.length : Int) = (((i + 1) % fs.length : Nat) : Int) := by
      rw [Int.fmod_eq_emod_of_nonneg _ (by omega), Int.natCast_emod, show (((i + 1 : Nat)) : Int) = (i : Int) + 1 by omega]
    refine ix_map (get_D hi) ⟨by show (fs.length : Int) ≠ 0; omega, ?_⟩
    rw [e2]
    refine ix_map (get_D hm) ?_
    rw [nx_mod hi]
    exact hN
  · have eg : [] ++ (intsD 0 (fs.length : Int).toNat).map (fun x => match x with | .int i => plD (.edge (gapE fs i.toNat)) | _ => .non) = gpD fs := by
      unfold gpD intsD
      simp
    rw [eg]
    exact h
def f_law_links : Fw := F1 pLinks
def t_law_links_7 : TS3 := (dSeq (dSet 11 (cTup (cCons (cTup (cCons (cC (.int 1)) (cCons (cC (.int 0)) cNil))) (cCons (cTup (cCons (cC (.int 0)) (cCons (cC (.int 1)) cNil))) cNil)))) (dSeq (dFreezeN 4 (dIf (cTest (cOp eqF (cCall lenF (cCons (cVar 1) cNil)) (cC (.int 2)))) (dSeq (dSet 11 (cOp ixD (cLst (cCons (cC (.int 1)) (cCons (cC (.int 0)) cNil))) (cCall intF (cCons (cOp neF (cOp ixD (cVar 2) (cC (.int 1))) (cC (.str "third"))) cNil)))) (dFor (cLst (cCons (cC (.int 0)) (cCons (cC (.int 1)) cNil))) (kName 9) (dIf (cTest (cOp eqF (cOp ixD (cVar 2) (cVar 9)) (cC (.str "third")))) (dDicPut 8 (cVar 9) (cOp ixD (cLst (cCons (cVar 9) (cCons (cOp subD (cC (.int 1)) (cVar 9)) cNil))) (cCall intF (cCons (cOp eqF (cOp ixD (cVar 2) (cOp subD (cC (.int 1)) (cVar 9))) (cC (.str "third"))) cNil)))) dNext))) (dIf (cTest (cOp (inN true) (cVar 11) (cVar 4))) (dSet 11 (cDicGet 8 (cOp ixD (cVar 3) (cUn negD (cC (.int 1)))))) dNext))) (dFreezeN 8 (dRet (cTup (cCons (cVar 8) (cCons (cVar 4) (cCons (cVar 11) cNil))))))))
def t_law_links_6 : TS3 := (dSeq (dForE (cCons (cVar 2) cNil) (kTup 2 (kCons (kName 9) (kCons (kName 10) kNil))) (dIf (cTest (cOp eqF (cVar 10) (cC (.str "third")))) (dSeq (dDicPut 4 (cVar 9) (cVar 9)) (dSeq (dDicPut 8 (cVar 9) (cOp ixD (cVar 3) (cVar 9))) (dDicPut 8 (cOp ixD (cVar 3) (cVar 9)) (cVar 9)))) (dIf (cTest (cOp eqF (cVar 10) (cC (.str "half")))) (dDicPut 8 (cOp ixD (cVar 3) (cVar 9)) (cOp ixD (cVar 3) (cVar 9))) (dDicPut 8 (cOp ixD (cVar 3) (cVar 9)) (cOp ixD (cVar 3) (cVar 10)))))) t_law_links_7)
def t_law_links_4 : TS3 := (dSeq (dDicNew 8) (dSeq (dForDic 4 (kTup 2 (kCons (kName 5) (kCons (kName 7) kNil))) (dDicPut 8 (cTup (cCons (cVar 5) (cCons (cVar 7) cNil))) (cTup (cCons (cVar 7) (cCons (cVar 5) cNil))))) t_law_links_6))
def t_law_links : TS3 := (dSeq (dAsg (cVar 0) (kTup 2 (kCons (kName 1) (kCons (kName 2) kNil)))) (dSeq (dSet 3 (cCall f_law_gaps (cCons (cVar 1) cNil))) (dSeq (dDicNew 4) (dSeq (dFor (cCall f_law_tiles (cCons (cVar 1) cNil)) (kTup 3 (kCons (kName 5) (kCons (kName 6) (kCons (kName 7) kNil)))) (dSeq (dDicPut 4 (cTup (cCons (cVar 5) (cCons (cVar 6) cNil))) (cTup (cCons (cVar 6) (cCons (cVar 7) cNil)))) (dSeq (dDicPut 4 (cTup (cCons (cVar 6) (cCons (cVar 7) cNil))) (cTup (cCons (cVar 7) (cCons (cVar 5) cNil)))) (dDicPut 4 (cTup (cCons (cVar 7) (cCons (cVar 5) cNil))) (cTup (cCons (cVar 5) (cCons (cVar 6) cNil))))))) t_law_links_4))))
theorem len_law_links : ∀ ds Q, f_law_links ds Q → ds.length = 1 := lenF1
theorem ob_law_links : ∀ ds (Q : D → Prop), f_law_links ds Q → t_law_links { nx := fun _ => Q .non, rt := Q } (start3 ["_law_fan_here", "_law_fractions_here", "_law_marks_here", "_law_gaps_here", "_law_thirds", "_law_one", "_law_mid", "_law_other", "_law_halves", "_law_i", "_law_mark", "_law_first"] ds) := by
  rintro ds Q ⟨x, rfl, fs, ms, rfl, hf, h⟩
  have two := hf.fr.two
  have most := hf.fr.most
  have rest4 := links_rest hf h
  simp_arith only [t_law_links, fanD, f_law_gaps, f_law_tiles, F1_eq, pTiles, dDicNew]
  refine ⟨fs, rfl, by omega, by omega, fs, rfl, hf.fr, fun ts htl hlen => ?_⟩
  have ok := tiles_ok htl hf.fr
  refine turns_of (fun i e => ∃ (tk : List (D × D)) (th : Pla → Option Pla) (k5 k6 k7 : Option Lo), e = [some (.d (fanD fs ms)), some (.d (.tup (fs.map frD))), some (.d (.tup (ms.map mkD))), some (.d (.lst (gpD fs))), some (.dic tk), k5, k6, k7, none, none, none, none] ∧ DicF tk th ∧ ThOk (ts.take i) th ∧ tk.length ≤ 3 * i) ?_ ?_ ⟨[], _, none, none, none, rfl, DicF.nil, by simpa using ThOk.nil, by simp⟩
  · rintro i x env N hx ⟨tk, th, k5, k6, k7, rfl, hd, ht, hl⟩ hN
    have hi : i < ts.length := by have := (List.getElem?_eq_some_iff.mp hx).1; simpa using this
    obtain ⟨t, hti⟩ : ∃ t, ts[i]? = some t := ⟨ts[i], List.getElem?_eq_getElem hi⟩
    rw [List.getElem?_map, hti] at hx
    cases hx
    have tke : ts.take (i + 1) = ts.take i ++ [t] := by rw [List.take_succ, hti]; rfl
    have nd : (edg (ts.take i ++ [t])).Nodup := by
      rw [← tke]
      have q := ok.dif
      rw [← List.take_append_drop (i + 1) ts] at q
      unfold edg at q ⊢
      rw [List.flatMap_append, List.nodup_append] at q
      exact q.1
    have d1 := hd.put (.edge (t.1, t.2.1)) (.edge (t.2.1, t.2.2))
    have d2 := d1.put (.edge (t.2.1, t.2.2)) (.edge (t.2.2, t.1))
    have d3 := d2.put (.edge (t.2.2, t.1)) (.edge (t.1, t.2.1))
    have l1 := putN_len (kvs := tk) (k := plD (.edge (t.1, t.2.1))) (v := plD (.edge (t.2.1, t.2.2)))
    have l2 := putN_len (kvs := putN tk (plD (.edge (t.1, t.2.1))) (plD (.edge (t.2.1, t.2.2)))) (k := plD (.edge (t.2.1, t.2.2))) (v := plD (.edge (t.2.2, t.1)))
    have l3 := putN_len (kvs := putN (putN tk (plD (.edge (t.1, t.2.1))) (plD (.edge (t.2.1, t.2.2)))) (plD (.edge (t.2.1, t.2.2))) (plD (.edge (t.2.2, t.1)))) (k := plD (.edge (t.2.2, t.1))) (v := plD (.edge (t.1, t.2.1)))
    have sz := PySem.sizeLine_eq
    have k1 := plD_key (.edge (t.1, t.2.1))
    have k2 := plD_key (.edge (t.2.1, t.2.2))
    have k3 := plD_key (.edge (t.2.2, t.1))
    simp only [plD] at l1 l2 l3
    simp_arith only [tlD, dDicPut, Lo.dic.injEq]
    refine ⟨k1.1, k1.2, hd.ok, by omega, k2.1, k2.2, d1.ok, by omega, k3.1, k3.2, d2.ok, by omega, ?_⟩
    exact hN _ ⟨_, _, _, _, _, rfl, d3, by rw [tke]; exact ht.snoc nd, by omega⟩
  · rintro env ⟨tk, th, k5, k6, k7, rfl, hd, ht, hl⟩
    rw [List.length_map, List.take_length] at ht
    rw [List.length_map] at hl
    exact rest4 ts tk th k5 k6 k7 htl hlen hd ht hl
end KR
set_option Elab.async false
set_option linter.all false
set_option maxRecDepth 100000
set_option maxHeartbeats 8000000
namespace KR
open PySem L2 L2.L3 K55
section
variable {β : Type} [DecidableEq β]
def addM (met : List β) (q : β) : List β := if q ∈ met then met else met ++ [q]
def bfs (ha th : β → β) : Nat → Nat → List β → List β
  | 0, _, met => met
  | n + 1, at_, met => match met[at_]? with
    | none => met
    | some p => bfs ha th n (at_ + 1) (addM (addM met (ha p)) (th p))
def newT (met : List β) (g : β → β) : List Nat := met.map fun p => met.idxOf (g p)
structure Code (c : β → D) : Prop where
  eq : ∀ p q, eqD (c p) (c q) = decide (p = q)
  dp : ∀ p, dep (c p) ≤ 8
def Look (x : D) (g : β → β) (c : β → D) (P : β → Prop) : Prop := ∀ p, P p → ∀ Q : D → Prop, Q (c (g p)) → dgX x (c p) Q
structure Sy (ha th : β → β) (f : β) (P : β → Prop) (all : List β) : Prop where
  f0 : P f
  cl : ∀ p, P p → P (ha p) ∧ P (th p)
  al : ∀ p, P p → p ∈ all
  few : all.length ≤ 500
structure Me (P : β → Prop) (met : List β) : Prop where
  nd : met.Nodup
  inn : ∀ p ∈ met, P p
theorem Me.add {P : β → Prop} {met : List β} (m : Me P met) {q : β} (hq : P q) : Me P (addM met q) := by
  unfold addM
  by_cases c : q ∈ met
  · rw [if_pos c]; exact m
  · rw [if_neg c]
    refine ⟨List.nodup_append.mpr ⟨m.nd, by simp, fun a ha b hb e => c (by rw [List.mem_singleton] at hb; rw [← hb, ← e]; exact ha)⟩, fun p hp => ?_⟩
    rcases List.mem_append.mp hp with z | z
    · exact m.inn p z
    · rw [List.mem_singleton] at z; rw [z]; exact hq
theorem addM_at {met : List β} {q p : β} {i : Nat} (h : met[i]? = some p) : (addM met q)[i]? = some p := by
  unfold addM
  by_cases c : q ∈ met
  · rw [if_pos c]; exact h
  · rw [if_neg c, List.getElem?_append_left (List.getElem?_eq_some_iff.mp h).1]; exact h
theorem addM_mem {met : List β} {q : β} : q ∈ addM met q := by
  unfold addM
  by_cases c : q ∈ met
  · rw [if_pos c]; exact c
  · rw [if_neg c]; simp
theorem addM_sub {met : List β} {q p : β} (h : p ∈ met) : p ∈ addM met q := by
  unfold addM
  by_cases c : q ∈ met
  · rw [if_pos c]; exact h
  · rw [if_neg c]; exact List.mem_append.mpr (.inl h)
theorem Me.len {ha th : β → β} {f : β} {P : β → Prop} {all met : List β} (s : Sy ha th f P all) (m : Me P met) : met.length ≤ all.length := nodup_le met all m.nd fun p hp => s.al p (m.inn p hp)
theorem any_c {c : β → D} (k : Code c) (met : List β) (q : β) : ((met.map c).any fun e => eqD e (c q)) = decide (q ∈ met) := by
  rw [Bool.eq_iff_iff, List.any_eq_true, decide_eq_true_eq]
  constructor
  · rintro ⟨e, h1, h2⟩
    obtain ⟨z, hz, rfl⟩ := List.mem_map.mp h1
    rw [k.eq, decide_eq_true_eq] at h2
    exact h2 ▸ hz
  · exact fun h => ⟨_, List.mem_map.mpr ⟨q, h, rfl⟩, by rw [k.eq]; simp⟩
theorem depL_c {c : β → D} (k : Code c) : ∀ met : List β, depL (met.map c) ≤ 8
  | [] => by simp [depL]
  | a :: l => by
    have := depL_c k l
    have := k.dp a
    simp only [List.map_cons, depL]
    omega
theorem idx_atB {met : List β} {q : β} (h : q ∈ met) : met[met.idxOf q]? = some q := by
  rw [List.getElem?_eq_getElem (List.idxOf_lt_length_iff.mpr h), List.getElem_idxOf]
theorem comp_ix {met : List β} {x : D} {g : β → β} {c : β → D} {P : β → Prop} (k : Code c) (lk : Look x g c P) (m : Me P met) (cl : ∀ p ∈ met, g p ∈ met) (hl : met.length ≤ 500) {Q : List D → Prop} (h : Q (natsD (newT met g))) :
    comps cTrue (cIndex (cVar 2) (cOp dgX (cVar 1) (cVar 0))) [none, some (.d x), some (.d (.lst (met.map c)))] Q (met.map c) [] := by
  refine comps_rel (fun x y => ∀ p, x = c p → p ∈ met → y = .int ((met.idxOf (g p) : Nat) : Int)) _ _ (fun x' hx N hN => ?_) (by simp [PySem.sizeLine_eq]; omega) (fun ys hy hR => ?_)
  · obtain ⟨p, hp, rfl⟩ := List.mem_map.mp hx
    have mq := cl p hp
    have dl := depL_c k met
    have kq := k.dp (g p)
    have at_ : ∀ j, (((met.map c)[j]?).map fun d => eqD d (c (g p))) = (met[j]?).map fun z => decide (z = g p) := fun j => by
      rw [List.getElem?_map, Option.map_map]
      congr 1
      funext z
      exact k.eq z (g p)
    simp_arith only [cIndex]
    refine ⟨by omega, lk p (m.inn p hp) _ ⟨by omega, met.idxOf (g p), ?_, fun j hj => ?_, hN _ fun p' ep mp => ?_⟩⟩
    · rw [at_, idx_atB mq]; simp
    · have hkl : j < met.length := Nat.lt_trans hj (List.idxOf_lt_length_iff.mpr mq)
      rw [at_, List.getElem?_eq_getElem hkl]
      simp only [Option.map_some, Option.some.injEq, decide_eq_false_iff_not]
      intro z
      have := (List.getElem?_inj hkl m.nd).mp (show met[j]? = met[met.idxOf (g p)]? by rw [idx_atB mq, List.getElem?_eq_getElem hkl, z])
      omega
    · have e := k.eq p p'
      rw [← ep, k.eq] at e
      have : p = p' := by simpa using e
      subst this
      rfl
  · have : [] ++ ys = natsD (newT met g) := by
      rw [List.nil_append]
      unfold natsD newT
      rw [List.map_map]
      apply List.ext_getElem?
      intro i
      rw [List.length_map] at hy
      rw [List.getElem?_map]
      by_cases cc : i < met.length
      · have h1 : ys[i]? = some (ys[i]'(by omega)) := List.getElem?_eq_getElem _
        have h2 : met[i]? = some met[i] := List.getElem?_eq_getElem cc
        rw [h1, h2]
        have := hR i (c met[i]) _ (by rw [List.getElem?_map, h2]; rfl) h1 met[i] rfl (List.getElem_mem cc)
        rw [this]; rfl
      · rw [List.getElem?_eq_none (by omega), List.getElem?_eq_none (by omega)]; rfl
    rw [this]; exact h
end
def metF {β : Type} [DecidableEq β] (ha th : β → β) (f : β) (n : Nat) : List β := bfs ha th (n + 1) 0 [f]
def pAnew (x y z : D) (Q : D → Prop) : Prop := ∃ (β : Type) (_ : DecidableEq β) (c : β → D) (ha th : β → β) (f : β) (P : β → Prop) (all : List β), Code c ∧ Look x ha c P ∧ Look y th c P ∧ z = c f ∧ Sy ha th f P all ∧
  Q (.tup [.tup (natsD (newT (metF ha th f all.length) ha)), .tup (natsD (newT (metF ha th f all.length) th))])
def f_law_anew : Fw := F3 pAnew
def t_law_anew_2_1 : TS3 := (dSet 4 (cOp addD (cVar 4) (cC (.int 1))))
def t_law_anew_3 : TS3 := (dFreeze 3 (dRet (cTup (cCons (cCall tupleF (cCons (cFresh (cComp [0, 3] (cVar 3) cTrue (cIndex (cVar 2) (cOp dgX (cVar 1) (cVar 0))))) cNil)) (cCons (cCall tupleF (cCons (cFresh (cComp [1, 3] (cVar 3) cTrue (cIndex (cVar 2) (cOp dgX (cVar 1) (cVar 0))))) cNil)) cNil)))))
def t_law_anew : TS3 := (dSeq (dSetOwn 3 (cFew (cCons (cVar 2) cNil))) (dSeq (dSet 4 (cC (.int 0))) (dSeq (dWhile (cTest (cOp ltD (cVar 4) (cLenOwn 3))) (dSeq (dFor (cLst (cCons (cOp dgX (cVar 0) (cIxOwn 3 (cVar 4))) (cCons (cOp dgX (cVar 1) (cIxOwn 3 (cVar 4))) cNil))) (kName 5) (dIf (cInOwn true 3 (cVar 5)) (dAppend 3 (cVar 5)) dNext)) t_law_anew_2_1)) t_law_anew_3)))
theorem len_law_anew : ∀ ds Q, f_law_anew ds Q → ds.length = 3 := lenF3
theorem ob_law_anew : ∀ ds (Q : D → Prop), f_law_anew ds Q → t_law_anew { nx := fun _ => Q .non, rt := Q } (start3 ["_law_halves", "_law_thirds", "_law_first", "_law_met", "_law_at", "_law_behind"] ds) := by
  rintro ds Q ⟨x, y, z, rfl, β, inst, c, ha, th, f, P, all, k, lx, ly, rfl, sy, h⟩
  have sz := PySem.sizeLine_eq
  have few := sy.few
  simp_arith only [t_law_anew, dWhile]
  refine ⟨fun e => ∃ (met : List β) (at_ : Nat) (k5 : Option Lo), e = [some (.d x), some (.d y), some (.d (c f)), some (.own (met.map c)), some (.d (.int at_)), k5] ∧ Me P met ∧ at_ ≤ met.length ∧ (∀ i p, i < at_ → met[i]? = some p → ha p ∈ met ∧ th p ∈ met) ∧ bfs ha th (all.length + 1 - at_) at_ met = metF ha th f all.length,
    fun e => match e with | [_, _, _, _, some (.d (.int j)), _] => all.length - j.toNat | _ => 0, ⟨[f], 0, none, rfl, ⟨by simp, fun p hp => by rw [List.mem_singleton] at hp; rw [hp]; exact sy.f0⟩, Nat.zero_le _, fun i p hi => absurd hi (Nat.not_lt_zero _), rfl⟩, ?_⟩
  rintro env ⟨met, at_, k5, rfl, m, mle, cl, hb⟩
  have ml := m.len sy
  simp_arith only [List.length_map]
  by_cases cc : at_ < met.length
  · rw [if_pos (by omega)]
    obtain ⟨p, hp⟩ : ∃ p, met[at_]? = some p := ⟨met[at_], List.getElem?_eq_getElem cc⟩
    have ip := m.inn p (List.mem_of_getElem? hp)
    obtain ⟨i1, i2⟩ := sy.cl p ip
    have ai : atI (met.map c) (at_ : Int) = some (c p) := atI_map _ _ _ _ hp
    refine ⟨_, _, rfl, ai, lx p ip _ ⟨_, _, rfl, ai, ly p ip _ ?_⟩⟩
    show turns _ _ _ [c (ha p), c (th p)] _
    have m1 := m.add i1
    have m2 := m1.add i2
    let mm : Nat → List β := fun i => match i with
      | 0 => met
      | 1 => addM met (ha p)
      | _ => addM (addM met (ha p)) (th p)
    have hmm : ∀ i, Me P (mm i) := fun i => match i with
      | 0 => m
      | 1 => m1
      | _ + 2 => m2
    refine turns_of (fun i e => i ≤ 2 ∧ ∃ k5, e = [some (.d x), some (.d y), some (.d (c f)), some (.own ((mm i).map c)), some (.d (.int at_)), k5]) ?_ ?_ ⟨by omega, k5, rfl⟩
    · rintro i x' env N hx ⟨hi2, k5, rfl⟩ hN
      obtain ⟨q, rfl, eq⟩ : ∃ q, x' = c q ∧ mm (i + 1) = addM (mm i) q := by
        match i, hx with
        | 0, hx => cases hx; exact ⟨_, rfl, rfl⟩
        | 1, hx => cases hx; exact ⟨_, rfl, rfl⟩
      have hi : i < 2 := by have := (List.getElem?_eq_some_iff.mp hx).1; simpa using this
      have ml' := (hmm i).len sy
      have kq := k.dp q
      have dl := depL_c k (mm i)
      simp_arith only [cInOwn, List.length_map]
      refine ⟨by omega, by omega, ?_⟩
      rw [any_c k]
      unfold addM at eq
      by_cases c2 : q ∈ mm i
      · rw [if_pos c2] at eq
        rw [decide_eq_true c2]
        refine hN _ ⟨by omega, some (.d (c q)), ?_⟩
        rw [eq]
      · rw [if_neg c2] at eq
        rw [decide_eq_false c2]
        refine ⟨by omega, hN _ ⟨by omega, some (.d (c q)), ?_⟩⟩
        rw [eq, List.map_append]; rfl
    · rintro env ⟨_, k5, rfl⟩
      simp_arith only [t_law_anew_2_1]
      refine ⟨⟨addM (addM met (ha p)) (th p), at_ + 1, k5, rfl, by omega, rfl, m2, ?_, fun i q hi hq => ?_, ?_⟩, by omega⟩
      · have := (List.getElem?_eq_some_iff.mp (addM_at (q := th p) (addM_at (q := ha p) hp))).1
        omega
      · by_cases e : i = at_
        · subst e
          rw [addM_at (addM_at hp)] at hq
          cases hq
          exact ⟨addM_sub addM_mem, addM_mem⟩
        · have hi' : i < met.length := by omega
          have o : met[i]? = some met[i] := List.getElem?_eq_getElem hi'
          rw [addM_at (addM_at o)] at hq
          cases hq
          obtain ⟨a1, a2⟩ := cl i _ (by omega) o
          exact ⟨addM_sub (addM_sub a1), addM_sub (addM_sub a2)⟩
      · rw [← hb, show all.length + 1 - at_ = (all.length - at_) + 1 by omega, bfs, hp]
        rw [show all.length + 1 - (at_ + 1) = all.length - at_ by omega]
  · rw [if_neg (by omega)]
    have ea : at_ = met.length := by omega
    subst ea
    have eM : metF ha th f all.length = met := by
      rw [← hb, show all.length + 1 - met.length = (all.length - met.length) + 1 by omega, bfs, List.getElem?_eq_none (Nat.le_refl _)]
    rw [eM] at h
    simp_arith only [t_law_anew_3, capE]
    refine comp_ix k lx m (fun p hp => ?_) (by omega) (comp_ix k ly m (fun p hp => ?_) (by omega) h)
    · obtain ⟨i, hi⟩ := List.getElem?_of_mem hp
      exact (cl i p (List.getElem?_eq_some_iff.mp hi).1 hi).1
    · obtain ⟨i, hi⟩ := List.getElem?_of_mem hp
      exact (cl i p (List.getElem?_eq_some_iff.mp hi).1 hi).2
end KR
set_option Elab.async false
set_option linter.all false
set_option maxRecDepth 100000
set_option maxHeartbeats 8000000
namespace KR
open PySem L2 L2.L3 K55
section
variable {β : Type} [DecidableEq β] {ha th : β → β} {f : β} {P : β → Prop} {all : List β}
structure Full (ha th : β → β) (f : β) (P : β → Prop) (met : List β) : Prop where
  me : Me P met
  cl : ∀ p ∈ met, ha p ∈ met ∧ th p ∈ met
  head : met[0]? = some f
  num : ∀ j q, 0 < j → met[j]? = some q → ∃ i p, i < j ∧ met[i]? = some p ∧ (ha p = q ∨ th p = q)
structure Part (ha th : β → β) (f : β) (P : β → Prop) (met : List β) (at_ : Nat) : Prop where
  me : Me P met
  le : at_ ≤ met.length
  cl : ∀ i p, i < at_ → met[i]? = some p → ha p ∈ met ∧ th p ∈ met
  head : met[0]? = some f
  num : ∀ j q, 0 < j → met[j]? = some q → ∃ i p, i < j ∧ i ≤ at_ ∧ met[i]? = some p ∧ (ha p = q ∨ th p = q)
theorem Part.add {met : List β} {at_ : Nat} (m : Part ha th f P met at_) {p q : β} (hp : met[at_]? = some p) (hq : P q) (e : ha p = q ∨ th p = q) : Part ha th f P (addM met q) at_ := by
  have hl := (List.getElem?_eq_some_iff.mp hp).1
  refine ⟨m.me.add hq, ?_, fun i x hi hx => ?_, addM_at m.head, fun j x hj hx => ?_⟩
  · have := (List.getElem?_eq_some_iff.mp (addM_at (q := q) hp)).1; omega
  · have o : met[i]? = some (met[i]'(by omega)) := List.getElem?_eq_getElem _
    rw [addM_at o] at hx
    cases hx
    obtain ⟨a, b⟩ := m.cl i _ hi o
    exact ⟨addM_sub a, addM_sub b⟩
  · by_cases c : j < met.length
    · have o : met[j]? = some met[j] := List.getElem?_eq_getElem c
      rw [addM_at o] at hx
      cases hx
      obtain ⟨i, y, h1, h2, h3, h4⟩ := m.num j _ hj o
      exact ⟨i, y, h1, h2, addM_at h3, h4⟩
    · have hx' := hx
      unfold addM at hx
      by_cases cq : q ∈ met
      · rw [if_pos cq, List.getElem?_eq_none (by omega)] at hx; cases hx
      · rw [if_neg cq, List.getElem?_append_right (by omega)] at hx
        have hj0 : j - met.length = 0 := by
          have := (List.getElem?_eq_some_iff.mp hx).1
          simpa using this
        rw [hj0] at hx
        have : q = x := by simpa using hx
        subst this
        exact ⟨at_, p, by omega, Nat.le_refl _, addM_at hp, e⟩
theorem part_bfs (sy : Sy ha th f P all) : ∀ n at_ met, Part ha th f P met at_ → n + at_ = all.length + 1 → Full ha th f P (bfs ha th n at_ met)
  | 0, at_, met, m, e => by
    have := m.me.len sy
    have := m.le
    omega
  | n + 1, at_, met, m, e => by
    rw [bfs]
    cases hp : met[at_]? with
    | none =>
      have := m.le
      have ea : at_ = met.length := by
        have := List.getElem?_eq_none_iff.mp hp; omega
      refine ⟨m.me, fun p hp => ?_, m.head, fun j q hj hq => ?_⟩
      · obtain ⟨i, hi⟩ := List.getElem?_of_mem hp
        exact m.cl i p (by rw [ea]; exact (List.getElem?_eq_some_iff.mp hi).1) hi
      · obtain ⟨i, p, h1, _, h3, h4⟩ := m.num j q hj hq
        exact ⟨i, p, h1, h3, h4⟩
    | some p =>
      have ip := m.me.inn p (List.mem_of_getElem? hp)
      obtain ⟨c1, c2⟩ := sy.cl p ip
      have m1 := m.add hp c1 (.inl rfl)
      have hp1 := addM_at (q := ha p) hp
      have m2 := m1.add hp1 c2 (.inr rfl)
      have hp2 := addM_at (q := th p) hp1
      refine part_bfs sy n (at_ + 1) _ ⟨m2.me, ?_, fun i x hi hx => ?_, m2.head, fun j q hj hq => ?_⟩ (by omega)
      · have := (List.getElem?_eq_some_iff.mp hp2).1; omega
      · by_cases e : i = at_
        · subst e
          rw [hp2] at hx
          cases hx
          exact ⟨addM_sub addM_mem, addM_mem⟩
        · exact m2.cl i x (by omega) hx
      · obtain ⟨i, y, h1, h2, h3, h4⟩ := m2.num j q hj hq
        exact ⟨i, y, h1, by omega, h3, h4⟩
theorem full_met (sy : Sy ha th f P all) : Full ha th f P (metF ha th f all.length) := by
  refine part_bfs sy (all.length + 1) 0 [f] ⟨⟨by simp, fun p hp => by rw [List.mem_singleton] at hp; rw [hp]; exact sy.f0⟩, Nat.zero_le _, fun i p hi => absurd hi (Nat.not_lt_zero _), rfl, fun j q hj hq => ?_⟩ rfl
  have := (List.getElem?_eq_some_iff.mp hq).1
  simp at this
  omega
end
structure Tbl (a b : List Nat) : Prop where
  ok : TabOk a b
  pos : 0 < a.length
  num : ∀ j, 0 < j → j < a.length → ∃ i, i < j ∧ (a[i]? = some j ∨ b[i]? = some j)
theorem newT_at {β : Type} [DecidableEq β] {met : List β} {g : β → β} {i : Nat} {p : β} (h : met[i]? = some p) : (newT met g)[i]? = some (met.idxOf (g p)) := by
  unfold newT; rw [List.getElem?_map, h]; rfl
theorem idx_selfB {β : Type} [DecidableEq β] {met : List β} (nd : met.Nodup) {i : Nat} {p : β} (h : met[i]? = some p) : met.idxOf p = i := by
  have h2 := idx_atB (List.mem_of_getElem? h)
  exact (List.getElem?_inj (List.getElem?_eq_some_iff.mp h2).1 nd).mp (h2.trans h.symm)
theorem Full.tbl {β : Type} [DecidableEq β] {ha th : β → β} {f : β} {P : β → Prop} {met : List β} (m : Full ha th f P met) (hh : ∀ p, P p → ha (ha p) = p) (t3 : ∀ p, P p → th (th (th p)) = p) : Tbl (newT met ha) (newT met th) := by
  have l1 : ∀ g : β → β, (newT met g).length = met.length := fun g => by unfold newT; rw [List.length_map]
  have inv : ∀ (g : β → β) (i x : Nat), (newT met g)[i]? = some x → ∃ p, met[i]? = some p ∧ x = met.idxOf (g p) := fun g i x h => by
    unfold newT at h
    rw [List.getElem?_map] at h
    obtain ⟨p, hp, e⟩ := Option.map_eq_some_iff.mp h
    exact ⟨p, hp, e.symm⟩
  have nd := m.me.nd
  refine ⟨⟨by rw [l1, l1], fun i x h => ?_, fun i x h => ?_, fun i x h => ?_, fun i x y h1 h2 => ?_⟩, ?_, fun j hj hl => ?_⟩
  · obtain ⟨p, hp, rfl⟩ := inv _ _ _ h
    rw [l1]; exact List.idxOf_lt_length_iff.mpr (m.cl p (List.mem_of_getElem? hp)).1
  · obtain ⟨p, hp, rfl⟩ := inv _ _ _ h
    rw [l1]; exact List.idxOf_lt_length_iff.mpr (m.cl p (List.mem_of_getElem? hp)).2
  · obtain ⟨p, hp, rfl⟩ := inv _ _ _ h
    have pm := List.mem_of_getElem? hp
    rw [newT_at (idx_atB (m.cl p pm).1), hh p (m.me.inn p pm), idx_selfB nd hp]
  · obtain ⟨p, hp, rfl⟩ := inv _ _ _ h1
    have pm := List.mem_of_getElem? hp
    have q1 := (m.cl p pm).2
    rw [newT_at (idx_atB q1)] at h2
    cases h2
    rw [newT_at (idx_atB (m.cl _ q1).2), t3 p (m.me.inn p pm), idx_selfB nd hp]
  · rw [l1]
    exact List.length_pos_of_mem (List.mem_of_getElem? m.head)
  · rw [l1] at hl
    obtain ⟨i, p, h1, h2, h3⟩ := m.num j met[j] hj (List.getElem?_eq_getElem hl)
    refine ⟨i, h1, ?_⟩
    have ij : met.idxOf met[j] = j := idx_selfB nd (List.getElem?_eq_getElem hl)
    rcases h3 with e | e
    · left; rw [newT_at h2, e, ij]
    · right; rw [newT_at h2, e, ij]
end KR
set_option Elab.async false
set_option linter.all false
set_option maxRecDepth 100000
set_option maxHeartbeats 8000000
namespace KR
open PySem L2 L2.L3 K55
theorem look_dic {kvs : List (D × D)} {g : Pla → Option Pla} (e : DicF kvs g) {P : Pla → Prop} (t : ∀ p, P p → ∃ q, g p = some q) : Look (.obj (DicN kvs)) (fun p => (g p).getD p) plD P := fun p hp Q q => by
  obtain ⟨r, hr⟩ := t p hp
  have k := plD_key p
  have q : Q (plD ((g p).getD p)) := q
  rw [hr] at q
  exact .inl ⟨kvs, plD r, rfl, k.1, k.2, e.ok, by rw [e.get, hr]; rfl, q⟩
theorem code_pl : Code plD := ⟨plD_eq, fun p => (plD_key p).2⟩
theorem ixn {l : List Nat} {i x : Nat} (h : l[i]? = some x) {Q : D → Prop} : ixD (.tup (natsD l)) (.int (i : Int)) Q = Q (.int (x : Int)) := by
  have hi : i < l.length := (List.getElem?_eq_some_iff.mp h).1
  have e : atI (natsD l) (i : Int) = some (.int (x : Int)) := by
    have e1 : ixN l.length (i : Int) = some i := by unfold ixN; rw [if_pos (by omega), if_pos (by omega)]; simp
    unfold atI natsD
    rw [List.length_map, e1]
    simp [h]
  exact propext ⟨fun ⟨v, ev, q⟩ => by rw [e] at ev; cases ev; exact q, fun q => ⟨_, e, q⟩⟩
def stp (a : List Nat) (i : Nat) : Nat := a.getD i 0
theorem stp_at {a : List Nat} {i : Nat} (h : i < a.length) : a[i]? = some (stp a i) := by unfold stp; rw [List.getD_eq_getElem?_getD, List.getElem?_eq_getElem h]; rfl
theorem look_row {a : List Nat} {n : Nat} (h : a.length = n) : Look (.tup (natsD a)) (stp a) (fun i : Nat => .int (i : Int)) (fun i => i < n) := fun p hp Q q => by
  refine .inr ?_
  rw [ixn (stp_at (by rw [h]; exact hp))]
  exact q
theorem code_nat : Code (fun i : Nat => D.int (i : Int)) := ⟨fun p q => by
  show eqD (.int (p : Int)) (.int (q : Int)) = _
  rw [Bool.eq_iff_iff, decide_eq_true_eq]
  simp [eqD]
  omega, fun p => by simp [dep]⟩
theorem Tbl.sy {a b : List Nat} (t : Tbl a b) (hl : a.length ≤ 500) {k : Nat} (hk : k < a.length) : Sy (stp a) (stp b) k (fun i => i < a.length) (List.range a.length) := by
  have e := t.ok.len
  refine ⟨hk, fun p hp => ⟨t.ok.al _ _ (stp_at hp), t.ok.bl _ _ (stp_at (by omega))⟩, fun p hp => List.mem_range.mpr hp, by simpa using hl⟩
theorem Tbl.hh {a b : List Nat} (t : Tbl a b) (p : Nat) (hp : p < a.length) : stp a (stp a p) = p := by
  have h1 := stp_at hp
  have h2 := t.ok.aa _ _ h1
  rw [stp_at (t.ok.al _ _ h1)] at h2
  exact Option.some.inj h2
theorem Tbl.t3 {a b : List Nat} (t : Tbl a b) (p : Nat) (hp : p < a.length) : stp b (stp b (stp b p)) = p := by
  have e := t.ok.len
  have h1 := stp_at (a := b) (i := p) (by omega)
  have l1 := t.ok.bl _ _ h1
  have h2 := stp_at (a := b) (i := stp b p) (by omega)
  have l2 := t.ok.bl _ _ h2
  have h3 := t.ok.bbb _ _ _ h1 h2
  rw [stp_at (a := b) (by omega)] at h3
  exact Option.some.inj h3
def anewA (a b : List Nat) (k : Nat) : List Nat := newT (metF (stp a) (stp b) k a.length) (stp a)
def anewB (a b : List Nat) (k : Nat) : List Nat := newT (metF (stp a) (stp b) k a.length) (stp b)
theorem Tbl.anew {a b : List Nat} (t : Tbl a b) (hl : a.length ≤ 500) {k : Nat} (hk : k < a.length) : Tbl (anewA a b k) (anewB a b k) ∧ (anewA a b k).length ≤ a.length := by
  have f := full_met (t.sy hl hk)
  rw [List.length_range] at f
  refine ⟨f.tbl (fun p hp => t.hh p hp) (fun p hp => t.t3 p hp), ?_⟩
  unfold anewA newT
  rw [List.length_map]
  have := f.me.len (t.sy hl hk)
  rwa [List.length_range] at this
theorem anew_row {a b : List Nat} (t : Tbl a b) (hl : a.length ≤ 500) {k : Nat} (hk : k < a.length) {Q : D → Prop} (h : Q (.tup [.tup (natsD (anewA a b k)), .tup (natsD (anewB a b k))])) : pAnew (.tup (natsD a)) (.tup (natsD b)) (.int (k : Int)) Q := by
  refine ⟨Nat, inferInstance, fun i => .int (i : Int), stp a, stp b, k, fun i => i < a.length, List.range a.length, code_nat, look_row rfl, look_row t.ok.len, rfl, t.sy hl hk, ?_⟩
  rw [List.length_range]
  exact h
theorem addM_map {β γ : Type} [DecidableEq β] [DecidableEq γ] {φ : β → γ} {P : β → Prop} (inj : ∀ p q, P p → P q → φ p = φ q → p = q) {met : List β} {q : β} (hm : ∀ p ∈ met, P p) (hq : P q) : addM (met.map φ) (φ q) = (addM met q).map φ := by
  unfold addM
  by_cases c : q ∈ met
  · rw [if_pos c, if_pos (List.mem_map.mpr ⟨q, c, rfl⟩)]
  · rw [if_neg c, if_neg, List.map_append]; rfl
    intro z
    obtain ⟨p, hp, e⟩ := List.mem_map.mp z
    exact c (inj p q (hm p hp) hq e ▸ hp)
theorem addM_in {β : Type} [DecidableEq β] {P : β → Prop} {met : List β} {q : β} (hm : ∀ p ∈ met, P p) (hq : P q) : ∀ p ∈ addM met q, P p := by
  intro p hp
  unfold addM at hp
  by_cases c : q ∈ met
  · rw [if_pos c] at hp; exact hm p hp
  · rw [if_neg c] at hp
    rcases List.mem_append.mp hp with z | z
    · exact hm p z
    · rw [List.mem_singleton] at z; rw [z]; exact hq
theorem bfs_map {β γ : Type} [DecidableEq β] [DecidableEq γ] {ha th : β → β} {ha' th' : γ → γ} {φ : β → γ} {P : β → Prop} (cl : ∀ p, P p → P (ha p) ∧ P (th p)) (e1 : ∀ p, P p → ha' (φ p) = φ (ha p)) (e2 : ∀ p, P p → th' (φ p) = φ (th p))
    (inj : ∀ p q, P p → P q → φ p = φ q → p = q) : ∀ n at_ met, (∀ p ∈ met, P p) → bfs ha' th' n at_ (met.map φ) = (bfs ha th n at_ met).map φ
  | 0, _, _, _ => rfl
  | n + 1, at_, met, hm => by
    rw [bfs, bfs, List.getElem?_map]
    cases hp : met[at_]? with
    | none => rfl
    | some p =>
      have ip := hm p (List.mem_of_getElem? hp)
      have i1 := addM_in hm (cl p ip).1
      show bfs ha' th' n (at_ + 1) (addM (addM (met.map φ) (ha' (φ p))) (th' (φ p))) = _
      rw [e1 p ip, e2 p ip, addM_map inj hm (cl p ip).1, addM_map inj i1 (cl p ip).2]
      exact bfs_map cl e1 e2 inj n (at_ + 1) _ (addM_in i1 (cl p ip).2)
theorem bfs_more {β : Type} [DecidableEq β] {ha th : β → β} : ∀ n k at_ met, (bfs ha th n at_ met).length < n + at_ → bfs ha th (n + k) at_ met = bfs ha th n at_ met
  | 0, k, at_, met, h => by
    have h' : met.length < 0 + at_ := h
    cases k with
    | zero => rfl
    | succ k =>
      show bfs ha th (0 + (k + 1)) at_ met = met
      rw [Nat.zero_add, bfs, List.getElem?_eq_none (by omega)]
  | n + 1, k, at_, met, h => by
    rw [show n + 1 + k = (n + k) + 1 by omega, bfs, bfs]
    rw [bfs] at h
    cases hp : met[at_]? with
    | none => rfl
    | some p =>
      rw [hp] at h
      exact bfs_more n k (at_ + 1) _ (by have : (bfs ha th n (at_ + 1) (addM (addM met (ha p)) (th p))).length < n + 1 + at_ := h; omega)
def SelfM (a b : List Nat) : Prop := metF (stp a) (stp b) 0 a.length = List.range a.length
theorem self_met {β : Type} [DecidableEq β] {ha th : β → β} {f : β} {P : β → Prop} {all : List β} (sy : Sy ha th f P all) (tb : Tbl (newT (metF ha th f all.length) ha) (newT (metF ha th f all.length) th)) : SelfM (newT (metF ha th f all.length) ha) (newT (metF ha th f all.length) th) := by
  have F := full_met sy
  have l1 := F.me.len sy
  have few := sy.few
  unfold SelfM
  generalize hm : metF ha th f all.length = met at *
  have la : (newT met ha).length = met.length := by unfold newT; rw [List.length_map]
  have i0 : met.idxOf f = 0 := idx_selfB F.me.nd F.head
  have nat : ∀ (g : β → β) (p : β), p ∈ met → stp (newT met g) (met.idxOf p) = met.idxOf (g p) := fun g p hp => by
    have h1 := newT_at (g := g) (idx_atB hp)
    rw [stp_at (List.getElem?_eq_some_iff.mp h1).1] at h1
    exact Option.some.inj h1
  have e := bfs_map (ha := ha) (th := th) (ha' := stp (newT met ha)) (th' := stp (newT met th)) (φ := met.idxOf) (P := fun p => p ∈ met) (fun p hp => F.cl p hp) (nat ha) (nat th) (fun p q hp hq z => by
    have h1 := idx_atB hp
    rw [z, idx_atB hq] at h1
    exact (Option.some.inj h1).symm) (all.length + 1) 0 [f] (fun p hp => by rw [List.mem_singleton] at hp; rw [hp]; exact List.mem_of_getElem? F.head)
  have hm' : bfs ha th (all.length + 1) 0 [f] = met := hm
  rw [hm', List.map_cons, List.map_nil, i0] at e
  have hr : met.map (fun p => met.idxOf p) = List.range met.length := by
    apply List.ext_getElem?
    intro i
    rw [List.getElem?_map]
    by_cases c : i < met.length
    · rw [List.getElem?_range c, List.getElem?_eq_getElem c]
      show some (met.idxOf met[i]) = _
      rw [idx_selfB F.me.nd (List.getElem?_eq_getElem c)]
    · rw [List.getElem?_eq_none (by omega), List.getElem?_eq_none (by simp; omega)]; rfl
  have e' : bfs (stp (newT met ha)) (stp (newT met th)) (all.length + 1) 0 [0] = List.range met.length := by rw [e]; exact hr
  have sy' := tb.sy (by rw [la]; omega) tb.pos
  have F' := full_met sy'
  have l2 := F'.me.len sy'
  rw [List.length_range, la] at l2
  have m := bfs_more (ha := stp (newT met ha)) (th := stp (newT met th)) (met.length + 1) (all.length - met.length) 0 [0] (by
    have l3 : (bfs (stp (newT met ha)) (stp (newT met th)) (met.length + 1) 0 [0]).length ≤ met.length := l2
    omega)
  rw [show met.length + 1 + (all.length - met.length) = all.length + 1 by omega, e'] at m
  rw [la]
  exact m.symm
theorem tiles_lenR {row : List Z2} {ts : List Tile} (t : TilesOf row ts) : ts.length + 2 = row.length := by
  induction t with
  | done h => simpa using h.symm
  | cut h e _ ih =>
    have := e.il
    rw [List.length_eraseIdx_of_lt (by omega)] at ih
    simp; omega
theorem src_len {fs : List Z2} {ms : List Mk} {ha th : Pla → Option Pla} {isP : Pla → Prop} (hf : FanOk fs ms) (src : PlaSrc fs ms ha th isP) {met : List Pla} (nd : met.Nodup) (inn : ∀ p ∈ met, isP p) : met.length + 6 ≤ 4 * fs.length := by
  rcases src with ⟨hn, ts, _, tl, _, hp⟩ | ⟨c, _, hp⟩
  · have := nodup_le met ((edg ts).map .edge ++ (List.range fs.length).map .gap) nd fun p h => by
      have q := (hp p).mp (inn p h)
      cases p with
      | edge e => exact List.mem_append.mpr (.inl (List.mem_map.mpr ⟨e, q, rfl⟩))
      | gap i => exact List.mem_append.mpr (.inr (List.mem_map.mpr ⟨i, List.mem_range.mpr (mka_lt hf.mar q), rfl⟩))
    rw [List.length_append, List.length_map, List.length_map, edg_len, List.length_range] at this
    have := tiles_lenR tl
    omega
  · have ml := hf.mar.len
    have := nodup_le met [.gap 0, .gap 1] nd fun p h => by
      obtain ⟨i, hi, rfl⟩ := (hp p).mp (inn p h)
      have := (List.getElem?_eq_some_iff.mp hi).1
      have : i = 0 ∨ i = 1 := by omega
      rcases this with rfl | rfl <;> simp
    simp at this
    omega
def pTabR (x : D) (Q : D → Prop) : Prop := ∃ fs ms, x = fanD fs ms ∧ FanOk fs ms ∧ ∀ a b : List Nat, Tbl a b → SelfM a b → a.length ≤ 500 → a.length + 6 ≤ 4 * fs.length → Q (.tup [.tup (natsD a), .tup (natsD b)])
def f_law_table : Fw := F1 pTabR
def t_law_table : TS3 := (dSeq (dAsg (cCall f_law_links (cCons (cVar 0) cNil)) (kTup 3 (kCons (kName 1) (kCons (kName 2) (kCons (kName 3) kNil))))) (dRet (cCall f_law_anew (cCons (cVar 1) (cCons (cVar 2) (cCons (cVar 3) cNil))))))
theorem len_law_table : ∀ ds Q, f_law_table ds Q → ds.length = 1 := lenF1
theorem ob_law_table : ∀ ds (Q : D → Prop), f_law_table ds Q → t_law_table { nx := fun _ => Q .non, rt := Q } (start3 ["_law_fan_here", "_law_halves", "_law_thirds", "_law_first"] ds) := by
  rintro ds Q ⟨x, rfl, fs, ms, rfl, hf, h⟩
  simp_arith only [t_law_table, f_law_links, f_law_anew, F1_eq, F3_eq, pLinks]
  refine ⟨fs, ms, rfl, hf, fun hk tk ha th f e1 e2 hr => ?_⟩
  obtain ⟨isP, all, sys, src, cnt⟩ := sys_of hf hr
  have sy : Sy (fun p => (ha p).getD p) (fun p => (th p).getD p) f isP all := ⟨sys.f0, fun p hp => by
    obtain ⟨q, a1, i1⟩ := sys.h1 p hp
    obtain ⟨r, a2, i2⟩ := sys.t1 p hp
    rw [a1, a2]
    exact ⟨i1, i2⟩, sys.al, sys.few⟩
  have fm := full_met sy
  have tb := fm.tbl (fun p hp => by
    obtain ⟨q, a1, i1⟩ := sys.h1 p hp
    rw [a1, Option.getD_some, sys.hh p q hp a1, Option.getD_some]) (fun p hp => by
    obtain ⟨q, r, a1, a2, a3⟩ := sys.t3 p hp
    rw [a1, Option.getD_some, a2, Option.getD_some, a3, Option.getD_some])
  refine ⟨Pla, inferInstance, plD, _, _, f, isP, all, code_pl, look_dic e1 (fun p hp => let ⟨q, a, _⟩ := sys.h1 p hp; ⟨q, a⟩), look_dic e2 (fun p hp => let ⟨q, a, _⟩ := sys.t1 p hp; ⟨q, a⟩), rfl, sy, h _ _ tb (self_met sy tb) ?_ ?_⟩
  · unfold newT
    rw [List.length_map]
    exact Nat.le_trans (fm.me.len sy) sys.few
  · unfold newT
    rw [List.length_map]
    exact src_len hf src fm.me.nd fm.me.inn
end KR
set_option Elab.async false
set_option linter.all false
set_option maxRecDepth 100000
set_option maxHeartbeats 8000000
namespace KR
open PySem L2 L2.L3 K55
end KR
set_option Elab.async false
set_option linter.all false
set_option maxRecDepth 100000
set_option maxHeartbeats 8000000
namespace KR
open PySem L2 L2.L3 K55
end KR
set_option Elab.async false
set_option linter.all false
set_option maxRecDepth 100000
set_option maxHeartbeats 8000000
namespace KR
open PySem L2 L2.L3 K55
theorem Tbl.high {a b : List Nat} (t : Tbl a b) {met : List Nat} (cl : ∀ p ∈ met, stp a p ∈ met ∧ stp b p ∈ met) (h0 : 0 ∈ met) : ∀ n j, j ≤ n → j < a.length → j ∈ met
  | 0, j, h, _ => by rw [show j = 0 by omega]; exact h0
  | n + 1, j, h, hj => by
    by_cases c : j = 0
    · rw [c]; exact h0
    · have le := t.ok.len
      obtain ⟨i, hi, e⟩ := t.num j (by omega) hj
      have ih := Tbl.high t cl h0 n i (by omega) (by omega)
      rcases e with e | e
      · rw [stp_at (by omega)] at e
        rw [← Option.some.inj e]; exact (cl i ih).1
      · rw [stp_at (by omega)] at e
        rw [← Option.some.inj e]; exact (cl i ih).2
end KR
set_option Elab.async false
set_option linter.all false
set_option maxRecDepth 100000
set_option maxHeartbeats 8000000
namespace KR
open PySem L2 L2.L3 K55
abbrev tabD (a b : List Nat) : D := .tup [.tup (natsD a), .tup (natsD b)]
end KR
set_option Elab.async false
set_option linter.all false
set_option maxRecDepth 100000
set_option maxHeartbeats 8000000
namespace KR
open PySem L2 L2.L3 K55
end KR
set_option Elab.async false
set_option linter.all false
set_option maxRecDepth 100000
set_option maxHeartbeats 8000000
namespace KR
open PySem L2 L2.L3 K55
section
variable {α β : Type} [DecidableEq α] [DecidableEq β] {φ : α → β}
end
end KR
set_option Elab.async false
set_option linter.all false
set_option maxRecDepth 100000
set_option maxHeartbeats 8000000
namespace KR
open PySem L2 L2.L3 K55
end KR
set_option Elab.async false
set_option linter.all false
set_option maxRecDepth 100000
set_option maxHeartbeats 8000000
namespace KR
open PySem L2 L2.L3 K55
theorem at_ofS {a b : List Nat} (t : TabOk a b) {x : Nat} (h : x < a.length) : a[x]? = some (a.getD x 0) ∧ b[x]? = some (b.getD x 0) := ⟨getD_at h, getD_at (l := b) (by rw [t.len]; exact h)⟩
def pPB (t p l : D) (Q : D → Prop) : Prop := ∃ (a b : List Nat) (x c : Nat), t = tabD a b ∧ p = .int (x : Int) ∧ l = .str (sgnS c) ∧ TabOk a b ∧ x < a.length ∧ isLet c ∧ Q (.int ((lp a b x c : Nat) : Int))
def f_place_behind : Fw := F3 pPB
def t_place_behind : TS3 := (dSeq (dAsg (cVar 0) (kTup 2 (kCons (kName 3) (kCons (kName 4) kNil)))) (dSeq (dIf (cTest (cOp eqF (cVar 2) (cC (.str "s")))) (dRet (cOp ixD (cVar 3) (cVar 1))) dNext) (dSeq (dSet 5 (cOp ixD (cVar 4) (cVar 1))) (dSeq (dIf (cAnd (cTest (cOp eqF (cVar 2) (cC (.str "q")))) (cTest (cOp (isNoneF true) (cVar 5) (cC .non)))) (dRet (cOp ixD (cVar 4) (cVar 5))) dNext) (dRet (cVar 5))))))
theorem len_place_behind : ∀ ds Q, f_place_behind ds Q → ds.length = 3 := lenF3
theorem ob_place_behind : ∀ ds (Q : D → Prop), f_place_behind ds Q → t_place_behind { nx := fun _ => Q .non, rt := Q } (start3 ["table", "place", "letter", "halves", "thirds", "behind"] ds) := by
  rintro ds Q ⟨t, p, l, rfl, a, b, x, c, rfl, rfl, rfl, tab, hx, hc, h⟩
  have hb := tb_lt tab hx
  simp_arith only [t_place_behind, isNoneF, isnoneD]
  rw [ixn (at_ofS tab hx).1, ixn (at_ofS tab hx).2]
  rcases hc with z | z | z <;> subst z
  · rw [if_pos (by rfl)]; exact h
  · rw [if_neg (by decide), if_neg (by decide)]; exact h
  · rw [if_neg (by decide), if_pos (by rfl), ixn (at_ofS tab hb).2]
    exact h
def pPA (t w p : D) (Q : D → Prop) : Prop := ∃ (a b : List Nat) (z : Str) (x : Nat), t = tabD a b ∧ w = .str z ∧ p = .int (x : Int) ∧ TabOk a b ∧ x < a.length ∧ LW z ∧ z.length ≤ 100000 ∧ Q (.int ((lw a b z.cps.toList x : Nat) : Int))
def f_law_led : Fw := fun ds Q => ∃ t w p, ds = [t, p, w] ∧ pPA t w p Q
theorem f_law_led_eq {t w p : D} {Q : D → Prop} : f_law_led [t, p, w] Q = pPA t w p Q := by
  unfold f_law_led
  exact propext ⟨fun ⟨_, _, _, e, h⟩ => by cases e; exact h, fun h => ⟨_, _, _, rfl, h⟩⟩
def t_law_led : TS3 := (dSeq (dFor (cVar 2) (kName 3) (dIf (cTest (cOp eqF (cVar 3) (cC (.str "s")))) (dSet 1 (cOp ixD (cOp ixD (cVar 0) (cC (.int 0))) (cVar 1))) (dIf (cTest (cOp eqF (cVar 3) (cC (.str "r")))) (dSet 1 (cOp ixD (cOp ixD (cVar 0) (cC (.int 1))) (cVar 1))) (dSet 1 (cOp ixD (cOp ixD (cVar 0) (cC (.int 1))) (cOp ixD (cOp ixD (cVar 0) (cC (.int 1))) (cVar 1))))))) (dRet (cVar 1)))
theorem len_law_led : ∀ ds Q, f_law_led ds Q → ds.length = 3 := by rintro ds Q ⟨t, w, p, rfl, _⟩; rfl
theorem ob_law_led : ∀ ds (Q : D → Prop), f_law_led ds Q → t_law_led { nx := fun _ => Q .non, rt := Q } (start3 ["_law_table_here", "_law_place", "_law_word_here", "_law_letter"] ds) := by
  rintro ds Q ⟨t, w, p, rfl, a, b, z, x, rfl, rfl, rfl, tab, hx, hz, hl, h⟩
  simp_arith only [t_law_led, itemsD]
  refine turns_of (fun i e => ∃ k, e = [some (.d (tabD a b)), some (.d (.int ((lw a b (z.cps.toList.take i) x : Nat) : Int))), some (.d (.str z)), k]) ?_ ?_ ⟨_, rfl⟩
  · rintro i x' env N hx' ⟨k, rfl⟩ hN
    unfold signsD at hx'
    rw [List.getElem?_map] at hx'
    cases hc : z.cps.toList[i]? with
    | none => rw [hc] at hx'; cases hx'
    | some c =>
      rw [hc] at hx'
      cases hx'
      have hcl := hz c (List.mem_of_getElem? hc)
      have hi := lw_lt tab hx (z.cps.toList.take i)
      have hb := tb_lt tab hi
      have fin : N [some (.d (tabD a b)), some (.d (.int ((lp a b (lw a b (z.cps.toList.take i) x) c : Nat) : Int))), some (.d (.str z)), some (.d (.str ⟨#[c]⟩))] := by
        refine hN _ ⟨some (.d (.str ⟨#[c]⟩)), ?_⟩
        rw [List.take_succ, hc]
        simp only [Option.toList]
        rw [lw_snoc]
      simp_arith only [tabD, ixt0, ixt1]
      rcases hcl with w | w | w <;> subst w
      · rw [if_pos (by rfl), ixn (at_ofS tab hi).1]; exact fin
      · rw [if_neg (by decide), if_pos (by rfl), ixn (at_ofS tab hi).2]; exact fin
      · rw [if_neg (by decide), if_neg (by decide), ixn (at_ofS tab hi).2, ixn (at_ofS tab hb).2]; exact fin
  · rintro env ⟨k, rfl⟩
    simp_arith only [and_true]
    rw [List.take_of_length_le (by simp [signsD])]
    exact h
end KR
set_option Elab.async false
set_option linter.all false
set_option maxRecDepth 100000
set_option maxHeartbeats 8000000
namespace KR
open PySem L2 L2.L3 K55
def strW (cs : List Nat) : D := .str ⟨cs.toArray⟩
section
variable (a b : List Nat)
def plW (w : List Nat) : Nat := lw a b w 0
def fnd (ds : List (List Nat)) (p : Nat) : Bool := ds.any fun w => decide (plW a b w = p)
def addW (ds : List (List Nat)) (w : List Nat) : List (List Nat) := if fnd a b ds (plW a b w) = true then ds else ds ++ [w]
def extW (w : List Nat) : List (List Nat) := [w ++ [113], w ++ [114], w ++ [115]]
def runW (ds some_ : List (List Nat)) : List (List Nat) := some_.foldl (addW a b) ds
def prc : Nat → List (List Nat)
  | 0 => [[]]
  | i + 1 => match (prc i)[i]? with
    | none => prc i
    | some w => runW a b (prc i) (extW w)
end
section
variable {a b : List Nat}
theorem add_pre (ds : List (List Nat)) (w : List Nat) : ∃ r, addW a b ds w = ds ++ r ∧ (r = [] ∨ (r = [w] ∧ fnd a b ds (plW a b w) = false)) := by
  unfold addW
  split
  · exact ⟨[], by simp, .inl rfl⟩
  · rename_i h
    exact ⟨[w], rfl, .inr ⟨rfl, by simpa using h⟩⟩
theorem run_pre : ∀ (l ds : List (List Nat)), ∃ r, runW a b ds l = ds ++ r ∧ r.Sublist l
  | [], ds => ⟨[], by simp [runW], .slnil⟩
  | w :: l, ds => by
    obtain ⟨r1, e1, h1⟩ := add_pre (a := a) (b := b) ds w
    obtain ⟨r2, e2, h2⟩ := run_pre l (addW a b ds w)
    refine ⟨r1 ++ r2, ?_, ?_⟩
    · show runW a b (addW a b ds w) l = _
      rw [e2, e1, List.append_assoc]
    · rcases h1 with rfl | ⟨rfl, _⟩
      · exact h2.cons _
      · exact h2.cons_cons _
theorem run_app (l1 l2 ds : List (List Nat)) : runW a b ds (l1 ++ l2) = runW a b (runW a b ds l1) l2 := List.foldl_append
theorem prc_pre (i : Nat) : ∃ r, prc a b (i + 1) = prc a b i ++ r := by
  show ∃ r, (match (prc a b i)[i]? with | none => prc a b i | some w => runW a b (prc a b i) (extW w)) = _
  split
  · exact ⟨[], by simp⟩
  · obtain ⟨r, e, _⟩ := run_pre (a := a) (b := b) (extW _) (prc a b i)
    exact ⟨r, e⟩
theorem prc_pre' (i k : Nat) : ∃ r, prc a b (i + k) = prc a b i ++ r := by
  induction k with
  | zero => exact ⟨[], by simp⟩
  | succ k ih =>
    obtain ⟨r, e⟩ := ih
    obtain ⟨r2, e2⟩ := prc_pre (a := a) (b := b) (i + k)
    exact ⟨r ++ r2, by rw [← Nat.add_assoc, e2, e, List.append_assoc]⟩
theorem prc_row : ∀ (l : List (List Nat)) (i : Nat), (∀ j w, l[j]? = some w → (prc a b i)[i + j]? = some w) → prc a b (i + l.length) = runW a b (prc a b i) (l.flatMap extW)
  | [], i, _ => by simp [runW]
  | w :: l, i, h => by
    have h0 := h 0 w rfl
    rw [Nat.add_zero] at h0
    have e1 : prc a b (i + 1) = runW a b (prc a b i) (extW w) := by
      show (match (prc a b i)[i]? with | none => prc a b i | some w => runW a b (prc a b i) (extW w)) = _
      rw [h0]
    have ih := prc_row l (i + 1) fun j w' hj => by
      have := h (j + 1) w' (by simpa using hj)
      obtain ⟨r, e⟩ := prc_pre (a := a) (b := b) i
      rw [e, List.getElem?_append_left (by have := (List.getElem?_eq_some_iff.mp this).1; omega)]
      rw [← this]; congr 1; omega
    rw [List.length_cons, show i + (l.length + 1) = i + 1 + l.length by omega, ih, e1, List.flatMap_cons, run_app]
structure WSt (a b : List Nat) (ds : List (List Nat)) (i : Nat) : Prop where
  il : i ≤ ds.length
  lj : ∀ (j : Nat) (w : List Nat), ds[j]? = some w → w.length ≤ j
  nd : (ds.map (plW a b)).Nodup
  let_ : ∀ w ∈ ds, ∀ c ∈ w, isLet c
  z : [] ∈ ds
  from_ : ∀ w ∈ ds, w ≠ [] → ∃ u c, w = u ++ [c] ∧ isLet c ∧ ∃ j, j < i ∧ ds[j]? = some u
  on : ∀ j u c, j < i → ds[j]? = some u → isLet c → fnd a b ds (plW a b (u ++ [c])) = true
theorem fnd_iff {ds : List (List Nat)} {p : Nat} : fnd a b ds p = true ↔ ∃ w ∈ ds, plW a b w = p := by
  unfold fnd; simp
theorem fnd_more {ds r : List (List Nat)} {p : Nat} (h : fnd a b ds p = true) : fnd a b (ds ++ r) p = true := by
  rw [fnd_iff] at *
  obtain ⟨w, h1, h2⟩ := h
  exact ⟨w, List.mem_append_left _ h1, h2⟩
theorem run_fnd : ∀ (l ds : List (List Nat)), ∀ w ∈ l, fnd a b (runW a b ds l) (plW a b w) = true
  | x :: l, ds, w, hw => by
    rcases List.mem_cons.mp hw with rfl | hw
    · obtain ⟨r, e, _⟩ := run_pre (a := a) (b := b) l (addW a b ds w)
      show fnd a b (runW a b (addW a b ds w) l) _ = true
      rw [e]
      refine fnd_more ?_
      unfold addW
      split
      · assumption
      · rw [fnd_iff]; exact ⟨w, by simp, rfl⟩
    · exact run_fnd l _ w hw
theorem run_nd : ∀ (l ds : List (List Nat)), (ds.map (plW a b)).Nodup → ((runW a b ds l).map (plW a b)).Nodup
  | [], ds, h => h
  | w :: l, ds, h => by
    refine run_nd l (addW a b ds w) ?_
    unfold addW
    split
    · exact h
    · rename_i hf
      rw [List.map_append, List.nodup_append]
      refine ⟨h, by simp, fun x hx y hy e => hf ?_⟩
      obtain ⟨w', h1, h2⟩ := List.mem_map.mp hx
      rw [fnd_iff]
      refine ⟨w', h1, ?_⟩
      simp at hy
      rw [h2, e, hy]
theorem wst_run {ds : List (List Nat)} {i : Nat} (s : WSt a b ds i) {l : List (List Nat)} (hl : ∀ j w, l[j]? = some w → ds[i + j]? = some w) : WSt a b (runW a b ds (l.flatMap extW)) (i + l.length) := by
  obtain ⟨r, e, sub⟩ := run_pre (a := a) (b := b) (l.flatMap extW) ds
  have mem : ∀ w ∈ l.flatMap extW, ∃ u c, u ∈ l ∧ w = u ++ [c] ∧ isLet c := fun w hw => by
    obtain ⟨u, hu, hw⟩ := List.mem_flatMap.mp hw
    unfold extW at hw
    simp only [List.mem_cons, List.not_mem_nil, or_false] at hw
    rcases hw with rfl | rfl | rfl
    · exact ⟨u, 113, hu, rfl, .inr (.inr rfl)⟩
    · exact ⟨u, 114, hu, rfl, .inr (.inl rfl)⟩
    · exact ⟨u, 115, hu, rfl, .inl rfl⟩
  have inl : ∀ u ∈ l, ∃ j, j < i + l.length ∧ i ≤ j ∧ ds[j]? = some u := fun u hu => by
    obtain ⟨j, hj⟩ := List.getElem?_of_mem hu
    exact ⟨i + j, by have := (List.getElem?_eq_some_iff.mp hj).1; omega, by omega, hl j u hj⟩
  have old : ∀ j u, ds[j]? = some u → (ds ++ r)[j]? = some u := fun j u h => by
    rw [List.getElem?_append_left (List.getElem?_eq_some_iff.mp h).1]; exact h
  refine ⟨?_, ?_, run_nd _ _ s.nd, ?_, ?_, ?_, ?_⟩
  · rw [e, List.length_append]
    have := s.il
    rcases Nat.eq_zero_or_pos l.length with z | z
    · omega
    · have h1 := hl (l.length - 1) _ (List.getElem?_eq_getElem (by omega))
      have := (List.getElem?_eq_some_iff.mp h1).1
      omega
  · rw [e]
    intro j w hw
    by_cases h : j < ds.length
    · rw [List.getElem?_append_left h] at hw
      exact s.lj j w hw
    · rw [List.getElem?_append_right (by omega)] at hw
      obtain ⟨u, c', hu, rfl, hc'⟩ := mem w (sub.subset (List.mem_of_getElem? hw))
      obtain ⟨j', _, _, hj'⟩ := inl u hu
      have h1 := s.lj j' u hj'
      have h2 := (List.getElem?_eq_some_iff.mp hj').1
      simp; omega
  · rw [e]
    intro w hw c hc
    rcases List.mem_append.mp hw with hw | hw
    · exact s.let_ w hw c hc
    · obtain ⟨u, c', hu, rfl, hc'⟩ := mem w (sub.subset hw)
      rcases List.mem_append.mp hc with hc | hc
      · obtain ⟨j, _, _, hj⟩ := inl u hu
        exact s.let_ u (List.mem_of_getElem? hj) c hc
      · rw [List.mem_singleton.mp hc]; exact hc'
  · rw [e]; exact List.mem_append_left _ s.z
  · rw [e]
    intro w hw hne
    rcases List.mem_append.mp hw with hw | hw
    · obtain ⟨u, c, h1, h2, j, h3, h4⟩ := s.from_ w hw hne
      exact ⟨u, c, h1, h2, j, by omega, old j u h4⟩
    · obtain ⟨u, c', hu, rfl, hc'⟩ := mem w (sub.subset hw)
      obtain ⟨j, h1, _, h2⟩ := inl u hu
      exact ⟨u, c', rfl, hc', j, h1, old j u h2⟩
  · intro j u c hj hu hc
    by_cases h : j < i
    · rw [e]
      refine fnd_more (s.on j u c h ?_ hc)
      rw [e] at hu
      by_cases h2 : j < ds.length
      · rwa [List.getElem?_append_left h2] at hu
      · have := s.il
        omega
    · have hjl : j - i < l.length := by omega
      have h2 := hl (j - i) _ (List.getElem?_eq_getElem hjl)
      rw [show i + (j - i) = j by omega] at h2
      rw [e, old j _ h2] at hu
      cases hu
      refine run_fnd _ _ _ (List.mem_flatMap.mpr ⟨_, List.getElem_mem hjl, ?_⟩)
      unfold extW
      rcases hc with z | z | z <;> subst z <;> simp
theorem wst0 : WSt a b [[]] 0 := by
  refine ⟨Nat.zero_le _, fun j w hj => by match j, hj with | 0, hj => (cases hj; simp) | _ + 1, hj => simp at hj, by simp, fun w hw c hc => ?_, by simp, fun w hw hne => absurd (List.mem_singleton.mp hw) hne, fun j u c hj => absurd hj (Nat.not_lt_zero _)⟩
  rw [List.mem_singleton.mp hw] at hc
  cases hc
theorem wst_all {ds : List (List Nat)} (t : Tbl a b) (s : WSt a b ds ds.length) {k : Nat} (hk : k < a.length) : fnd a b ds k = true := by
  have cl : ∀ p, p ∈ ds.map (plW a b) → stp a p ∈ ds.map (plW a b) ∧ stp b p ∈ ds.map (plW a b) := fun p hp => by
    obtain ⟨w, hw, rfl⟩ := List.mem_map.mp hp
    obtain ⟨j, hj⟩ := List.getElem?_of_mem hw
    have jl := (List.getElem?_eq_some_iff.mp hj).1
    have go : ∀ c, isLet c → plW a b (w ++ [c]) ∈ ds.map (plW a b) := fun c hc => by
      obtain ⟨w', h1, h2⟩ := fnd_iff.mp (s.on j w c jl hj hc)
      exact List.mem_map.mpr ⟨w', h1, h2⟩
    have e1 := go 115 (.inl rfl)
    have e2 := go 114 (.inr (.inl rfl))
    unfold plW at e1 e2
    rw [lw_snoc] at e1 e2
    exact ⟨e1, e2⟩
  have z : 0 ∈ ds.map (plW a b) := List.mem_map.mpr ⟨[], s.z, rfl⟩
  obtain ⟨w, h1, h2⟩ := List.mem_map.mp (t.high cl z k k (Nat.le_refl _) hk)
  exact fnd_iff.mpr ⟨w, h1, h2⟩
theorem wst_few {ds : List (List Nat)} {i : Nat} (t : Tbl a b) (s : WSt a b ds i) : ds.length ≤ a.length := by
  have := nodup_le (ds.map (plW a b)) (List.range a.length) s.nd fun p hp => by
    obtain ⟨w, _, rfl⟩ := List.mem_map.mp hp
    exact List.mem_range.mpr (lw_lt t.ok t.pos w)
  simpa using this
def entW (a b : List Nat) (w : List Nat) : D × D := (.int ((plW a b w : Nat) : Int), strW w)
def dicW (a b : List Nat) (ds : List (List Nat)) : List (D × D) := ds.map (entW a b)
theorem dic_any (ds : List (List Nat)) (p : Nat) : ((dicW a b ds).any fun kv => eqD kv.1 (.int (p : Int))) = fnd a b ds p := by
  unfold dicW fnd entW
  rw [List.any_map]
  congr 1
  funext w
  show eqD (.int ((plW a b w : Nat) : Int)) (.int (p : Int)) = _
  simp only [eqD]
  rw [Bool.eq_iff_iff]; simp; omega
theorem dic_get {ds : List (List Nat)} (nd : (ds.map (plW a b)).Nodup) {w : List Nat} (hw : w ∈ ds) : getN (dicW a b ds) (.int ((plW a b w : Nat) : Int)) = some (strW w) := by
  induction ds with
  | nil => cases hw
  | cons x r ih =>
    obtain ⟨n1, n2⟩ := List.nodup_cons.mp (show (plW a b x :: r.map (plW a b)).Nodup from nd)
    unfold getN dicW
    rw [List.map_cons, List.find?_cons]
    rcases List.mem_cons.mp hw with rfl | hw
    · have : eqD (entW a b w).1 (.int ((plW a b w : Nat) : Int)) = true := by simp [entW, eqD]
      rw [this]; rfl
    · have hne : eqD (entW a b x).1 (.int ((plW a b w : Nat) : Int)) = false := by
        simp only [entW, eqD]
        rw [Bool.eq_false_iff]
        intro h
        have : plW a b x = plW a b w := by simp at h; omega
        exact n1 (this ▸ List.mem_map.mpr ⟨w, hw, rfl⟩)
      rw [hne]
      exact ih n2 hw
theorem dic_put {ds : List (List Nat)} {w : List Nat} (h : fnd a b ds (plW a b w) = false) : putN (dicW a b ds) (.int ((plW a b w : Nat) : Int)) (strW w) = dicW a b (ds ++ [w]) := by
  unfold putN
  rw [dic_any, h]
  simp [dicW, entW]
theorem dic_ok {ds : List (List Nat)} (nd : (ds.map (plW a b)).Nodup) : DicOk (dicW a b ds) := by
  refine ⟨fun kv h => ?_, fun i j x y hi hj e => ?_⟩
  · obtain ⟨w, _, rfl⟩ := List.mem_map.mp h
    simp [entW, keyN, dep]
  · unfold dicW at hi hj
    rw [List.getElem?_map] at hi hj
    obtain ⟨w, hw, rfl⟩ := Option.map_eq_some_iff.mp hi
    obtain ⟨w', hw', rfl⟩ := Option.map_eq_some_iff.mp hj
    have e' : plW a b w = plW a b w' := by simp [entW] at e; omega
    have h1 : (ds.map (plW a b))[i]? = some (plW a b w) := by rw [List.getElem?_map, hw]; rfl
    have h2 : (ds.map (plW a b))[j]? = some (plW a b w) := by rw [List.getElem?_map, hw', e']; rfl
    exact (List.getElem?_inj (List.getElem?_eq_some_iff.mp h1).1 nd).mp (h1.trans h2.symm)
theorem add_new {ds : List (List Nat)} {w : List Nat} (h : fnd a b ds (plW a b w) = false) : addW a b ds w = ds ++ [w] := by unfold addW; rw [if_neg (by simp [h])]
theorem add_old {ds : List (List Nat)} {w : List Nat} (h : fnd a b ds (plW a b w) = true) : addW a b ds w = ds := by unfold addW; rw [if_pos h]
end
end KR
set_option Elab.async false
set_option linter.all false
set_option maxRecDepth 100000
set_option maxHeartbeats 8000000
namespace KR
open PySem L2 L2.L3 K55
def FW (a b : List Nat) (k : Nat) (w : List Nat) : Prop := ∃ i, w ∈ prc a b i ∧ plW a b w = k ∧ WSt a b (prc a b i) i
theorem fw_one {a b : List Nat} {k : Nat} {u w : List Nat} (h : FW a b k u) (g : FW a b k w) : u = w := by
  obtain ⟨i, h1, h2, h3⟩ := h
  obtain ⟨j, g1, g2, g3⟩ := g
  have key : ∀ (i j : Nat) (u w : List Nat), i ≤ j → u ∈ prc a b i → w ∈ prc a b j → plW a b u = plW a b w → WSt a b (prc a b j) j → u = w := fun i j u w hij hu hw e s => by
    obtain ⟨r, er⟩ := prc_pre' (a := a) (b := b) i (j - i)
    rw [show i + (j - i) = j by omega] at er
    have hu' : u ∈ prc a b j := by rw [er]; exact List.mem_append_left _ hu
    obtain ⟨x, hx⟩ := List.getElem?_of_mem hu'
    obtain ⟨y, hy⟩ := List.getElem?_of_mem hw
    have h1 : ((prc a b j).map (plW a b))[x]? = some (plW a b u) := by rw [List.getElem?_map, hx]; rfl
    have h2 : ((prc a b j).map (plW a b))[y]? = some (plW a b u) := by rw [List.getElem?_map, hy, e]; rfl
    have := (List.getElem?_inj (List.getElem?_eq_some_iff.mp h1).1 s.nd).mp (h1.trans h2.symm)
    subst this
    rw [hx] at hy
    exact Option.some.inj hy
  rcases Nat.le_total i j with hij | hij
  · exact key i j u w hij h1 g1 (h2.trans g2.symm) g3
  · exact (key j i w u hij g1 h1 (g2.trans h2.symm) h3).symm
theorem prc_step {a b : List Nat} {i : Nat} {w : List Nat} (h : (prc a b i)[i]? = some w) : prc a b (i + 1) = runW a b (prc a b i) (extW w) := by
  show (match (prc a b i)[i]? with | none => prc a b i | some w => runW a b (prc a b i) (extW w)) = _
  rw [h]
theorem lw_pl {a b w : List Nat} {c : Nat} : lp a b (plW a b w) c = plW a b (w ++ [c]) := by unfold plW; rw [lw_snoc]
def pWto (t p : D) (Q : D → Prop) : Prop := ∃ (a b : List Nat) (k : Nat), t = tabD a b ∧ p = .int (k : Int) ∧ Tbl a b ∧ a.length ≤ 500 ∧ k < a.length ∧ ∀ v : List Nat, FW a b k v → Q (strW v)
def f_word_to : Fw := F2 pWto
def t_word_to_3 : TS3 := (dRet (cDicGet 2 (cVar 1)))
def t_word_to_2_1 : TS3 := (dFor (cC (.str "qrs")) (kName 5) (dSeq (dSet 6 (cCall f_place_behind (cCons (cVar 0) (cCons (cVar 4) (cCons (cVar 5) cNil))))) (dIf (cInDic true 2 (cVar 6)) (dSeq (dDicPut 2 (cVar 6) (cOp addD (cDicGet 2 (cVar 4)) (cVar 5))) (dAppend 3 (cVar 6))) dNext)))
def t_word_to : TS3 := (dSeq (dDicOne 2 (cC (.int 0)) (cC (.str ""))) (dSeq (dSetOwn 3 (cFew (cCons (cC (.int 0)) cNil))) (dSeq (dWhile (cInDic true 2 (cVar 1)) (dSeq (dSetPop 4 3 (cC (.int 0))) t_word_to_2_1)) t_word_to_3)))
theorem len_word_to : ∀ ds Q, f_word_to ds Q → ds.length = 2 := lenF2
theorem ob_word_to : ∀ ds (Q : D → Prop), f_word_to ds Q → t_word_to { nx := fun _ => Q .non, rt := Q } (start3 ["table", "place", "words", "met", "here", "letter", "behind"] ds) := by
  rintro ds Q ⟨t, p, rfl, a, b, k, rfl, rfl, tab, la, hk, h⟩
  have sz := PySem.sizeLine_eq
  simp_arith only [t_word_to, dDicOne, dWhile]
  refine ⟨fun e => ∃ (i : Nat) (k4 k5 k6 : Option Lo), WSt a b (prc a b i) i ∧ e = [some (.d (tabD a b)), some (.d (.int (k : Int))), some (.dic (dicW a b (prc a b i))), some (.own (natsD (((prc a b i).drop i).map (plW a b)))), k4, k5, k6],
    fun e => match e with | [_, _, some (.dic kvs), some (.own qs), _, _, _] => 2 * (500 - kvs.length) + qs.length | _ => 0, ⟨0, _, _, _, wst0, rfl⟩, ?_⟩
  rintro env ⟨i, k4, k5, k6, s, rfl⟩
  have few := wst_few tab s
  simp_arith only [cInDic, Lo.dic.injEq]
  refine ⟨by simp [keyN], by simp [dep], dic_ok s.nd, ?_⟩
  rw [dic_any]
  by_cases ck : fnd a b (prc a b i) k = true
  · rw [ck]
    simp_arith only [t_word_to_3, cDicGet, Lo.dic.injEq]
    obtain ⟨w, hw, rfl⟩ := fnd_iff.mp ck
    exact ⟨_, by simp [keyN], by simp [dep], dic_ok s.nd, dic_get s.nd hw, h w ⟨i, hw, rfl, s⟩⟩
  · rw [Bool.eq_false_iff.mpr ck]
    have hi : i < (prc a b i).length := by
      rcases Nat.lt_or_ge i (prc a b i).length with z | z
      · exact z
      · have e : i = (prc a b i).length := Nat.le_antisymm s.il z
        have s' : WSt a b (prc a b i) (prc a b i).length := by rw [← e]; exact s
        exact absurd (wst_all tab s' hk) ck
    have hd : (prc a b i).drop i = (prc a b i)[i] :: (prc a b i).drop (i + 1) := List.drop_eq_getElem_cons hi
    have hw := List.getElem?_eq_getElem hi
    generalize hwe : (prc a b i)[i] = w at *
    rw [hd]
    simp_arith only [natsD, List.map_cons]
    refine ⟨0, _, rfl, rfl, by decide, ?_⟩
    simp_arith only [t_word_to_2_1, itemsD, List.eraseIdx_cons_zero]
    have sg : signsD (Str.ofString "qrs") = [113, 114, 115].map fun c => D.str (sgnS c) := rfl
    rw [sg]
    have wl := s.lj i w hw
    have hwm := List.mem_of_getElem? hw
    have s1 := wst_run s (l := [w]) fun j w' hj => by
      match j, hj with
      | 0, hj => cases hj; exact hw
      | _ + 1, hj => simp at hj
    rw [show [w].flatMap extW = extW w by simp, ← prc_step hw] at s1
    have few1 := wst_few tab s1
    refine turns_of (fun j e => ∃ (k5 k6 : Option Lo), e = [some (.d (tabD a b)), some (.d (.int (k : Int))), some (.dic (dicW a b (runW a b (prc a b i) ((extW w).take j)))), some (.own (natsD (((runW a b (prc a b i) ((extW w).take j)).drop (i + 1)).map (plW a b)))), some (.d (.int ((plW a b w : Nat) : Int))), k5, k6]) ?_ ?_ ⟨k5, k6, by simp [runW, natsD]⟩
    · rintro j x env N hx ⟨k5, k6, rfl⟩ hN
      rw [List.getElem?_map] at hx
      obtain ⟨c, hc, rfl⟩ := Option.map_eq_some_iff.mp hx
      have hcl : isLet c := by
        have := List.mem_of_getElem? hc
        simp only [List.mem_cons, List.not_mem_nil, or_false] at this
        unfold isLet; omega
      have hex : (extW w)[j]? = some (w ++ [c]) := by
        match j, hc with
        | 0, hc => cases hc; rfl
        | 1, hc => cases hc; rfl
        | 2, hc => cases hc; rfl
        | _ + 3, hc => simp at hc
      have tk : (extW w).take (j + 1) = (extW w).take j ++ [w ++ [c]] := by rw [List.take_succ, hex]; rfl
      have rn : runW a b (prc a b i) ((extW w).take (j + 1)) = addW a b (runW a b (prc a b i) ((extW w).take j)) (w ++ [c]) := by rw [tk, run_app]; rfl
      have nd := run_nd (a := a) (b := b) ((extW w).take j) (prc a b i) s.nd
      obtain ⟨r, er, _⟩ := run_pre (a := a) (b := b) ((extW w).take j) (prc a b i)
      have fewD : (runW a b (prc a b i) ((extW w).take j)).length ≤ a.length := by
        have := nodup_le ((runW a b (prc a b i) ((extW w).take j)).map (plW a b)) (List.range a.length) nd fun p hp => by
          obtain ⟨w', _, rfl⟩ := List.mem_map.mp hp
          exact List.mem_range.mpr (lw_lt tab.ok tab.pos w')
        simpa using this
      have hwD : w ∈ runW a b (prc a b i) ((extW w).take j) := by rw [er]; exact List.mem_append_left _ hwm
      have dl : (prc a b i).length ≤ (runW a b (prc a b i) ((extW w).take j)).length := by rw [er]; simp
      generalize runW a b (prc a b i) ((extW w).take j) = E at *
      simp_arith only [f_place_behind, F3_eq]
      refine ⟨a, b, plW a b w, c, rfl, rfl, rfl, tab.ok, lw_lt tab.ok tab.pos w, hcl, ?_⟩
      rw [lw_pl]
      simp_arith only [cInDic, Lo.dic.injEq, dDicPut, cDicGet]
      refine ⟨by simp [keyN], by simp [dep], dic_ok nd, ?_⟩
      rw [dic_any]
      by_cases cb : fnd a b E (plW a b (w ++ [c])) = true
      · rw [cb]
        simp_arith only [and_true]
        refine hN _ ⟨some (.d (.str (sgnS c))), some (.d (.int ((plW a b (w ++ [c]) : Nat) : Int))), ?_⟩
        rw [rn, add_old cb]
      · have cb' := Bool.eq_false_iff.mpr cb
        rw [cb']
        simp_arith only [and_true]
        refine ⟨strW w, by simp [keyN], by simp [dep], dic_ok nd, dic_get nd hwD, ?_⟩
        have ap : (⟨w.toArray⟩ : Str) ++ sgnS c = ⟨(w ++ [c]).toArray⟩ := by
          show (⟨w.toArray ++ #[c]⟩ : Str) = _
          simp
        show addD (D.str ⟨w.toArray⟩) (D.str (sgnS c)) _
        rw [addD_ss, ap]
        have lz : (⟨w.toArray⟩ : Str).length = w.length := by show w.toArray.size = _; simp
        have dlen : (dicW a b E).length = E.length := by simp [dicW]
        refine ⟨by rw [lz, show (sgnS c).length = 1 from rfl]; omega, by simp [keyN], by simp [dep], dic_ok nd, by omega, by simp [natsD]; omega, hN _ ⟨some (.d (.str (sgnS c))), some (.d (.int ((plW a b (w ++ [c]) : Nat) : Int))), ?_⟩⟩
        rw [rn, add_new cb', ← dic_put cb']
        rw [List.drop_append_of_le_length (by omega)]
        simp [natsD]
        rfl
    · rintro env ⟨k5, k6, rfl⟩
      have e3 : (extW w).take (List.map (fun c => D.str (sgnS c)) [113, 114, 115]).length = extW w := rfl
      rw [e3, ← prc_step hw]
      refine ⟨⟨i + 1, _, _, _, s1, rfl⟩, ?_⟩
      obtain ⟨r, er⟩ := prc_pre (a := a) (b := b) i
      have l1 : (prc a b i).length ≤ (prc a b (i + 1)).length := by rw [er]; simp
      show 2 * (500 - (dicW a b (prc a b (i + 1))).length) + (natsD (((prc a b (i + 1)).drop (i + 1)).map (plW a b))).length < 2 * (500 - (dicW a b (prc a b i)).length) + _
      simp only [dicW, natsD, List.length_map, List.length_drop, List.length_cons]
      omega
end KR
set_option Elab.async false
set_option linter.all false
set_option maxRecDepth 100000
set_option maxHeartbeats 8000000
namespace KR
open PySem L2 L2.L3 K55 PyProof.Rows
def ltW (x y : List Nat) : Prop := Spec.ltCps x y = true
theorem lt_cons {x y : Nat} {xs ys : List Nat} : ltW (x :: xs) (y :: ys) ↔ x < y ∨ (x = y ∧ ltW xs ys) := by
  unfold ltW
  rw [Spec.ltCps.eq_def]
  simp only
  by_cases h : x < y
  · simp [h]
  · by_cases h2 : x = y
    · subst h2; simp
    · simp [h, h2]
theorem lt_nil {x : List Nat} : ¬ ltW x [] := by
  unfold ltW; cases x <;> simp [Spec.ltCps]
theorem lt_nil_cons {y : Nat} {ys : List Nat} : ltW [] (y :: ys) := by unfold ltW; simp [Spec.ltCps]
theorem lt_asym : ∀ x y : List Nat, ltW x y → ¬ ltW y x
  | _, [], h => absurd h lt_nil
  | [], _ :: _, _ => lt_nil
  | x :: xs, y :: ys, h => fun g => by
    rw [lt_cons] at h g
    rcases h with h | ⟨h, h'⟩ <;> rcases g with g | ⟨g, g'⟩
    · omega
    · omega
    · omega
    · exact lt_asym xs ys h' g'
theorem lt_tri : ∀ x y : List Nat, ¬ ltW x y → ¬ ltW y x → x = y
  | [], [], _, _ => rfl
  | [], _ :: _, h, _ => absurd lt_nil_cons h
  | _ :: _, [], _, h => absurd lt_nil_cons h
  | x :: xs, y :: ys, h, g => by
    rw [lt_cons] at h g
    have e : x = y := by
      rcases Nat.lt_trichotomy x y with z | z | z
      · exact absurd (.inl z) h
      · exact z
      · exact absurd (.inl z) g
    subst e
    rw [lt_tri xs ys (fun z => h (.inr ⟨rfl, z⟩)) (fun z => g (.inr ⟨rfl, z⟩))]
theorem lt_trans : ∀ x y z : List Nat, ltW x y → ltW y z → ltW x z
  | _, [], _, h, _ => absurd h lt_nil
  | _, _ :: _, [], _, h => absurd h lt_nil
  | [], _ :: _, _ :: _, _, _ => lt_nil_cons
  | x :: xs, y :: ys, z :: zs, h, g => by
    rw [lt_cons] at *
    rcases h with h | ⟨h, h'⟩ <;> rcases g with g | ⟨g, g'⟩
    · exact .inl (by omega)
    · exact .inl (by omega)
    · exact .inl (by omega)
    · exact .inr ⟨by omega, lt_trans xs ys zs h' g'⟩
theorem le_trans' {x y z : List Nat} (h : ¬ ltW y x) (g : ¬ ltW z y) : ¬ ltW z x := fun k => by
  by_cases e : ltW x y
  · exact g (lt_trans z x y k e)
  · exact g (lt_tri x y e h ▸ k)
theorem rising_pw : ∀ (l : List Str) (x : Str), risingS x l = true → (x :: l).Pairwise fun u v => ¬ ltW v.cps.toList u.cps.toList
  | [], x, _ => by simp
  | y :: l, x, h => by
    rw [risingS.eq_def] at h
    simp only [Bool.and_eq_true, Bool.not_eq_true'] at h
    have ih := rising_pw l y h.2
    have hxy : ¬ ltW y.cps.toList x.cps.toList := by unfold ltW; rw [h.1]; simp
    refine List.pairwise_cons.mpr ⟨fun z hz => ?_, ih⟩
    rcases List.mem_cons.mp hz with rfl | hz
    · exact hxy
    · exact le_trans' hxy ((List.pairwise_cons.mp ih).1 z hz)
theorem sorted_same {ss ss' : List Str} (h : ss.Pairwise fun u v => ltW u.cps.toList v.cps.toList) (hp : ss'.Perm ss) (hs : sortedS ss' = true) : ss' = ss := by
  have h1 : ss'.Pairwise fun u v => ¬ ltW v.cps.toList u.cps.toList := by
    cases ss' with
    | nil => exact .nil
    | cons x l => exact rising_pw l x hs
  have h2 : ss.Pairwise fun u v => ¬ ltW v.cps.toList u.cps.toList := h.imp fun z => lt_asym _ _ z
  refine List.Perm.eq_of_pairwise (fun u v _ _ p q => ?_) h1 h2 hp
  have e := lt_tri u.cps.toList v.cps.toList q p
  cases u; cases v
  simp only [Str.mk.injEq]
  exact Array.ext' e
theorem lt_snoc : ∀ (u v : List Nat) (c d : Nat), u.length = v.length → ltW u v → ltW (u ++ [c]) (v ++ [d])
  | [], _, _, _, hl, h => by
    have : ∀ v : List Nat, v.length = 0 → v = [] := fun v hv => List.eq_nil_of_length_eq_zero hv
    rw [this _ hl.symm] at h
    exact absurd h lt_nil
  | x :: u, [], _, _, hl, _ => by simp at hl
  | x :: u, y :: v, c, d, hl, h => by
    show ltW (x :: (u ++ [c])) (y :: (v ++ [d]))
    rw [lt_cons] at *
    rcases h with h | ⟨h, h'⟩
    · exact .inl h
    · exact .inr ⟨h, lt_snoc u v c d (by simpa using hl) h'⟩
theorem lt_last : ∀ (u : List Nat) (c d : Nat), c < d → ltW (u ++ [c]) (u ++ [d])
  | [], c, d, h => lt_cons.mpr (.inl h)
  | x :: u, c, d, h => lt_cons.mpr (.inr ⟨rfl, lt_last u c d h⟩)
theorem ext_asc {n : Nat} : ∀ l : List (List Nat), l.Pairwise ltW → (∀ w ∈ l, w.length = n) → (l.flatMap extW).Pairwise ltW ∧ ∀ w ∈ l.flatMap extW, w.length = n + 1
  | [], _, _ => ⟨.nil, fun w hw => by simp at hw⟩
  | u :: l, h, hl => by
    obtain ⟨h1, h2⟩ := List.pairwise_cons.mp h
    obtain ⟨i1, i2⟩ := ext_asc l h2 fun w hw => hl w (List.mem_cons_of_mem _ hw)
    have ul := hl u List.mem_cons_self
    have eu : ∀ x ∈ extW u, ∃ c, x = u ++ [c] := fun x hx => by
      unfold extW at hx
      simp only [List.mem_cons, List.not_mem_nil, or_false] at hx
      rcases hx with rfl | rfl | rfl <;> exact ⟨_, rfl⟩
    rw [List.flatMap_cons]
    refine ⟨List.pairwise_append.mpr ⟨?_, i1, fun x hx y hy => ?_⟩, fun w hw => ?_⟩
    · unfold extW
      simp only [List.pairwise_cons, List.mem_cons, List.not_mem_nil, or_false]
      refine ⟨fun x hx => ?_, fun x hx => ?_, fun x hx => hx.elim, .nil⟩
      · rcases hx with rfl | rfl
        · exact lt_last u _ _ (by decide)
        · exact lt_last u _ _ (by decide)
      · subst hx; exact lt_last u _ _ (by decide)
    · obtain ⟨c, rfl⟩ := eu x hx
      obtain ⟨v, hv, hy⟩ := List.mem_flatMap.mp hy
      have ev : ∃ d, y = v ++ [d] := by
        unfold extW at hy
        simp only [List.mem_cons, List.not_mem_nil, or_false] at hy
        rcases hy with rfl | rfl | rfl <;> exact ⟨_, rfl⟩
      obtain ⟨d, rfl⟩ := ev
      exact lt_snoc u v c d (by rw [ul, hl v (List.mem_cons_of_mem _ hv)]) (h1 v hv)
    · rcases List.mem_append.mp hw with hw | hw
      · obtain ⟨c, rfl⟩ := eu w hw
        simp [ul]
      · exact i2 w hw
def eS (w : List Nat) : Bool := decide (w.getLast? = some 115)
theorem nodup_mapW {f : List Nat → List Nat} : ∀ l : List (List Nat), l.Nodup → (∀ x ∈ l, ∀ y ∈ l, f x = f y → x = y) → (l.map f).Nodup
  | [], _, _ => by simp
  | x :: l, h, inj => by
    obtain ⟨h1, h2⟩ := List.nodup_cons.mp h
    rw [List.map_cons, List.nodup_cons]
    refine ⟨fun hm => ?_, nodup_mapW l h2 fun u hu v hv => inj u (List.mem_cons_of_mem _ hu) v (List.mem_cons_of_mem _ hv)⟩
    obtain ⟨y, hy, e⟩ := List.mem_map.mp hm
    exact h1 (inj y (List.mem_cons_of_mem _ hy) x List.mem_cons_self e ▸ hy)
theorem nodup_ofMap {f : List Nat → Nat} : ∀ l : List (List Nat), (l.map f).Nodup → l.Nodup
  | [], _ => by simp
  | x :: l, h => by
    obtain ⟨h1, h2⟩ := List.nodup_cons.mp (show (f x :: l.map f).Nodup from h)
    exact List.nodup_cons.mpr ⟨fun hm => h1 (List.mem_map.mpr ⟨x, hm, rfl⟩), nodup_ofMap l h2⟩
section
variable {a b : List Nat}
theorem grow_le {ds r l : List (List Nat)} {i : Nat} (t : Tbl a b) (s : WSt a b ds i) (hl : ∀ j w, l[j]? = some w → ds[i + j]? = some w) (e : runW a b ds (l.flatMap extW) = ds ++ r) (sub : r.Sublist (l.flatMap extW)) (s' : WSt a b (ds ++ r) (i + l.length)) (ne : ∀ u ∈ l, u ≠ []) :
    (r.filter eS).length ≤ (l.filter fun w => !eS w).length ∧ (r.filter fun w => !eS w).length ≤ 2 * (l.filter eS).length := by
  have nd := s'.nd
  rw [List.map_append, List.nodup_append] at nd
  have rn : r.Nodup := nodup_ofMap r nd.2.1
  have new : ∀ w ∈ r, ∀ u ∈ ds, plW a b u ≠ plW a b w := fun w hw u hu e => nd.2.2 _ (List.mem_map.mpr ⟨u, hu, rfl⟩) _ (List.mem_map.mpr ⟨w, hw, rfl⟩) e
  have newf : ∀ w ∈ r, ¬ fnd a b ds (plW a b w) = true := fun w hw h => by
    obtain ⟨u, h1, h2⟩ := fnd_iff.mp h
    exact new w hw u h1 h2
  have mem : ∀ w ∈ r, ∃ u c, u ∈ l ∧ w = u ++ [c] ∧ isLet c := fun w hw => by
    obtain ⟨u, hu, hw⟩ := List.mem_flatMap.mp (sub.subset hw)
    unfold extW at hw
    simp only [List.mem_cons, List.not_mem_nil, or_false] at hw
    rcases hw with rfl | rfl | rfl
    · exact ⟨u, 113, hu, rfl, .inr (.inr rfl)⟩
    · exact ⟨u, 114, hu, rfl, .inr (.inl rfl)⟩
    · exact ⟨u, 115, hu, rfl, .inl rfl⟩
  have lds : ∀ u ∈ l, u ∈ ds := fun u hu => by
    obtain ⟨j, hj⟩ := List.getElem?_of_mem hu
    exact List.mem_of_getElem? (hl j u hj)
  have alt : ∀ u c, u ∈ l → u ++ [c] ∈ r → isLet c → (eS u = true ↔ c ≠ 115) := fun u c hu hr hc => by
    obtain ⟨v, d, rfl, hd, j, hj, hv⟩ := s.from_ u (lds u hu) (ne u hu)
    have e1 : eS (v ++ [d]) = decide (d = 115) := by unfold eS; simp
    rw [e1]
    cases q : pairW d c with
    | none =>
      have := pair_none hd hc q
      simp only [decide_eq_true_eq]
      exact this
    | some w =>
      exfalso
      have pl : plW a b (v ++ [d] ++ [c]) = plW a b (v ++ w) := by
        unfold plW
        rw [lw_snoc, lw_snoc, lw_app]
        exact lp_pair t.ok q (lw_lt t.ok t.pos v)
      obtain ⟨_, _, hw⟩ := pair_eqv q
      refine newf _ hr ?_
      rw [pl]
      rcases hw with rfl | ⟨y, rfl, hy, _⟩
      · rw [List.append_nil]
        exact fnd_iff.mpr ⟨v, List.mem_of_getElem? hv, rfl⟩
      · exact s.on j v y hj hv hy
  constructor
  · have := nodup_le ((r.filter eS).map List.dropLast) (l.filter fun w => !eS w) (nodup_mapW _ (rn.filter _) fun x hx y hy e => ?_) fun p hp => ?_
    · simpa using this
    · obtain ⟨hx1, hx2⟩ := List.mem_filter.mp hx
      obtain ⟨hy1, hy2⟩ := List.mem_filter.mp hy
      obtain ⟨u, c, _, rfl, _⟩ := mem x hx1
      obtain ⟨v, d, _, rfl, _⟩ := mem y hy1
      unfold eS at hx2 hy2
      simp at hx2 hy2 e
      rw [hx2, hy2, e]
    · obtain ⟨x, hx, rfl⟩ := List.mem_map.mp hp
      obtain ⟨hx1, hx2⟩ := List.mem_filter.mp hx
      obtain ⟨u, c, hu, rfl, hc⟩ := mem x hx1
      have hc5 : c = 115 := by unfold eS at hx2; simpa using hx2
      rw [List.dropLast_concat, List.mem_filter]
      refine ⟨hu, ?_⟩
      have := alt u c hu hx1 hc
      cases q : eS u with
      | false => rfl
      | true => exact absurd hc5 (this.mp q)
  · have := nodup_le (r.filter fun w => !eS w) ((l.filter eS).flatMap fun u => [u ++ [113], u ++ [114]]) (rn.filter _) fun p hp => ?_
    · have le : ∀ m : List (List Nat), (m.flatMap fun u => [u ++ [113], u ++ [114]]).length = 2 * m.length := fun m => by
        induction m with
        | nil => rfl
        | cons x m ih => rw [List.flatMap_cons, List.length_append, ih]; simp; omega
      rw [le] at this
      exact this
    · obtain ⟨hx1, hx2⟩ := List.mem_filter.mp hp
      obtain ⟨u, c, hu, rfl, hc⟩ := mem p hx1
      have hc5 : c ≠ 115 := by unfold eS at hx2; simpa using hx2
      refine List.mem_flatMap.mpr ⟨u, List.mem_filter.mpr ⟨hu, (alt u c hu hx1 hc).mpr hc5⟩, ?_⟩
      rcases hc with z | z | z
      · exact absurd z hc5
      · subst z; simp
      · subst z; simp
theorem split_len (l : List (List Nat)) : (l.filter eS).length + (l.filter fun w => !eS w).length = l.length := by
  induction l with
  | nil => rfl
  | cons x r ih => cases q : eS x <;> simp [q] <;> omega
structure Lay (a b : List Nat) (i : Nat) (l : List (List Nat)) : Prop where
  st : WSt a b (prc a b i) i
  row : l = (prc a b i).drop i
  one : ∃ n, ∀ w ∈ l, w.length = n
  asc : l.Pairwise ltW
  cnt : (i = 0) ∨ ((∀ w ∈ l, w ≠ []) ∧ 4 * (l.filter eS).length + 3 * (l.filter fun w => !eS w).length ≤ (prc a b i).length + 6)
theorem lay0 : Lay a b 0 [[]] := ⟨wst0, rfl, ⟨0, fun w hw => by rw [List.mem_singleton.mp hw]; rfl⟩, by simp, .inl rfl⟩
theorem Lay.few {i : Nat} {l : List (List Nat)} (L : Lay a b i l) : 3 * l.length ≤ (prc a b i).length + 6 := by
  rcases L.cnt with z | ⟨_, z⟩
  · subst z
    have := L.row
    subst this
    simp [prc]
  · have := split_len l
    omega
theorem Lay.at {i : Nat} {l : List (List Nat)} (L : Lay a b i l) : ∀ j w, l[j]? = some w → (prc a b i)[i + j]? = some w := fun j w h => by
  rw [L.row, List.getElem?_drop] at h
  exact h
theorem Lay.end_ {i : Nat} {l : List (List Nat)} (L : Lay a b i l) : i + l.length = (prc a b i).length := by
  have := L.st.il
  rw [L.row, List.length_drop]; omega
theorem Lay.next {i : Nat} {l : List (List Nat)} (t : Tbl a b) (L : Lay a b i l) : Lay a b (i + l.length) ((prc a b (i + l.length)).drop (i + l.length)) ∧ prc a b (i + l.length) = runW a b (prc a b i) (l.flatMap extW) := by
  have e := prc_row l i L.at
  have s' := wst_run L.st L.at
  obtain ⟨r, er, sub⟩ := run_pre (a := a) (b := b) (l.flatMap extW) (prc a b i)
  obtain ⟨n, hn⟩ := L.one
  obtain ⟨x1, x2⟩ := ext_asc l L.asc hn
  have dr : (prc a b (i + l.length)).drop (i + l.length) = r := by rw [e, er, L.end_]; simp
  rw [← e] at s'
  refine ⟨⟨s', rfl, ⟨n + 1, fun w hw => x2 w (sub.subset (dr ▸ hw))⟩, dr ▸ x1.sublist sub, ?_⟩, e⟩
  rw [dr]
  right
  have ne : ∀ w ∈ r, w ≠ [] := fun w hw z => by
    have := x2 w (sub.subset hw)
    rw [z] at this
    simp at this
  refine ⟨ne, ?_⟩
  have sl := split_len r
  rw [e, er, List.length_append]
  rcases L.cnt with z | ⟨z1, z2⟩
  · subst z
    have hr := L.row
    have : l = [[]] := hr
    subst this
    have nd : r.Nodup := by
      have := s'.nd
      rw [e, er, List.map_append, List.nodup_append] at this
      exact nodup_ofMap r this.2.1
    have r3 : ∀ w ∈ r, w = [113] ∨ w = [114] ∨ w = [115] := fun w hw => by
      have := sub.subset hw
      simpa [extW] using this
    have h1 := nodup_le (r.filter eS) [[115]] (nd.filter _) fun p hp => by
      obtain ⟨q1, q2⟩ := List.mem_filter.mp hp
      rcases r3 p q1 with rfl | rfl | rfl
      · exact absurd q2 (by decide)
      · exact absurd q2 (by decide)
      · simp
    have h2 := nodup_le (r.filter fun w => !eS w) [[113], [114]] (nd.filter _) fun p hp => by
      obtain ⟨q1, q2⟩ := List.mem_filter.mp hp
      rcases r3 p q1 with rfl | rfl | rfl
      · simp
      · simp
      · exact absurd q2 (by decide)
    simp [prc] at h1 h2 ⊢
    omega
  · rw [e, er] at s'
    obtain ⟨g1, g2⟩ := grow_le t L.st L.at er sub s' z1
    omega
end
end KR
set_option Elab.async false
set_option linter.all false
set_option maxRecDepth 100000
set_option maxHeartbeats 8000000
namespace KR
open PySem L2 L2.L3 K55 PyProof.Rows
def strsW (l : List (List Nat)) : List D := l.map strW
def pWds (t : D) (Q : D → Prop) : Prop := ∃ a b : List Nat, t = tabD a b ∧ Tbl a b ∧ a.length ≤ 58 ∧ ∀ i : Nat, WSt a b (prc a b i) i → Q (.obj (DicN (dicW a b (prc a b i))))
def f_law_words : Fw := F1 pWds
theorem strW_len (w : List Nat) : (⟨w.toArray⟩ : Str).length = w.length := by show w.toArray.size = _; simp
theorem strW_cps (w : List Nat) : (⟨w.toArray⟩ : Str).cps.toList = w := by simp
def t_law_words_3 : TS3 := (dFreezeN 1 (dRet (cVar 1)))
def t_law_words_2_4 : TS3 := (dFreeze 3 (dSet 2 (cVar 3)))
def t_law_words_2_3 : TS3 := (dSeq (dFor (cCall sortedF (cCons (cVar 4) cNil)) (kName 6) (dSeq (dSet 7 (cCall f_law_led (cCons (cVar 0) (cCons (cC (.int 0)) (cCons (cVar 6) cNil))))) (dIf (cInDic true 1 (cVar 7)) (dSeq (dDicPut 1 (cVar 7) (cVar 6)) (dAppend 3 (cVar 6))) dNext))) t_law_words_2_4)
def t_law_words_2_2 : TS3 := (dSeq (dFor (cVar 2) (kName 5) (dSet 4 (cOp addD (cVar 4) (cFresh (cComp [5] (cC (.str "qrs")) cTrue (cOp addD (cVar 1) (cVar 0))))))) t_law_words_2_3)
def t_law_words : TS3 := (dSeq (dDicOne 1 (cC (.int 0)) (cC (.str ""))) (dSeq (dSet 2 (cLst (cCons (cC (.str "")) cNil))) (dSeq (dWhile (cTest (cOp ltD (cLenDic 1) (cCall lenF (cCons (cOp ixD (cVar 0) (cC (.int 0))) cNil)))) (dSeq (dSetOwn 3 (cFew cNil)) (dSeq (dSet 4 (cLst cNil)) t_law_words_2_2))) t_law_words_3)))
theorem len_law_words : ∀ ds Q, f_law_words ds Q → ds.length = 1 := lenF1
theorem ob_law_words : ∀ ds (Q : D → Prop), f_law_words ds Q → t_law_words { nx := fun _ => Q .non, rt := Q } (start3 ["_law_table_here", "_law_words_here", "_law_layer", "_law_later", "_law_some", "_law_here", "_law_word", "_law_place"] ds) := by
  rintro ds Q ⟨x, rfl, a, b, rfl, tab, la, h⟩
  have sz := PySem.sizeLine_eq
  have le := tab.ok.len
  simp_arith only [t_law_words, dDicOne, dWhile]
  refine ⟨fun e => ∃ (i : Nat) (l : List (List Nat)) (k3 k4 k5 k6 k7 : Option Lo), Lay a b i l ∧ e = [some (.d (tabD a b)), some (.dic (dicW a b (prc a b i))), some (.d (.lst (strsW l))), k3, k4, k5, k6, k7],
    fun e => match e with | [_, some (.dic kvs), _, _, _, _, _, _] => 58 - kvs.length | _ => 0, ⟨0, [[]], _, _, _, _, _, lay0, rfl⟩, ?_⟩
  rintro env ⟨i, l, k3, k4, k5, k6, k7, L, rfl⟩
  have s := L.st
  have few := wst_few tab s
  have dlen : (dicW a b (prc a b i)).length = (prc a b i).length := by simp [dicW]
  have nl : (natsD a).length = a.length := by simp [natsD]
  simp_arith only [cLenDic, Lo.dic.injEq, tabD, ixt0, dlen, nl]
  by_cases c : ((prc a b i).length : Int) < (a.length : Int)
  · rw [if_pos c]
    have l3 := L.few
    obtain ⟨n, hn⟩ := L.one
    obtain ⟨x1, x2⟩ := ext_asc l L.asc hn
    have fl : ∀ m : List (List Nat), (m.flatMap extW).length = 3 * m.length := fun m => by
      induction m with
      | nil => rfl
      | cons x m ih => rw [List.flatMap_cons, List.length_append, ih]; simp [extW]; omega
    have wlen : ∀ w ∈ l, w.length ≤ 100 := fun w hw => by
      obtain ⟨j, hj⟩ := List.getElem?_of_mem hw
      have h1 := L.at j w hj
      have h2 := s.lj _ w h1
      have h3 := (List.getElem?_eq_some_iff.mp h1).1
      omega
    have wlet : ∀ w ∈ l, ∀ c ∈ w, isLet c := fun w hw => by
      obtain ⟨j, hj⟩ := List.getElem?_of_mem hw
      exact s.let_ w (List.mem_of_getElem? (L.at j w hj))
    simp_arith only [t_law_words_2_2]
    refine turns_of (fun j e => ∃ k5, e = [some (.d (tabD a b)), some (.dic (dicW a b (prc a b i))), some (.d (.lst (strsW l))), some (.own []), some (.d (.lst (strsW ((l.take j).flatMap extW)))), k5, k6, k7]) ?_ ?_ ⟨k5, rfl⟩
    · rintro j x env N hx ⟨k5, rfl⟩ hN
      unfold strsW at hx
      rw [List.getElem?_map] at hx
      obtain ⟨w, hw, rfl⟩ := Option.map_eq_some_iff.mp hx
      have hwm := List.mem_of_getElem? hw
      have wl := wlen w hwm
      simp_arith only [itemsD]
      have sg : signsD (Str.ofString "qrs") = [113, 114, 115].map fun c => D.str (sgnS c) := rfl
      rw [sg]
      refine comps_map (fun x => match x with | .str z => .str (⟨w.toArray⟩ ++ z) | x => x) _ _ (fun x hx N2 hN2 => ?_) (by simp [sz]) ?_
      · obtain ⟨c, _, rfl⟩ := List.mem_map.mp hx
        simp_arith only [capE, strW]
        exact ⟨by rw [strW_len, show (sgnS c).length = 1 from rfl]; omega, hN2⟩
      · have ex : ([] ++ List.map (fun x => match x with | .str z => .str (⟨w.toArray⟩ ++ z) | x => x) (List.map (fun c => D.str (sgnS c)) [113, 114, 115])) = strsW (extW w) := by
          have ap : ∀ c, (⟨w.toArray⟩ : Str) ++ sgnS c = ⟨(w ++ [c]).toArray⟩ := fun c => by
            show (⟨w.toArray ++ #[c]⟩ : Str) = _
            simp
          simp [strsW, extW, strW, ap]
        rw [ex]
        have tl := fl (l.take j)
        have tl2 : (l.take j).length ≤ l.length := by simp; omega
        refine ⟨by simp only [strsW, List.length_map]; rw [tl]; simp [extW]; omega, hN _ ⟨some (.d (strW w)), ?_⟩⟩
        rw [List.take_succ, hw]
        simp [strsW]
    · rintro env ⟨k5, rfl⟩
      rw [List.take_of_length_le (by simp [strsW])]
      simp_arith only [t_law_words_2_3]
      have fll := fl l
      have bound : 3 * l.length < 64 := by omega
      generalize hE : l.flatMap extW = E at *
      refine ⟨E.map fun w => ⟨w.toArray⟩, by simp [strsW, strW], by rw [List.length_map]; omega, fun ss' hp hs => ?_⟩
      have same : ss' = E.map fun w => (⟨w.toArray⟩ : Str) := sorted_same (List.pairwise_map.mpr (x1.imp fun {u v} z => by rw [strW_cps, strW_cps]; exact z)) hp hs
      subst same
      obtain ⟨nx, ep⟩ := L.next tab
      rw [hE] at ep
      have sn := nx.st
      obtain ⟨r0, er0, _⟩ := run_pre (a := a) (b := b) E (prc a b i)
      refine ⟨_, rfl, ?_⟩
      refine turns_of (fun j e => ∃ k6 k7, e = [some (.d (tabD a b)), some (.dic (dicW a b (runW a b (prc a b i) (E.take j)))), some (.d (.lst (strsW l))), some (.own (strsW ((runW a b (prc a b i) (E.take j)).drop (prc a b i).length))), some (.d (.lst (strsW E))), k5, k6, k7]) ?_ ?_ ⟨k6, k7, by simp [runW, strsW]⟩
      · rintro j x env N hx ⟨k6, k7, rfl⟩ hN
        rw [List.map_map, List.getElem?_map] at hx
        obtain ⟨w, hw, rfl⟩ := Option.map_eq_some_iff.mp hx
        have hwE := List.mem_of_getElem? hw
        have wl := x2 w hwE
        have wll : w.length ≤ 101 ∧ ∀ c ∈ w, isLet c := by
          rw [← hE] at hwE
          obtain ⟨u, hu, hx⟩ := List.mem_flatMap.mp hwE
          unfold extW at hx
          simp only [List.mem_cons, List.not_mem_nil, or_false] at hx
          have := wlen u hu
          have ul := wlet u hu
          have go : ∀ c, isLet c → ∀ d ∈ u ++ [c], isLet d := fun c hc d hd => (List.mem_append.mp hd).elim (ul d) fun z => by rw [List.mem_singleton.mp z]; exact hc
          rcases hx with rfl | rfl | rfl
          · exact ⟨by simp; omega, go _ (.inr (.inr rfl))⟩
          · exact ⟨by simp; omega, go _ (.inr (.inl rfl))⟩
          · exact ⟨by simp; omega, go _ (.inl rfl)⟩
        have tk : E.take (j + 1) = E.take j ++ [w] := by rw [List.take_succ, hw]; rfl
        have rn : runW a b (prc a b i) (E.take (j + 1)) = addW a b (runW a b (prc a b i) (E.take j)) w := by rw [tk, run_app]; rfl
        have nd := run_nd (a := a) (b := b) (E.take j) (prc a b i) s.nd
        obtain ⟨r, er, _⟩ := run_pre (a := a) (b := b) (E.take j) (prc a b i)
        have dl : (prc a b i).length ≤ (runW a b (prc a b i) (E.take j)).length := by rw [er]; simp
        have fewD : (runW a b (prc a b i) (E.take j)).length ≤ a.length := by
          have := nodup_le ((runW a b (prc a b i) (E.take j)).map (plW a b)) (List.range a.length) nd fun p hp => by
            obtain ⟨w', _, rfl⟩ := List.mem_map.mp hp
            exact List.mem_range.mpr (lw_lt tab.ok tab.pos w')
          simpa using this
        generalize runW a b (prc a b i) (E.take j) = G at *
        simp_arith only [f_law_led_eq, Function.comp]
        refine ⟨a, b, ⟨w.toArray⟩, 0, rfl, rfl, rfl, tab.ok, tab.pos, fun c hc => wll.2 c (by rwa [strW_cps] at hc), by rw [strW_len]; omega, ?_⟩
        rw [strW_cps, show lw a b w 0 = plW a b w from rfl]
        simp_arith only [cInDic, Lo.dic.injEq, dDicPut]
        refine ⟨by simp [keyN], by simp [dep], dic_ok nd, ?_⟩
        rw [dic_any]
        by_cases cb : fnd a b G (plW a b w) = true
        · rw [cb]
          simp_arith only [and_true]
          refine hN _ ⟨some (.d (strW w)), some (.d (.int ((plW a b w : Nat) : Int))), ?_⟩
          rw [rn, add_old cb]
          rfl
        · have cb' := Bool.eq_false_iff.mpr cb
          rw [cb']
          simp_arith only [and_true]
          have dlG : (dicW a b G).length = G.length := by simp [dicW]
          refine ⟨by simp [keyN], by simp [dep], dic_ok nd, by omega, by simp [strsW]; omega, hN _ ⟨some (.d (strW w)), some (.d (.int ((plW a b w : Nat) : Int))), ?_⟩⟩
          rw [rn, add_new cb', ← dic_put cb', List.drop_append_of_le_length (by omega)]
          simp [strsW, strW]
      · rintro env ⟨k6, k7, rfl⟩
        rw [List.take_of_length_le (by simp)]
        simp_arith only [t_law_words_2_4]
        rw [← ep]
        refine ⟨⟨i + l.length, (prc a b (i + l.length)).drop (i + l.length), _, _, _, _, _, nx, rfl, by rw [L.end_], rfl, rfl, rfl, rfl, rfl⟩, ?_⟩
        have few2 := wst_few tab sn
        have l1 : (prc a b i).length ≤ (prc a b (i + l.length)).length := by rw [ep, er0]; simp
        have l2 : (prc a b i).length ≠ (prc a b (i + l.length)).length := fun z => by
          have e2 : i + l.length = (prc a b (i + l.length)).length := L.end_.trans z
          have s2 : WSt a b (prc a b (i + l.length)) (prc a b (i + l.length)).length := by rw [← e2]; exact sn
          have := nodup_le (List.range a.length) ((prc a b (i + l.length)).map (plW a b)) List.nodup_range fun p hp => by
            obtain ⟨w, h1, h2⟩ := fnd_iff.mp (wst_all tab s2 (List.mem_range.mp hp))
            exact List.mem_map.mpr ⟨w, h1, h2⟩
          rw [List.length_range, List.length_map] at this
          omega
        simp only [dicW, List.length_map]
        omega
  · rw [if_neg c]
    simp_arith only [t_law_words_3, dFreezeN, Lo.dic.injEq]
    exact h i s
theorem len_law : ∀ ds Q, fLaw 63 ds Q → ds.length = 1 := by rintro ds Q ⟨ns, rfl, _⟩; rfl
theorem neF_sV {z z' : Str} {Q : D → Prop} : neF (.str z) (.str z') Q = Q (.bl (!(z == z'))) := by
  unfold neF DepOk; simp only [dep, eqD, Nat.zero_le, and_self, true_and]
def t_law_0_4 : TS3 := (dForDicN (cVar 4) (kName 5) (dSeq (dSet 6 (cCall f_word_to (cCons (cVar 3) (cCons (cVar 5) cNil)))) (dIf (cOr (cNot (cTest (cIsi "str" (cVar 6)))) (cTest (cOp neF (cVar 6) (cOp dgN (cVar 4) (cVar 5))))) (dRet (cC (.bl false))) dNext)))
def t_law_0_2 : TS3 := (dSeq (dSet 3 (cCall f_law_anew (cCons (cOp ixD (cVar 3) (cC (.int 0))) (cCons (cOp ixD (cVar 3) (cC (.int 1))) (cCons (cCall f_law_digit (cCons (cVar 2) (cCons (cCall lenF (cCons (cOp ixD (cVar 3) (cC (.int 0))) cNil)) cNil))) cNil))))) (dSeq (dSet 4 (cCall f_law_words (cCons (cVar 3) cNil))) t_law_0_4))
def t_law : TS3 := (dSeq (dForR rng1 (cCons (cCall maxF (cCons (cC (.int 1)) (cCons (cCall minF (cCons (cC (.int 4)) (cCons (cCall lenF (cCons (cVar 0) cNil)) cNil))) cNil))) cNil) (kName 1) (dSeq (dRestNew 2 (cCall f_law_big (cCons (cVar 0) (cCons (cVar 1) cNil)))) (dSeq (dSet 3 (cCall f_law_table (cCons (cCall f_law_fan (cCons (cVar 2) (cCons (cC (.int 7)) (cCons (cC (.int 16)) cNil)))) cNil))) t_law_0_2))) (dRet (cC (.bl true))))
theorem ob_law : ∀ ds (Q : D → Prop), fLaw 63 ds Q → t_law { nx := fun _ => Q .non, rt := Q } (start3 ["_law_script", "_law_k", "_law_rest", "_law_table_here", "_law_words_here", "_law_place", "_law_found"] ds) := by
  rintro ds Q ⟨ns, rfl, hl, h⟩
  have sz := PySem.sizeLine_eq
  simp_arith only [t_law, List.length_map]
  refine ⟨by omega, by omega, ?_⟩
  refine turns_of (fun _ e => ∃ k1 k2 k3 k4 k5 k6, e = [some (.d (.lst (ns.map D.int))), k1, k2, k3, k4, k5, k6]) ?_ ?_ ⟨_, _, _, _, _, _, rfl⟩
  · rintro i x env N hx ⟨k1, k2, k3, k4, k5, k6, rfl⟩ hN
    have hi := (List.getElem?_eq_some_iff.mp hx).1
    have hxe : x = .int (0 + (i : Int)) := by
      unfold intsD at hx
      rw [List.getElem?_map] at hx
      simp [intsD] at hi
      rw [List.getElem?_range (by omega)] at hx
      cases hx; rfl
    subst hxe
    have hi2 : i < 4 := by simp [intsD] at hi; omega
    simp_arith only [dRestNew, f_law_big, f_law_fan, f_law_table, F1_eq, F2_eq, F3_eq, pBig, pFanR, pTabR]
    refine ⟨ns, _, rfl, rfl, by omega, by omega, fun r => ⟨7, 16, rfl, rfl, by omega, by omega, by omega, by omega, fun fs ms hf hfl => ?_⟩⟩
    refine ⟨fs, ms, rfl, hf, fun a0 b0 t0 sm0 la0 ln0 => ?_⟩
    have nl : (natsD a0).length = a0.length := by simp [natsD]
    simp_arith only [t_law_0_2, ixt0, ixt1, f_law_digit, f_law_anew, F2_eq, F3_eq, lenF_t, nl]
    have p0 := t0.pos
    refine ⟨(a0.length : Int), rfl, rfl, by omega, by omega, fun d d0 d1 => ?_⟩
    obtain ⟨k, rfl⟩ := Int.eq_ofNat_of_zero_le d0
    have hk : k < a0.length := by omega
    refine anew_row t0 la0 hk ?_
    obtain ⟨t, l1⟩ := t0.anew la0 hk
    generalize anewA a0 b0 k = a at *
    generalize anewB a0 b0 k = b at *
    simp only [f_law_words, F1_eq]
    refine ⟨a, b, rfl, t, by omega, fun m s => ?_⟩
    simp_arith only [t_law_0_4, dForDicN]
    refine ⟨_, rfl, ?_⟩
    refine turns_of (fun _ e => ∃ k5 k6, e = [some (.d (.lst (ns.map D.int))), some (.d (.int (0 + (i : Int)))), some (.d (.obj RestP)), some (.d (tabD a b)), some (.d (.obj (DicN (dicW a b (prc a b m))))), k5, k6]) ?_ ?_ ⟨k5, k6, rfl⟩
    · rintro j x env N2 hx ⟨k5, k6, rfl⟩ hN2
      unfold dicW at hx
      rw [List.map_map, List.getElem?_map] at hx
      obtain ⟨w, hw, rfl⟩ := Option.map_eq_some_iff.mp hx
      have hwm := List.mem_of_getElem? hw
      simp_arith only [f_word_to, F2_eq, Function.comp, entW]
      refine ⟨a, b, plW a b w, rfl, rfl, t, by omega, lw_lt t.ok t.pos w, fun v hv => ?_⟩
      have e : v = w := fw_one hv ⟨m, hwm, rfl, s⟩
      subst e
      simp only [strW]
      refine isi_str (by simp [Pl, kdD]) ⟨_, rfl, ?_⟩
      rw [if_neg (by simp [isStr])]
      refine ⟨_, _, rfl, by simp [keyN], by simp [dep], dic_ok s.nd, dic_get s.nd hwm, ?_⟩
      show neF (D.str _) (D.str _) _
      rw [neF_sV]
      refine ⟨_, rfl, ?_⟩
      rw [if_neg (by simp)]
      exact hN2 _ ⟨_, _, rfl⟩
    · rintro env ⟨k5, k6, rfl⟩
      exact hN _ ⟨_, _, _, _, _, _, rfl⟩
  · rintro env ⟨k1, k2, k3, k4, k5, k6, rfl⟩
    simp_arith only [and_true]
    exact h
end KR
set_option Elab.async false
set_option linter.all false
set_option maxRecDepth 100000
set_option maxHeartbeats 8000000
namespace KR
open PySem L2 L2.L3
open K55
def top (i : Nat) : Stmt := PySem.Challenge.pw_fanglue_k31_first_words.main.body.getD i (.Pass ⟨0, 0, 0, 0⟩)
abbrev s_place_behind : Stmt := top 1
abbrev s_word_to : Stmt := top 2
abbrev s_law_cell_at : Stmt := top 4
abbrev s_law_big : Stmt := top 5
abbrev s_law_digit : Stmt := top 6
abbrev s_law_fractions : Stmt := top 7
abbrev s_law_marks : Stmt := top 8
abbrev s_law_fan : Stmt := top 9
abbrev s_law_tiles : Stmt := top 10
abbrev s_law_gaps : Stmt := top 11
abbrev s_law_links : Stmt := top 12
abbrev s_law_anew : Stmt := top 13
abbrev s_law_table : Stmt := top 14
abbrev s_law_led : Stmt := top 15
abbrev s_law_words : Stmt := top 16
abbrev s_law : Stmt := top 17
structure Txt (mg : Str → Option Value) : Prop where
  abs : mg "abs" = none
  enumerate : mg "enumerate" = none
  int : mg "int" = none
  isinstance : mg "isinstance" = none
  len : mg "len" = none
  list : mg "list" = none
  max : mg "max" = none
  min : mg "min" = none
  range : mg "range" = none
  sorted : mg "sorted" = none
  str : mg "str" = none
  tuple : mg "tuple" = none
theorem sc_place_behind : FnScope ["table", "place", "letter", "halves", "thirds", "behind"] ["table", "place", "letter"] (defScope s_place_behind) := ⟨rfl, rfl, rfl, by decide +kernel, rfl, by decide +kernel, by decide +kernel⟩
theorem sc_word_to : FnScope ["table", "place", "words", "met", "here", "letter", "behind"] ["table", "place"] (defScope s_word_to) := ⟨rfl, rfl, rfl, by decide +kernel, rfl, by decide +kernel, by decide +kernel⟩
theorem sc_law_cell_at : FnScope ["_law_script", "_law_k"] ["_law_script", "_law_k"] (defScope s_law_cell_at) := ⟨rfl, rfl, rfl, by decide +kernel, rfl, by decide +kernel, by decide +kernel⟩
theorem sc_law_big : FnScope ["_law_script", "_law_at", "_law_by", "_law_prime", "_law_cell", "_law_big_here", "_law_k", "_law_one"] ["_law_script", "_law_at"] (defScope s_law_big) := ⟨rfl, rfl, rfl, by decide +kernel, rfl, by decide +kernel, by decide +kernel⟩
theorem sc_law_digit : FnScope ["_law_rest", "_law_many", "_law_digit_here"] ["_law_rest", "_law_many"] (defScope s_law_digit) := ⟨rfl, rfl, rfl, by decide +kernel, rfl, by decide +kernel, by decide +kernel⟩
theorem sc_law_fractions : FnScope ["_law_rest", "_law_many", "_law_row", "_law_k", "_law_at"] ["_law_rest", "_law_many"] (defScope s_law_fractions) := ⟨rfl, rfl, rfl, by decide +kernel, rfl, by decide +kernel, by decide +kernel⟩
theorem sc_law_marks : FnScope ["_law_rest", "_law_many", "_law_marks_here", "_law_left", "_law_gap", "_law_way", "_law_other"] ["_law_rest", "_law_many"] (defScope s_law_marks) := ⟨rfl, rfl, rfl, by decide +kernel, rfl, by decide +kernel, by decide +kernel⟩
theorem sc_law_fan : FnScope ["_law_rest", "_law_most", "_law_great", "_law_many"] ["_law_rest", "_law_most", "_law_great"] (defScope s_law_fan) := ⟨rfl, rfl, rfl, by decide +kernel, rfl, by decide +kernel, by decide +kernel⟩
theorem sc_law_tiles : FnScope ["_law_fractions_here", "_law_row", "_law_tiles_here", "_law_i", "_law_near", "_law_far"] ["_law_fractions_here"] (defScope s_law_tiles) := ⟨rfl, rfl, rfl, by decide +kernel, rfl, by decide +kernel, by decide +kernel⟩
theorem sc_law_gaps : FnScope ["_law_fractions_here"] ["_law_fractions_here"] (defScope s_law_gaps) := ⟨rfl, rfl, rfl, by decide +kernel, rfl, by decide +kernel, by decide +kernel⟩
theorem sc_law_links : FnScope ["_law_fan_here", "_law_fractions_here", "_law_marks_here", "_law_gaps_here", "_law_thirds", "_law_one", "_law_mid", "_law_other", "_law_halves", "_law_i", "_law_mark", "_law_first"] ["_law_fan_here"] (defScope s_law_links) := ⟨rfl, rfl, rfl, by decide +kernel, rfl, by decide +kernel, by decide +kernel⟩
theorem sc_law_anew : FnScope ["_law_halves", "_law_thirds", "_law_first", "_law_met", "_law_at", "_law_behind"] ["_law_halves", "_law_thirds", "_law_first"] (defScope s_law_anew) := ⟨rfl, rfl, rfl, by decide +kernel, rfl, by decide +kernel, by decide +kernel⟩
theorem sc_law_table : FnScope ["_law_fan_here", "_law_halves", "_law_thirds", "_law_first"] ["_law_fan_here"] (defScope s_law_table) := ⟨rfl, rfl, rfl, by decide +kernel, rfl, by decide +kernel, by decide +kernel⟩
theorem sc_law_led : FnScope ["_law_table_here", "_law_place", "_law_word", "_law_letter"] ["_law_table_here", "_law_place", "_law_word"] (defScope s_law_led) := ⟨rfl, rfl, rfl, by decide +kernel, rfl, by decide +kernel, by decide +kernel⟩
theorem sc_law_words : FnScope ["_law_table_here", "_law_words_here", "_law_layer", "_law_later", "_law_some", "_law_here", "_law_word", "_law_place"] ["_law_table_here"] (defScope s_law_words) := ⟨rfl, rfl, rfl, by decide +kernel, rfl, by decide +kernel, by decide +kernel⟩
theorem sc_law : FnScope ["_law_script", "_law_k", "_law_rest", "_law_table_here", "_law_words_here", "_law_place", "_law_found"] ["_law_script"] (defScope s_law) := ⟨rfl, rfl, rfl, by decide +kernel, rfl, by decide +kernel, by decide +kernel⟩
section
variable {P : Program} {w : World} {K : PySem.W.Frag} {mg : Str → Option Value} {base : Heap}
theorem kn_place_behind (F : Df K mg "place_behind" s_place_behind ["table", "place", "letter"]) : Known P w K mg base 1 "place_behind" f_place_behind :=
  have nd := sc_place_behind.nd; F.known sc_place_behind len_place_behind fun fa cdv A outer s H E hr => ⟨t_place_behind, (qss_cons (qs_asg (qv 0) (qg_tup rfl (qgs_cons (qg_name 3 nd) (qgs_cons (qg_name 4 nd) qgs_nil)))) (qss_cons (qs_if (t_eq hr.units (qv 2) qstr) (qss_one (qs_ret (q_ix (qv 3) (qv 1) (fun _ _ => rfl)))) qss_nil) (qss_cons (qs_set 5 nd (q_ix (qv 4) (qv 1) (fun _ _ => rfl))) (qss_cons (qs_if (QW.t (qw_and (t_eq hr.units (qv 2) qstr) (qw_and1 (t_isnN (qv 5) qnon)))) (qss_one (qs_ret (q_ix (qv 4) (qv 5) (fun _ _ => rfl)))) qss_nil) (qss_one (qs_ret (qv 5))))))), ob_place_behind⟩
theorem kn_word_to (F : Df K mg "word_to" s_word_to ["table", "place"]) (k_place_behind : Known P w K mg base 1 "place_behind" f_place_behind) : Known P w K mg base 2 "word_to" f_word_to :=
  have nd := sc_word_to.nd; F.known sc_word_to len_word_to fun fa cdv A outer s H E hr => ⟨t_word_to, (qss_cons (qs_dicOne 2 nd qint qstr) (qss_cons (qs_setOwn 3 nd (qf_lst (qa_cons qint qa_nil))) (qss_cons (qs_while PassesOwn.never (t_ninDic 2 hr.units (qv 1)) (qss_cons (qs_setPop 4 3 nd qint) (qss_one (qs_for PassesOwn.never rfl qstr (qg_name 5 nd) (qss_cons (qs_set 6 nd (q_call k_place_behind (hr.mono (by decide)) (qa_cons (qv 0) (qa_cons (qv 4) (qa_cons (qv 5) qa_nil))))) (qss_one (qs_if (t_ninDic 2 hr.units (qv 6)) (qss_cons (qs_dicPut 2 hr.units (qv 6) (q_add (q_dicGet 2 hr.units (qv 4) (fun _ _ => rfl)) (qv 5))) (qss_one (qs_append 3 (qv 6)))) qss_nil))))))) (qss_one (qs_ret (q_dicGet 2 hr.units (qv 1) (fun _ _ => rfl))))))), ob_word_to⟩
theorem kn_law_cell_at (F : Df K mg "_law_cell_at" s_law_cell_at ["_law_script", "_law_k"]) (T : Txt mg) : Known P w K mg base 1 "_law_cell_at" f_law_cell_at :=
  have nd := sc_law_cell_at.nd; F.known sc_law_cell_at len_law_cell_at fun fa cdv A outer s H E hr => ⟨t_law_cell_at, (qss_cons (qs_if (t_lt (qv 1) (q_len T.len (qa_cons (qv 0) qa_nil))) (qss_one (qs_ret (q_ix (qv 0) (qv 1) (fun _ _ => rfl)))) qss_nil) (qss_one (qs_ret qint))), ob_law_cell_at⟩
theorem kn_law_big (F : Df K mg "_law_big" s_law_big ["_law_script", "_law_at"]) (T : Txt mg) (k_law_cell_at : Known P w K mg base 1 "_law_cell_at" f_law_cell_at) : Known P w K mg base 2 "_law_big" f_law_big :=
  have nd := sc_law_big.nd; F.known sc_law_big len_law_big fun fa cdv A outer s H E hr => ⟨t_law_big, (qss_cons (qs_set 2 nd (qe_tup (qa_cons qint (qa_cons qint (qa_cons qint (qa_cons qint (qa_cons qint (qa_cons qint (qa_cons qint (qa_cons qint qa_nil)))))))))) (qss_cons (qs_set 3 nd (qe_tup (qa_cons qint (qa_cons qint (qa_cons qint (qa_cons qint (qa_cons qint (qa_cons qint (qa_cons qint (qa_cons qint qa_nil)))))))))) (qss_cons (qs_set 4 nd (q_call k_law_cell_at (hr.mono (by decide)) (qa_cons (qv 0) (qa_cons (qv 1) qa_nil)))) (qss_cons (qs_if (t_ge (qv 4) (q_pow qint qint)) (qss_one (qs_ret (qv 4))) qss_nil) (qss_cons (qs_set 5 nd qint) (qss_cons (qs_forR1 PassesOwn.never rfl rfl T.range (qa_cons qint qa_nil) (qg_name 6 nd) (qss_cons (qs_set 7 nd (q_add (q_add (q_mod (q_call k_law_cell_at (hr.mono (by decide)) (qa_cons (qv 0) (qa_cons (q_add (qv 1) (q_mod (qv 6) qint)) qa_nil))) (q_pow qint qint)) qint) (q_mul (qv 6) (qv 6)))) (qss_one (qs_set 5 nd (q_add (q_mul (qv 5) qint) (q_mod (q_mod (q_mul (qv 7) (q_ix (qv 2) (q_mod (qv 6) qint) (fun _ _ => rfl))) (q_ix (qv 3) (q_mod (qv 6) qint) (fun _ _ => rfl))) qint)))))) (qss_one (qs_ret (qv 5))))))))), ob_law_big⟩
theorem kn_law_digit (F : Df K mg "_law_digit" s_law_digit ["_law_rest", "_law_many"]) : Known P w K mg base 1 "_law_digit" f_law_digit :=
  have nd := sc_law_digit.nd; F.known sc_law_digit len_law_digit fun fa cdv A outer s H E hr => ⟨t_law_digit, (qss_cons (qs_set 2 nd (q_mod (q_rest (qv 0)) (qv 1))) (qss_cons (qs_restPut (qv 0) (q_fdiv (q_rest (qv 0)) (qv 1))) (qss_one (qs_ret (qv 2))))), ob_law_digit⟩
theorem kn_law_fractions (F : Df K mg "_law_fractions" s_law_fractions ["_law_rest", "_law_many"]) (T : Txt mg) (k_law_digit : Known P w K mg base 1 "_law_digit" f_law_digit) : Known P w K mg base 2 "_law_fractions" f_law_fractions :=
  have nd := sc_law_fractions.nd; F.known sc_law_fractions len_law_fractions fun fa cdv A outer s H E hr => ⟨t_law_fractions, (qss_cons (qs_setOwn 2 nd (qf_lst (qa_cons (qe_tup (qa_cons (q_neg qint) (qa_cons qint qa_nil))) (qa_cons (qe_tup (qa_cons qint (qa_cons qint qa_nil))) (qa_cons (qe_tup (qa_cons qint (qa_cons qint qa_nil))) qa_nil))))) (qss_cons (qs_forR1 PassesOwn.never rfl rfl T.range (qa_cons (q_sub (qv 1) qint) qa_nil) (qg_name 3 nd) (qss_cons (qs_set 4 nd (q_call k_law_digit (hr.mono (by decide)) (qa_cons (qv 0) (qa_cons (q_sub (q_lenOwn 2 T.len) qint) qa_nil)))) (qss_one (qs_insert 2 (q_add (qv 4) qint) (qe_tup (qa_cons (q_add (q_ix (q_ixOwn 2 (qv 4) (fun _ _ => rfl)) qint (fun _ _ => rfl)) (q_ix (q_ixOwn 2 (q_add (qv 4) qint) (fun _ _ => rfl)) qint (fun _ _ => rfl))) (qa_cons (q_add (q_ix (q_ixOwn 2 (qv 4) (fun _ _ => rfl)) qint (fun _ _ => rfl)) (q_ix (q_ixOwn 2 (q_add (qv 4) qint) (fun _ _ => rfl)) qint (fun _ _ => rfl))) qa_nil))))))) (qss_one (qs_freeze 2 (qs_ret (q_tupleOf T.tuple (qa_cons (q_add (qe_lst (qa_cons (qe_tup (qa_cons qint (qa_cons qint qa_nil))) qa_nil)) (q_sl (qv 2) (qo_some qint) (qo_some (q_sub (q_len T.len (qa_cons (qv 2) qa_nil)) qint)))) qa_nil))))))), ob_law_fractions⟩
theorem kn_law_marks (F : Df K mg "_law_marks" s_law_marks ["_law_rest", "_law_many"]) (T : Txt mg) (k_law_digit : Known P w K mg base 1 "_law_digit" f_law_digit) : Known P w K mg base 2 "_law_marks" f_law_marks :=
  have nd := sc_law_marks.nd; F.known sc_law_marks len_law_marks fun fa cdv A outer s H E hr => ⟨t_law_marks, (qss_cons (qs_setOwnCompR1 2 nd (N' := ["_law_gap"]) (ix := []) rfl (CompOk.of (defScope s_law_marks) rfl rfl (by decide +kernel) (by decide +kernel) (by decide +kernel) (fun j i h => by simp at h) rfl) (by decide) rfl rfl rfl T.range (qa_cons (qv 1) qa_nil) (fun C s H fp pins => qifs_nil) (fun C s H fp pins => qstr)) (qss_cons (qs_setOwn 3 nd (qf_listR T.list T.range (qa_cons (qv 1) qa_nil))) (qss_cons (qs_while PassesOwn.never (t_ownNe 3 hr.units) (qss_cons (qs_setPop 4 3 nd qint) (qss_cons (qs_set 5 nd (q_call k_law_digit (hr.mono (by decide)) (qa_cons (qv 0) (qa_cons qint qa_nil)))) (qss_cons (qs_if (t_eq hr.units (qv 5) qint) (qss_one (qs_put 2 (qv 4) qstr)) qss_nil) (qss_one (qs_if (QW.t (qw_and (t_gt (qv 5) qint) (qw_and1 (t_ownNe 3 hr.units)))) (qss_cons (qs_setPop 6 3 nd (q_call k_law_digit (hr.mono (by decide)) (qa_cons (qv 0) (qa_cons (q_lenOwn 3 T.len) qa_nil)))) (qss_cons (qs_put 2 (qv 4) (qv 6)) (qss_one (qs_put 2 (qv 6) (qv 4))))) qss_nil)))))) (qss_cons (qs_freeze 2 (qs_if (QW.t (qw_and (t_eq hr.units (qv 1) qint) (qw_and1 (t_ninL hr.units qstr (qv 2))))) (qss_one (qs_set 2 nd (qe_lst (qa_cons qstr (qa_cons qstr qa_nil))))) qss_nil)) (qss_one (qs_ret (q_tupleOf T.tuple (qa_cons (qv 2) qa_nil)))))))), ob_law_marks⟩
theorem kn_law_fan (F : Df K mg "_law_fan" s_law_fan ["_law_rest", "_law_most", "_law_great"]) (k_law_digit : Known P w K mg base 1 "_law_digit" f_law_digit) (k_law_fractions : Known P w K mg base 2 "_law_fractions" f_law_fractions) (k_law_marks : Known P w K mg base 2 "_law_marks" f_law_marks) : Known P w K mg base 3 "_law_fan" f_law_fan :=
  have nd := sc_law_fan.nd; F.known sc_law_fan len_law_fan fun fa cdv A outer s H E hr => ⟨t_law_fan, (qss_cons (qs_set 3 nd (q_add qint (q_call k_law_digit (hr.mono (by decide)) (qa_cons (qv 0) (qa_cons (q_sub (qv 1) qint) qa_nil))))) (qss_cons (qs_if (t_eq hr.units (q_call k_law_digit (hr.mono (by decide)) (qa_cons (qv 0) (qa_cons qint qa_nil))) qint) (qss_one (qs_set 3 nd (q_add qint (q_call k_law_digit (hr.mono (by decide)) (qa_cons (qv 0) (qa_cons (q_sub (qv 2) qint) qa_nil)))))) qss_nil) (qss_one (qs_ret (qe_tup (qa_cons (q_call k_law_fractions (hr.mono (by decide)) (qa_cons (qv 0) (qa_cons (qv 3) qa_nil))) (qa_cons (q_call k_law_marks (hr.mono (by decide)) (qa_cons (qv 0) (qa_cons (qv 3) qa_nil))) qa_nil))))))), ob_law_fan⟩
theorem kn_law_tiles (F : Df K mg "_law_tiles" s_law_tiles ["_law_fractions_here"]) (T : Txt mg) : Known P w K mg base 1 "_law_tiles" f_law_tiles :=
  have nd := sc_law_tiles.nd; F.known sc_law_tiles len_law_tiles fun fa cdv A outer s H E hr => ⟨t_law_tiles, (qss_cons (qs_setOwn 1 nd (qf_listOf T.list (qa_cons (qv 0) qa_nil))) (qss_cons (qs_setOwn 2 nd (qf_lst qa_nil)) (qss_cons (qs_while PassesOwn.never (t_gt (q_lenOwn 1 T.len) qint) (qss_one (qs_forR2 PassesOwn.never rfl rfl T.range (qa_cons qint (qa_cons (q_lenOwn 1 T.len) qa_nil)) (qg_name 3 nd) (qss_cons (qs_set 4 nd (q_ixOwn 1 (q_sub (qv 3) qint) (fun _ _ => rfl))) (qss_cons (qs_set 5 nd (q_ixOwn 1 (q_mod (q_add (qv 3) qint) (q_lenOwn 1 T.len)) (fun _ _ => rfl))) (qss_one (qs_if (QW.t (qw_and (t_ne hr.units (q_ixOwn 1 (qv 3) (fun _ _ => rfl)) (qe_tup (qa_cons qint (qa_cons qint qa_nil)))) (qw_and1 (t_eq hr.units (q_abs T.abs (qa_cons (q_sub (q_mul (q_ix (qv 4) qint (fun _ _ => rfl)) (q_ix (qv 5) qint (fun _ _ => rfl))) (q_mul (q_ix (qv 4) qint (fun _ _ => rfl)) (q_ix (qv 5) qint (fun _ _ => rfl)))) qa_nil)) qint)))) (qss_cons (qs_append 2 (qe_tup (qa_cons (qv 4) (qa_cons (q_ixOwn 1 (qv 3) (fun _ _ => rfl)) (qa_cons (qv 5) qa_nil))))) (qss_cons (qs_popI 1 (qv 3)) (qss_one qs_break))) qss_nil))))))) (qss_one (qs_freeze 2 (qs_ret (qv 2))))))), ob_law_tiles⟩
theorem kn_law_gaps (F : Df K mg "_law_gaps" s_law_gaps ["_law_fractions_here"]) (T : Txt mg) : Known P w K mg base 1 "_law_gaps" f_law_gaps :=
  have nd := sc_law_gaps.nd; F.known sc_law_gaps len_law_gaps fun fa cdv A outer s H E hr => ⟨t_law_gaps, (qss_one (qs_ret (QF.e (qf_compR1 (N' := ["_law_i", "_law_fractions_here"]) (ix := [0]) rfl (CompOk.of (defScope s_law_gaps) rfl rfl (by decide +kernel) (by decide +kernel) (by decide +kernel) (fun j i h => match j, h with | 0, h => by cases h; exact ⟨_, rfl, rfl, by decide, rfl⟩ | _ + 1, h => by simp at h) rfl) (by decide) rfl rfl rfl T.range (qa_cons (q_len T.len (qa_cons (qv 0) qa_nil)) qa_nil) (fun C s H fp pins => qifs_nil) (fun C s H fp pins => (qe_tup (qa_cons (q_ix (qv 1) (qv 0) (fun _ _ => rfl)) (qa_cons (q_ix (qv 1) (q_mod (q_add (qv 0) qint) (q_len T.len (qa_cons (qv 1) qa_nil))) (fun _ _ => rfl)) qa_nil)))))))), ob_law_gaps⟩
theorem kn_law_links (F : Df K mg "_law_links" s_law_links ["_law_fan_here"]) (T : Txt mg) (k_law_gaps : Known P w K mg base 1 "_law_gaps" f_law_gaps) (k_law_tiles : Known P w K mg base 1 "_law_tiles" f_law_tiles) : Known P w K mg base 2 "_law_links" f_law_links :=
  have nd := sc_law_links.nd; F.known sc_law_links len_law_links fun fa cdv A outer s H E hr => ⟨t_law_links, (qss_cons (qs_asg (qv 0) (qg_tup rfl (qgs_cons (qg_name 1 nd) (qgs_cons (qg_name 2 nd) qgs_nil)))) (qss_cons (qs_set 3 nd (q_call k_law_gaps (hr.mono (by decide)) (qa_cons (qv 1) qa_nil))) (qss_cons (qs_dicNew 4 nd) (qss_cons (qs_for PassesOwn.never rfl (q_call k_law_tiles (hr.mono (by decide)) (qa_cons (qv 1) qa_nil)) (qg_tup rfl (qgs_cons (qg_name 5 nd) (qgs_cons (qg_name 6 nd) (qgs_cons (qg_name 7 nd) qgs_nil)))) (qss_cons (qs_dicPut 4 hr.units (qe_tup (qa_cons (qv 5) (qa_cons (qv 6) qa_nil))) (qe_tup (qa_cons (qv 6) (qa_cons (qv 7) qa_nil)))) (qss_cons (qs_dicPut 4 hr.units (qe_tup (qa_cons (qv 6) (qa_cons (qv 7) qa_nil))) (qe_tup (qa_cons (qv 7) (qa_cons (qv 5) qa_nil)))) (qss_one (qs_dicPut 4 hr.units (qe_tup (qa_cons (qv 7) (qa_cons (qv 5) qa_nil))) (qe_tup (qa_cons (qv 5) (qa_cons (qv 6) qa_nil)))))))) (qss_cons (qs_dicNew 8 nd) (qss_cons (qs_forDic 4 PassesOwn.never rfl (qg_tup rfl (qgs_cons (qg_name 5 nd) (qgs_cons (qg_name 7 nd) qgs_nil))) (qss_one (qs_dicPut 8 hr.units (qe_tup (qa_cons (qv 5) (qa_cons (qv 7) qa_nil))) (qe_tup (qa_cons (qv 7) (qa_cons (qv 5) qa_nil)))))) (qss_cons (qs_forE PassesOwn.never rfl rfl T.enumerate (qa_cons (qv 2) qa_nil) (qg_tup rfl (qgs_cons (qg_name 9 nd) (qgs_cons (qg_name 10 nd) qgs_nil))) (qss_one (qs_if (t_eq hr.units (qv 10) qstr) (qss_cons (qs_dicPut 4 hr.units (qv 9) (qv 9)) (qss_cons (qs_dicPut 8 hr.units (qv 9) (q_ix (qv 3) (qv 9) (fun _ _ => rfl))) (qss_one (qs_dicPut 8 hr.units (q_ix (qv 3) (qv 9) (fun _ _ => rfl)) (qv 9))))) (qss_one (qs_if (t_eq hr.units (qv 10) qstr) (qss_one (qs_dicPut 8 hr.units (q_ix (qv 3) (qv 9) (fun _ _ => rfl)) (q_ix (qv 3) (qv 9) (fun _ _ => rfl)))) (qss_one (qs_dicPut 8 hr.units (q_ix (qv 3) (qv 9) (fun _ _ => rfl)) (q_ix (qv 3) (qv 10) (fun _ _ => rfl))))))))) (qss_cons (qs_set 11 nd (qe_tup (qa_cons (qe_tup (qa_cons qint (qa_cons qint qa_nil))) (qa_cons (qe_tup (qa_cons qint (qa_cons qint qa_nil))) qa_nil)))) (qss_cons (qs_freezeN 4 (qs_if (t_eq hr.units (q_len T.len (qa_cons (qv 1) qa_nil)) qint) (qss_cons (qs_set 11 nd (q_ix (qe_lst (qa_cons qint (qa_cons qint qa_nil))) (q_intOf T.int (qa_cons (q_ne hr.units (q_ix (qv 2) qint (fun _ _ => rfl)) qstr) qa_nil)) (fun _ _ => rfl))) (qss_one (qs_for PassesOwn.never rfl (qe_lst (qa_cons qint (qa_cons qint qa_nil))) (qg_name 9 nd) (qss_one (qs_if (t_eq hr.units (q_ix (qv 2) (qv 9) (fun _ _ => rfl)) qstr) (qss_one (qs_dicPut 8 hr.units (qv 9) (q_ix (qe_lst (qa_cons (qv 9) (qa_cons (q_sub qint (qv 9)) qa_nil))) (q_intOf T.int (qa_cons (q_eq hr.units (q_ix (qv 2) (q_sub qint (qv 9)) (fun _ _ => rfl)) qstr) qa_nil)) (fun _ _ => rfl)))) qss_nil))))) (qss_one (qs_if (t_ninN hr.units (qv 11) (qv 4)) (qss_one (qs_set 11 nd (q_dicGet 8 hr.units (q_ix (qv 3) (q_neg qint) (fun _ _ => rfl)) (fun _ _ => rfl)))) qss_nil)))) (qss_one (qs_freezeN 8 (qs_ret (qe_tup (qa_cons (qv 8) (qa_cons (qv 4) (qa_cons (qv 11) qa_nil)))))))))))))))), ob_law_links⟩
theorem kn_law_anew (F : Df K mg "_law_anew" s_law_anew ["_law_halves", "_law_thirds", "_law_first"]) (T : Txt mg) : Known P w K mg base 1 "_law_anew" f_law_anew :=
  have nd := sc_law_anew.nd; F.known sc_law_anew len_law_anew fun fa cdv A outer s H E hr => ⟨t_law_anew, (qss_cons (qs_setOwn 3 nd (qf_lst (qa_cons (qv 2) qa_nil))) (qss_cons (qs_set 4 nd qint) (qss_cons (qs_while PassesOwn.never (t_lt (qv 4) (q_lenOwn 3 T.len)) (qss_cons (qs_for PassesOwn.never rfl (qe_lst (qa_cons (q_dixX hr.units (qv 0) (q_ixOwn 3 (qv 4) (fun _ _ => rfl)) (fun _ _ => rfl)) (qa_cons (q_dixX hr.units (qv 1) (q_ixOwn 3 (qv 4) (fun _ _ => rfl)) (fun _ _ => rfl)) qa_nil))) (qg_name 5 nd) (qss_one (qs_if (t_ninOwn 3 hr.units (qv 5)) (qss_one (qs_append 3 (qv 5))) qss_nil))) (qss_one (qs_set 4 nd (q_add (qv 4) qint))))) (qss_one (qs_freeze 3 (qs_ret (qe_tup (qa_cons (q_tupleOf T.tuple (qa_cons (QF.e (qf_comp (N' := ["_law_one", "_law_halves", "_law_met"]) (ix := [0, 3]) rfl (CompOk.of (defScope s_law_anew) rfl rfl (by decide +kernel) (by decide +kernel) (by decide +kernel) (fun j i h => match j, h with | 0, h => by cases h; exact ⟨_, rfl, rfl, by decide, rfl⟩ | 1, h => by cases h; exact ⟨_, rfl, rfl, by decide, rfl⟩ | _ + 2, h => by simp at h) rfl) (by decide) rfl rfl (qv 3) (fun C s H fp pins => qifs_nil) (fun C s H fp pins => (q_index hr.units (qv 2) (q_dixX hr.units (qv 1) (qv 0) (fun _ _ => rfl)))))) qa_nil)) (qa_cons (q_tupleOf T.tuple (qa_cons (QF.e (qf_comp (N' := ["_law_one", "_law_thirds", "_law_met"]) (ix := [1, 3]) rfl (CompOk.of (defScope s_law_anew) rfl rfl (by decide +kernel) (by decide +kernel) (by decide +kernel) (fun j i h => match j, h with | 0, h => by cases h; exact ⟨_, rfl, rfl, by decide, rfl⟩ | 1, h => by cases h; exact ⟨_, rfl, rfl, by decide, rfl⟩ | _ + 2, h => by simp at h) rfl) (by decide) rfl rfl (qv 3) (fun C s H fp pins => qifs_nil) (fun C s H fp pins => (q_index hr.units (qv 2) (q_dixX hr.units (qv 1) (qv 0) (fun _ _ => rfl)))))) qa_nil)) qa_nil))))))))), ob_law_anew⟩
theorem kn_law_table (F : Df K mg "_law_table" s_law_table ["_law_fan_here"]) (k_law_anew : Known P w K mg base 1 "_law_anew" f_law_anew) (k_law_links : Known P w K mg base 2 "_law_links" f_law_links) : Known P w K mg base 3 "_law_table" f_law_table :=
  have nd := sc_law_table.nd; F.known sc_law_table len_law_table fun fa cdv A outer s H E hr => ⟨t_law_table, (qss_cons (qs_asg (q_call k_law_links (hr.mono (by decide)) (qa_cons (qv 0) qa_nil)) (qg_tup rfl (qgs_cons (qg_name 1 nd) (qgs_cons (qg_name 2 nd) (qgs_cons (qg_name 3 nd) qgs_nil))))) (qss_one (qs_ret (q_call k_law_anew (hr.mono (by decide)) (qa_cons (qv 1) (qa_cons (qv 2) (qa_cons (qv 3) qa_nil))))))), ob_law_table⟩
theorem kn_law_led (F : Df K mg "_law_led" s_law_led ["_law_table_here", "_law_place", "_law_word"]) : Known P w K mg base 1 "_law_led" f_law_led :=
  have nd := sc_law_led.nd; F.known sc_law_led len_law_led fun fa cdv A outer s H E hr => ⟨t_law_led, (qss_cons (qs_for PassesOwn.never rfl (qv 2) (qg_name 3 nd) (qss_one (qs_if (t_eq hr.units (qv 3) qstr) (qss_one (qs_set 1 nd (q_ix (q_ix (qv 0) qint (fun _ _ => rfl)) (qv 1) (fun _ _ => rfl)))) (qss_one (qs_if (t_eq hr.units (qv 3) qstr) (qss_one (qs_set 1 nd (q_ix (q_ix (qv 0) qint (fun _ _ => rfl)) (qv 1) (fun _ _ => rfl)))) (qss_one (qs_set 1 nd (q_ix (q_ix (qv 0) qint (fun _ _ => rfl)) (q_ix (q_ix (qv 0) qint (fun _ _ => rfl)) (qv 1) (fun _ _ => rfl)) (fun _ _ => rfl))))))))) (qss_one (qs_ret (qv 1)))), ob_law_led⟩
theorem kn_law_words (F : Df K mg "_law_words" s_law_words ["_law_table_here"]) (T : Txt mg) (k_law_led : Known P w K mg base 1 "_law_led" f_law_led) : Known P w K mg base 2 "_law_words" f_law_words :=
  have nd := sc_law_words.nd; F.known sc_law_words len_law_words fun fa cdv A outer s H E hr => ⟨t_law_words, (qss_cons (qs_dicOne 1 nd qint qstr) (qss_cons (qs_set 2 nd (qe_lst (qa_cons qstr qa_nil))) (qss_cons (qs_while PassesOwn.never (t_lt (q_lenDic 1 T.len) (q_len T.len (qa_cons (q_ix (qv 0) qint (fun _ _ => rfl)) qa_nil))) (qss_cons (qs_setOwn 3 nd (qf_lst qa_nil)) (qss_cons (qs_set 4 nd (qe_lst qa_nil)) (qss_cons (qs_for PassesOwn.never rfl (qv 2) (qg_name 5 nd) (qss_one (qs_set 4 nd (q_add (qv 4) (QF.e (qf_comp (N' := ["_law_letter", "_law_here"]) (ix := [5]) rfl (CompOk.of (defScope s_law_words) rfl rfl (by decide +kernel) (by decide +kernel) (by decide +kernel) (fun j i h => match j, h with | 0, h => by cases h; exact ⟨_, rfl, rfl, by decide, rfl⟩ | _ + 1, h => by simp at h) rfl) (by decide) rfl rfl qstr (fun C s H fp pins => qifs_nil) (fun C s H fp pins => (q_add (qv 1) (qv 0))))))))) (qss_cons (qs_for PassesOwn.never rfl (q_sorted T.sorted (qa_cons (qv 4) qa_nil)) (qg_name 6 nd) (qss_cons (qs_set 7 nd (q_call k_law_led (hr.mono (by decide)) (qa_cons (qv 0) (qa_cons qint (qa_cons (qv 6) qa_nil))))) (qss_one (qs_if (t_ninDic 1 hr.units (qv 7)) (qss_cons (qs_dicPut 1 hr.units (qv 7) (qv 6)) (qss_one (qs_append 3 (qv 6)))) qss_nil)))) (qss_one (qs_freeze 3 (qs_set 2 nd (qv 3))))))))) (qss_one (qs_freezeN 1 (qs_ret (qv 1))))))), ob_law_words⟩
theorem kn_law {fa : Addr} {fd : FuncData} (F : Fun K "law" "law" s_law fa fd) (T : Txt mg) (k_law_anew : Known P w K mg base 1 "_law_anew" f_law_anew) (k_law_big : Known P w K mg base 2 "_law_big" f_law_big) (k_law_digit : Known P w K mg base 1 "_law_digit" f_law_digit) (k_law_fan : Known P w K mg base 3 "_law_fan" f_law_fan) (k_law_table : Known P w K mg base 3 "_law_table" f_law_table) (k_law_words : Known P w K mg base 2 "_law_words" f_law_words) (k_word_to : Known P w K mg base 2 "word_to" f_word_to) : FnOk P w K mg base CX0 4 fa fd ["_law_script"] (spF K (fLaw 63)) :=
  have nd := sc_law.nd; Fun.fnok F sc_law len_law fun cdv A outer s H E hr => ⟨t_law, (qss_cons (qs_forR1 PassesOwn.never rfl rfl T.range (qa_cons (q_max T.max (qa_cons qint (qa_cons (q_min T.min (qa_cons qint (qa_cons (q_len T.len (qa_cons (qv 0) qa_nil)) qa_nil))) qa_nil))) qa_nil) (qg_name 1 nd) (qss_cons (qs_restNew 2 nd (q_call k_law_big (hr.mono (by decide)) (qa_cons (qv 0) (qa_cons (qv 1) qa_nil)))) (qss_cons (qs_set 3 nd (q_call k_law_table (hr.mono (by decide)) (qa_cons (q_call k_law_fan (hr.mono (by decide)) (qa_cons (qv 2) (qa_cons qint (qa_cons qint qa_nil)))) qa_nil))) (qss_cons (qs_set 3 nd (q_call k_law_anew (hr.mono (by decide)) (qa_cons (q_ix (qv 3) qint (fun _ _ => rfl)) (qa_cons (q_ix (qv 3) qint (fun _ _ => rfl)) (qa_cons (q_call k_law_digit (hr.mono (by decide)) (qa_cons (qv 2) (qa_cons (q_len T.len (qa_cons (q_ix (qv 3) qint (fun _ _ => rfl)) qa_nil)) qa_nil))) qa_nil))))) (qss_cons (qs_set 4 nd (q_call k_law_words (hr.mono (by decide)) (qa_cons (qv 3) qa_nil))) (qss_one (qs_forDicN PassesOwn.never rfl (qv 4) (qg_name 5 nd) (qss_cons (qs_set 6 nd (q_call k_word_to (hr.mono (by decide)) (qa_cons (qv 3) (qa_cons (qv 5) qa_nil)))) (qss_one (qs_if (QW.t (qw_or (qt_not (qt_val (q_isi T.isinstance T.str boot_str' (qv 6)))) (qw_or1 (t_ne hr.units (qv 6) (q_dixN hr.units (qv 4) (qv 5) (fun _ _ => rfl)))))) (qss_one (qs_ret qbl)) qss_nil)))))))))) (qss_one (qs_ret qbl))), ob_law⟩
end
theorem all_mk {l : PySem.W.OpenLaw} {w : World} {K : PySem.W.Frag} {h : Heap} {mg : Str → Option Value} {fa : Addr}  (X : K.In h) (G : h.Ns mainGlobals mg) (hfa : mg "law" = some (.ref fa))
    (D1 : DefIn K "place_behind" s_place_behind)
    (D2 : DefIn K "word_to" s_word_to)
    (D3 : DefIn K "_law_cell_at" s_law_cell_at)
    (D4 : DefIn K "_law_big" s_law_big)
    (D5 : DefIn K "_law_digit" s_law_digit)
    (D6 : DefIn K "_law_fractions" s_law_fractions)
    (D7 : DefIn K "_law_marks" s_law_marks)
    (D8 : DefIn K "_law_fan" s_law_fan)
    (D9 : DefIn K "_law_tiles" s_law_tiles)
    (D10 : DefIn K "_law_gaps" s_law_gaps)
    (D11 : DefIn K "_law_links" s_law_links)
    (D12 : DefIn K "_law_anew" s_law_anew)
    (D13 : DefIn K "_law_table" s_law_table)
    (D14 : DefIn K "_law_led" s_law_led)
    (D15 : DefIn K "_law_words" s_law_words)
    (D16 : DefIn K "law" s_law)
    (z0 : PySem.W.nsIn K mainGlobals "abs" = some none)
    (z1 : PySem.W.nsIn K mainGlobals "enumerate" = some none)
    (z2 : PySem.W.nsIn K mainGlobals "int" = some none)
    (z3 : PySem.W.nsIn K mainGlobals "isinstance" = some none)
    (z4 : PySem.W.nsIn K mainGlobals "len" = some none)
    (z5 : PySem.W.nsIn K mainGlobals "list" = some none)
    (z6 : PySem.W.nsIn K mainGlobals "max" = some none)
    (z7 : PySem.W.nsIn K mainGlobals "min" = some none)
    (z8 : PySem.W.nsIn K mainGlobals "range" = some none)
    (z9 : PySem.W.nsIn K mainGlobals "sorted" = some none)
    (z10 : PySem.W.nsIn K mainGlobals "str" = some none)
    (z11 : PySem.W.nsIn K mainGlobals "tuple" = some none)
    : ∃ fd : FuncData, (∀ (s : Shared) (v : Value), BindsTo s fd ⟨[v], []⟩ [("_law_script", v)]) ∧ ∀ base : Heap, K.In base → base.Ns mainGlobals mg → FnOk l.prog w K mg base CX0 4 fa fd ["_law_script"] (spF K (fLaw 63)) := by
  have T : Txt mg := ⟨PySem.W.mg_none_of X G z0, PySem.W.mg_none_of X G z1, PySem.W.mg_none_of X G z2, PySem.W.mg_none_of X G z3, PySem.W.mg_none_of X G z4, PySem.W.mg_none_of X G z5, PySem.W.mg_none_of X G z6, PySem.W.mg_none_of X G z7, PySem.W.mg_none_of X G z8, PySem.W.mg_none_of X G z9, PySem.W.mg_none_of X G z10, PySem.W.mg_none_of X G z11⟩
  obtain ⟨dl, FL, bl⟩ := D16.law X G hfa fun _ _ _ _ _ _ _ => rfl
  refine ⟨dl, bl, fun base _ _ => ?_⟩
  have F1 : Df K mg _ s_place_behind ["table", "place", "letter"] := ⟨D1.get X G fun _ _ _ _ _ _ => bn3 fun _ _ _ => rfl⟩
  have k_place_behind := kn_place_behind (P := l.prog) (w := w) (base := base) F1
  have F2 : Df K mg _ s_word_to ["table", "place"] := ⟨D2.get X G fun _ _ _ _ _ _ => bn2 fun _ _ => rfl⟩
  have k_word_to := kn_word_to (P := l.prog) (w := w) (base := base) F2 k_place_behind
  have F3 : Df K mg _ s_law_cell_at ["_law_script", "_law_k"] := ⟨D3.get X G fun _ _ _ _ _ _ => bn2 fun _ _ => rfl⟩
  have k_law_cell_at := kn_law_cell_at (P := l.prog) (w := w) (base := base) F3 T
  have F4 : Df K mg _ s_law_big ["_law_script", "_law_at"] := ⟨D4.get X G fun _ _ _ _ _ _ => bn2 fun _ _ => rfl⟩
  have k_law_big := kn_law_big (P := l.prog) (w := w) (base := base) F4 T k_law_cell_at
  have F5 : Df K mg _ s_law_digit ["_law_rest", "_law_many"] := ⟨D5.get X G fun _ _ _ _ _ _ => bn2 fun _ _ => rfl⟩
  have k_law_digit := kn_law_digit (P := l.prog) (w := w) (base := base) F5
  have F6 : Df K mg _ s_law_fractions ["_law_rest", "_law_many"] := ⟨D6.get X G fun _ _ _ _ _ _ => bn2 fun _ _ => rfl⟩
  have k_law_fractions := kn_law_fractions (P := l.prog) (w := w) (base := base) F6 T k_law_digit
  have F7 : Df K mg _ s_law_marks ["_law_rest", "_law_many"] := ⟨D7.get X G fun _ _ _ _ _ _ => bn2 fun _ _ => rfl⟩
  have k_law_marks := kn_law_marks (P := l.prog) (w := w) (base := base) F7 T k_law_digit
  have F8 : Df K mg _ s_law_fan ["_law_rest", "_law_most", "_law_great"] := ⟨D8.get X G fun _ _ _ _ _ _ => bn3 fun _ _ _ => rfl⟩
  have k_law_fan := kn_law_fan (P := l.prog) (w := w) (base := base) F8 k_law_digit k_law_fractions k_law_marks
  have F9 : Df K mg _ s_law_tiles ["_law_fractions_here"] := ⟨D9.get X G fun _ _ _ _ _ _ => bn1 fun _ => rfl⟩
  have k_law_tiles := kn_law_tiles (P := l.prog) (w := w) (base := base) F9 T
  have F10 : Df K mg _ s_law_gaps ["_law_fractions_here"] := ⟨D10.get X G fun _ _ _ _ _ _ => bn1 fun _ => rfl⟩
  have k_law_gaps := kn_law_gaps (P := l.prog) (w := w) (base := base) F10 T
  have F11 : Df K mg _ s_law_links ["_law_fan_here"] := ⟨D11.get X G fun _ _ _ _ _ _ => bn1 fun _ => rfl⟩
  have k_law_links := kn_law_links (P := l.prog) (w := w) (base := base) F11 T k_law_gaps k_law_tiles
  have F12 : Df K mg _ s_law_anew ["_law_halves", "_law_thirds", "_law_first"] := ⟨D12.get X G fun _ _ _ _ _ _ => bn3 fun _ _ _ => rfl⟩
  have k_law_anew := kn_law_anew (P := l.prog) (w := w) (base := base) F12 T
  have F13 : Df K mg _ s_law_table ["_law_fan_here"] := ⟨D13.get X G fun _ _ _ _ _ _ => bn1 fun _ => rfl⟩
  have k_law_table := kn_law_table (P := l.prog) (w := w) (base := base) F13 k_law_anew k_law_links
  have F14 : Df K mg _ s_law_led ["_law_table_here", "_law_place", "_law_word"] := ⟨D14.get X G fun _ _ _ _ _ _ => bn3 fun _ _ _ => rfl⟩
  have k_law_led := kn_law_led (P := l.prog) (w := w) (base := base) F14
  have F15 : Df K mg _ s_law_words ["_law_table_here"] := ⟨D15.get X G fun _ _ _ _ _ _ => bn1 fun _ => rfl⟩
  have k_law_words := kn_law_words (P := l.prog) (w := w) (base := base) F15 T k_law_led
  exact kn_law FL T k_law_anew k_law_big k_law_digit k_law_fan k_law_table k_law_words k_word_to
end KR
namespace PySem.W.Fast
theorem tw4058288416902762894 : True := trivial
theorem tw8171946702216071539 : True := trivial
theorem tw18414350682982712138 : True := trivial
theorem tw12185853892167811926 : True := trivial
theorem tw14001611871687359439 : True := trivial
theorem tw16484522448593187259 : True := trivial
theorem tw9780646053079324004 : True := trivial
theorem tw3638207626069032882 : True := trivial
theorem tw912441146532068357 : True := trivial
theorem tw1083014157843825603 : True := trivial
theorem tw9798575523260639515 : True := trivial
theorem tw968347174747900620 : True := trivial
theorem tw13311340535061344059 : True := trivial
theorem tw16014414330608922662 : True := trivial
theorem tw2628054614842792827 : True := trivial
theorem tw651711537820997717 : True := trivial
theorem tw5543005400598303494 : True := trivial
theorem tw2613202346609908227 : True := trivial
theorem tw8993249886200182636 : True := trivial
theorem tw11062333557273136688 : True := trivial
theorem tw7041264014834038378 : True := trivial
theorem tw5204871026940645457 : True := trivial
theorem tw2497355523593885804 : True := trivial
theorem tw11691491719131167637 : True := trivial
theorem tw13315101298102701326 : True := trivial
theorem tw4964931480278399984 : True := trivial
theorem tw16358883556006977663 : True := trivial
theorem tw3602413091765283830 : True := trivial
theorem tw2607940257099020130 : True := trivial
theorem tw17137110113633319260 : True := trivial
theorem tw10901265064582764219 : True := trivial
theorem tw16608601667230801922 : True := trivial
theorem tw10250468323612890801 : True := trivial
theorem tw10373554886124403505 : True := trivial
theorem tw16167427465572779658 : True := trivial
theorem tw3151406474089258806 : True := trivial
theorem tw3862540250770144976 : True := trivial
theorem tw13420167273642180971 : True := trivial
theorem tw7472242120213836198 : True := trivial
theorem tw2032881147160459352 : True := trivial
theorem tw8745282296969389380 : True := trivial
end PySem.W.Fast
open PySem PySem.W PyProof.Rows
set_option maxRecDepth 100000 in
set_option maxHeartbeats 0 in
theorem PySem.Challenge.cw_fanglue_k31_first_words_holds : PySem.Challenge.rw_fanglue_k31_first_words.Holds := by
  w_on; o_law; k_head; (case hw => w_witness2)
  k_fill
  refine L2.walk_of (l := PySem.Challenge.rw_fanglue_k31_first_words) (n := 63) (k := 4) (x := "_law_script") (CX := fun _ => L2.CX0) (sp := fun w => L2.L3.spF _ (L2.L3.fLaw 63)) rfl (by decide) rfl ⟨rfl, by decide, by decide⟩ (fun w h Y => PySem.W.kIn_of Y) ?F (fun _ _ a ns hl _ hS => L2.L3.law_sp hl hS) (fun _ _ _ _ _ z => z)
  case F =>
    intro w mg fa h KX G hmg
    refine' KR.all_mk KX G hmg ?_ ?_ ?_ ?_ ?_ ?_ ?_ ?_ ?_ ?_ ?_ ?_ ?_ ?_ ?_ ?_ ?_ ?_ ?_ ?_ ?_ ?_ ?_ ?_ ?_ ?_ ?_ ?_
    iterate 16 exact ⟨⟨_, _, _, _, _, _, _, _, _, _, by k_is, by k_is, by k_is, by k_is⟩⟩
    iterate 12 k_is
