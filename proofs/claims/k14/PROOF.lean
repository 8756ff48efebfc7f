import PyProof.Rows.All
import Wide.All
import OpenK.AllK
import Wide.FinOn
import Lean
import PyProof.EqAt
import PyProof.EqKinds
import PyProof.TupleCall
import PyProof.NeKinds
import PyProof.CompFree
import KE.KIsAll
import OpenK.KOwn
import PyProof.RulesAs
import KE.RegKIsAll
import PyProof.ExcAttrAll.ValueError
import KE.KUnpack
import PyProof.Rows.StrWeight2
import PyProof.StrBlockI
import OpenK.KTop
import PyProof.ListStr
import PyProof.EnumMake
import PyProof.TupleIter
import PyProof.ListRange
import PyProof.PassesOwn
import PyProof.ExcInit
import PyProof.InstStoreFacts
import PySem.Challenge.RW_fanglue_k14_fans_looked_at
set_option Elab.async false
set_option linter.all false
set_option maxRecDepth 100000
namespace L2
open PySem PySem.Spec PyProof.Rows
abbrev Key := Sum Int Str
def keyIs : Key → Value → Bool
  | .inl k, v => Value.isInt k v
  | .inr x, v => Value.isStrOf x v
def keyH (w : World) : Key → Int
  | .inl k => hashInt k
  | .inr x => hashStr w x
theorem keyIs_shape : ∀ {k : Key} {v : Value}, keyIs k v = true → (∃ i t, k = Sum.inl i ∧ v = Value.int i t) ∨ (∃ x t, k = Sum.inr x ∧ v = Value.str x t)
  | .inl i, v, h => by
    obtain ⟨t, e⟩ := Value.isInt_shape (k := i) (v := v) h
    exact .inl ⟨i, t, rfl, e⟩
  | .inr x, v, h => by
    obtain ⟨t, e⟩ := Value.isStrOf_shape (x := x) (v := v) h
    exact .inr ⟨x, t, rfl, e⟩
theorem key_ll (a b : Int) : decide ((Sum.inl a : Key) = Sum.inl b) = (a == b) := by
  by_cases e : a = b
  · subst e; simp
  · have h : ¬ (Sum.inl a : Key) = Sum.inl b := fun q => e (Sum.inl.inj q)
    rw [decide_eq_false h]
    exact (beq_eq_false_iff_ne.mpr e).symm
theorem key_rr (a b : Str) : decide ((Sum.inr a : Key) = Sum.inr b) = decide (a = b) := by
  by_cases e : a = b
  · subst e; simp
  · have h : ¬ (Sum.inr a : Key) = Sum.inr b := fun q => e (Sum.inr.inj q)
    rw [decide_eq_false h, decide_eq_false e]
theorem key_lr (a : Int) (b : Str) : decide ((Sum.inl a : Key) = Sum.inr b) = false := decide_eq_false (fun q => nomatch q)
theorem key_rl (a : Str) (b : Int) : decide ((Sum.inr a : Key) = Sum.inl b) = false := decide_eq_false (fun q => nomatch q)
def mixKind (prog : Program) (w : World) : PySem.KeyKind prog w Key where
  is := keyIs
  hash := keyH w
  inj := fun v a b ha hb => by
    rcases keyIs_shape ha with ⟨i, t, rfl, rfl⟩ | ⟨x, t, rfl, rfl⟩
    · rcases keyIs_shape hb with ⟨j, u, rfl, e⟩ | ⟨y, u, rfl, e⟩
      · injection e with e1 _; rw [e1]
      · exact nomatch e
    · rcases keyIs_shape hb with ⟨j, u, rfl, e⟩ | ⟨y, u, rfl, e⟩
      · exact nomatch e
      · injection e with e1 _; rw [e1]
  byValue := fun k v h => by
    rcases keyIs_shape h with ⟨i, t, rfl, rfl⟩ | ⟨x, t, rfl, rfl⟩ <;> rfl
  pyHash := fun hv h => by
    rcases keyIs_shape hv with ⟨i, t, rfl, rfl⟩ | ⟨x, t, rfl, rfl⟩
    · exact wpAny_pyHash_int h
    · exact wpAny_pyHash_str h
  eqBool := fun hu hv h => by
    rcases keyIs_shape hu with ⟨i, t, rfl, rfl⟩ | ⟨x, t, rfl, rfl⟩
    · rcases keyIs_shape hv with ⟨j, u, rfl, rfl⟩ | ⟨y, u, rfl, rfl⟩
      · rw [key_ll] at h; exact wpAny_eqBool_int h
      · rw [key_lr] at h; exact SeqAt.EqAt.int_str i t y u _ _ _ _ h
    · rcases keyIs_shape hv with ⟨j, u, rfl, rfl⟩ | ⟨y, u, rfl, rfl⟩
      · rw [key_rl] at h; exact SeqAt.EqAt.str_int x t j u _ _ _ _ h
      · rw [key_rr] at h; exact wpAny_eqBool_str h
  «strs» := fun k x t v h => by
    rcases keyIs_shape h with ⟨i, u, rfl, e⟩ | ⟨y, u, rfl, e⟩
    · exact nomatch e
    · injection e with e1 _
      subst e1
      cases v <;> rfl
end L2
namespace L2
open PySem PySem.Spec PyProof.Rows
inductive V where
  | non | bl (b : Bool) | int (i : Int) | str (x : Str) | byt (b : Array UInt8) | flt (b : UInt64) | ref (a : Addr) | ty (n : String)
  deriving DecidableEq
def RelV : V → Value → Prop
  | .non, u => u = Value.none
  | .bl b, u => u = Value.bool b
  | .int i, u => ∃ t, u = Value.int i t
  | .str x, u => ∃ t, u = Value.str x t
  | .byt b, u => ∃ t, u = Value.bytes b t
  | .flt b, u => ∃ t, u = Value.float b t
  | .ref a, u => u = Value.ref a
  | .ty n, u => u = Value.type n
abbrev Vals : List V → List Value → Prop := Paired RelV
theorem Vals.length {xs : List V} {us : List Value} (r : Vals xs us) : xs.length = us.length := Paired.length r
theorem Vals.get : ∀ {xs : List V} {us : List Value} {i : Nat} {x : V}, Vals xs us → xs[i]? = some x → ∃ u, us[i]? = some u ∧ RelV x u
  | _, _, _, _, .nil, e => by simp at e
  | _, _, 0, _, .cons r _, e => by simp at e; subst e; exact ⟨_, rfl, r⟩
  | _, _, i + 1, x, .cons _ t, e => by
    obtain ⟨u, h1, h2⟩ := Vals.get (i := i) (x := x) t (by simpa using e)
    exact ⟨u, by simpa using h1, h2⟩
theorem Vals.set {x : V} {u : Value} (r : RelV x u) : ∀ {xs : List V} {us : List Value} (i : Nat), Vals xs us → Vals (xs.set i x) (us.set i u)
  | _, _, _, .nil => .nil
  | _, _, 0, .cons _ t => .cons r t
  | _, _, i + 1, .cons q t => .cons q (Vals.set r i t)
theorem Vals.append : ∀ {xs ys : List V} {us ws : List Value}, Vals xs us → Vals ys ws → Vals (xs ++ ys) (us ++ ws)
  | _, _, _, _, .nil, s => s
  | _, _, _, _, .cons r t, s => .cons r (Vals.append t s)
theorem Vals.take : ∀ {xs : List V} {us : List Value} (n : Nat), Vals xs us → Vals (xs.take n) (us.take n)
  | _, _, 0, _ => .nil
  | _, _, _ + 1, .nil => .nil
  | _, _, n + 1, .cons r t => .cons r (Vals.take n t)
theorem Vals.drop : ∀ {xs : List V} {us : List Value} (n : Nat), Vals xs us → Vals (xs.drop n) (us.drop n)
  | _, _, 0, r => r
  | _, _, _ + 1, .nil => .nil
  | _, _, n + 1, .cons _ t => Vals.drop n t
def RelO : Option V → Option Value → Prop
  | some v, some u => RelV v u
  | none, none => True
  | _, _ => False
def KV {κ : Type} : List (κ × V) → List (κ × Value) → Prop := Paired fun (p : κ × V) (q : κ × Value) => p.1 = q.1 ∧ RelV p.2 q.2
def kV : Key → V
  | .inl i => .int i
  | .inr x => .str x
inductive HO where
  | lst (xs : List V)
  | tup (xs : List V)
  | dK (kvs : List (Key × V)) | dT (kvs : List (List Key × V))
  | set (S : Int → Bool) (n : Nat)
  | ins (C dx : Addr) (fs : List (Str × V))
  | own (x : Addr)
  | xd (fs : List (Str × V))
  | met (f x : Addr)
  | rng (lo hi : Int)
  | frz (o : Obj) (u : HO)
  | tbl (ps : Array Value)
  | ext (φ : Heap → Prop)
abbrev Hp := Addr → Option HO
def upd (H : Hp) (a : Addr) (o : HO) : Hp := fun b => if b = a then some o else H b
theorem upd_same {H : Hp} {a : Addr} {o : HO} : upd H a o a = some o := by unfold upd; rw [if_pos rfl]
theorem upd_ne {H : Hp} {a b : Addr} {o : HO} (h : b ≠ a) : upd H a o b = H b := by unfold upd; rw [if_neg h]
theorem upd_upd {H : Hp} {a : Addr} {o u : HO} : upd (upd H a o) a u = upd H a u := by
  funext b; unfold upd; split <;> rfl
theorem ne_of_none {H : Hp} {a b : Addr} {o : HO} (h : H a = some o) (h' : H b = none) : a ≠ b := by
  intro e; subst e; rw [h] at h'; cases h'
def TupN (h : Heap) (a : Addr) (its : Array Value) : Prop := ∃ o, h.get? a = some o ∧ o.cls = .type "tuple" ∧ (∃ n, o.data = .seq its n) ∧ o.dict = none
theorem TupN.tup {h : Heap} {a : Addr} {its : Array Value} (x : TupN h a its) : IsTup h a its := let ⟨o, e, c, d, _⟩ := x; ⟨o, e, c, d⟩
theorem TupN.new (h : Heap) (its : Array Value) : TupN (h.push { cls := .type "tuple", data := .seq its }) h.objs.size its := ⟨_, Heap.get?_push_size _ rfl, rfl, ⟨_, rfl⟩, rfl⟩
section
variable (P : Program) (w : World)
def ObjOk (H : Hp) (h : Heap) (a : Addr) : HO → Prop
  | .lst xs => xs.length ≤ sizeLine ∧ ∃ (its : List Value) (n : Nat), Vals xs its ∧ h.get? a = some { cls := .type "list", data := .seq its.toArray n }
  | .tup xs => xs.length ≤ sizeLine ∧ ∃ its : List Value, Vals xs its ∧ TupN h a its.toArray
  | .dK kvs => kvs.length ≤ sizeLine ∧ (a == sysModules) = false ∧ ∃ vs, KV kvs vs ∧ h.DictOf (mixKind P w) a vs
  | .dT kvs => kvs.length ≤ sizeLine ∧ (a == sysModules) = false ∧ ∃ xs : List (List Key × Addr × Value),
      Paired (fun (p : List Key × V) (q : List Key × Addr × Value) => p.1 = q.1 ∧ H q.2.1 = some (.tup (p.1.map kV)) ∧ RelV p.2 q.2.2) kvs xs ∧
      ∃ o es ep, h.get? a = some o ∧ o.ExactDict ∧ o.data = .dict es ep ∧ es.toList = xs.map (entryOfKey (tupleKind (mixKind P w))) ∧ (xs.map (·.1)).Nodup
  | .set S n => h.SetOf (intKind P w) a S n
  | .ins C dx fs => H dx = some (.own a) ∧ fs.length ≤ 1000 ∧ dx ≠ a ∧ h.get? a = some (PySem.W.instObj C dx) ∧
      ∃ mA, h.Ns1 dx mA ∧ (∀ f, RelO (fs.lookup f) (mA f)) ∧ PySem.Within mA (fs.map (·.1))
  | .own _ => ∃ o, h.get? a = some o
  | .xd fs => ∃ mA, h.Ns1 a mA ∧ ∀ f, RelO (fs.lookup f) (mA f)
  | .rng lo hi => ∃ t u v, h.get? a = some { cls := .type "range", data := .fields #[.int lo t, .int hi u, .int 1 v] }
  | .frz o u => h.get? a = some o ∧ ObjOk H h a u
  | .tbl ps => h.get? a = some { cls := .none, data := .fields ps }
  | .met f x => h.get? a = some (PySem.W.methodObj (.ref f) (.ref x))
  | .ext φ => φ h ∧ (∃ o, h.get? a = some o) ∧ ∀ h1 h2 : Heap, φ h1 → (∀ o, h1.get? a = some o → h2.get? a = some o) → φ h2
def HOk (H : Hp) (h : Heap) : Prop := ∀ a o, H a = some o → ObjOk P w H h a o
end
section
variable {P : Program} {w : World} {H H' : Hp} {h h' : Heap} {a : Addr} {o : HO}
theorem ObjOk.lt (x : ObjOk P w H h a o) : a < h.objs.size := by
  cases o with
  | lst xs => obtain ⟨_, _, _, _, e⟩ := x; exact Heap.lt_size e
  | tup xs => obtain ⟨_, _, _, p⟩ := x; exact p.tup.lt
  | dK kvs => obtain ⟨_, _, _, _, o, _, _, e, _⟩ := x; exact Heap.lt_size e
  | dT kvs => obtain ⟨_, _, _, _, o, _, _, e, _⟩ := x; exact Heap.lt_size e
  | set S n => obtain ⟨o, _, _, _, e, _⟩ := x; exact Heap.lt_size e
  | ins C dx fs => obtain ⟨_, _, _, e, _⟩ := x; exact Heap.lt_size e
  | own y => obtain ⟨_, e⟩ := x; exact Heap.lt_size e
  | xd fs => obtain ⟨_, ⟨_, _, _, e, _⟩, _⟩ := x; exact Heap.lt_size e
  | rng lo hi => obtain ⟨_, _, _, e⟩ := x; exact Heap.lt_size e
  | frz ob u => obtain ⟨e, _⟩ := x; exact Heap.lt_size e
  | tbl ps => exact Heap.lt_size (show h.get? a = some _ from x)
  | met f y => exact Heap.lt_size (show h.get? a = some _ from x)
  | ext φ => obtain ⟨_, ⟨_, e⟩, _⟩ := x; exact Heap.lt_size e
theorem Paired.mapP {α β : Type} {F G : α → β → Prop} : ∀ {l₁ : List α} {l₂ : List β}, Paired F l₁ l₂ → (∀ a b, F a b → G a b) → Paired G l₁ l₂
  | _, _, .nil, _ => .nil
  | _, _, .cons r t, f => .cons (f _ _ r) (Paired.mapP t f)
theorem ObjOk.stay (x : ObjOk P w H h a o) (k : ∀ b u, (b = a ∨ H b = some (.own a)) → h.get? b = some u → h'.get? b = some u)
    (ho : ∀ b, H b = some (.own a) → H' b = some (.own a)) (ht : ∀ b xs, H b = some (.tup xs) → H' b = some (.tup xs)) : ObjOk P w H' h' a o := by
  induction o with
  | lst xs => obtain ⟨z, its, n, r, e⟩ := x; exact ⟨z, its, n, r, k _ _ (.inl rfl) e⟩
  | tup xs => obtain ⟨z, its, r, ob, e, c⟩ := x; exact ⟨z, its, r, ob, k _ _ (.inl rfl) e, c⟩
  | dK kvs => obtain ⟨z, y, vs, r, ob, es, ep, e, c⟩ := x; exact ⟨z, y, vs, r, ob, es, ep, k _ _ (.inl rfl) e, c⟩
  | dT kvs =>
    obtain ⟨z, y, xs, r, ob, es, ep, e, c⟩ := x
    exact ⟨z, y, xs, Paired.mapP r fun p q z => ⟨z.1, ht _ _ z.2.1, z.2.2⟩, ob, es, ep, k _ _ (.inl rfl) e, c⟩
  | set S n => obtain ⟨ob, es, ep, t, e, c⟩ := x; exact ⟨ob, es, ep, t, k _ _ (.inl rfl) e, c⟩
  | ins C dx fs =>
    obtain ⟨d, z, ne, e, mA, ⟨od, es, ep, e2, c⟩, r⟩ := x
    exact ⟨ho _ d, z, ne, k _ _ (.inl rfl) e, mA, ⟨od, es, ep, k _ _ (.inr d) e2, c⟩, r⟩
  | own y => obtain ⟨ob, e⟩ := x; exact ⟨ob, k _ _ (.inl rfl) e⟩
  | xd fs => obtain ⟨mA, ⟨od, es, ep, e, c⟩, r⟩ := x; exact ⟨mA, ⟨od, es, ep, k _ _ (.inl rfl) e, c⟩, r⟩
  | rng lo hi => obtain ⟨t, u, v, e⟩ := x; exact ⟨t, u, v, k _ _ (.inl rfl) e⟩
  | frz ob u ih => obtain ⟨e, q⟩ := x; exact ⟨k _ _ (.inl rfl) e, ih q⟩
  | tbl ps =>
    have e : h.get? a = some { cls := .none, data := .fields ps } := x
    show h'.get? a = some { cls := .none, data := .fields ps }
    exact k a _ (.inl rfl) e
  | met f y =>
    have e : h.get? a = some (PySem.W.methodObj (.ref f) (.ref y)) := x
    show h'.get? a = some (PySem.W.methodObj (.ref f) (.ref y))
    exact k a _ (.inl rfl) e
  | ext φ => obtain ⟨p, ⟨o, e⟩, st⟩ := x; exact ⟨st _ _ p fun o q => k _ _ (.inl rfl) q, ⟨o, k _ _ (.inl rfl) e⟩, st⟩
theorem HOk.lt (x : HOk P w H h) (e : H a = some o) : a < h.objs.size := (x a o e).lt
theorem HOk.fresh (x : HOk P w H h) (e : h.objs.size ≤ a) : H a = none := by
  cases q : H a with
  | none => rfl
  | some u => exact absurd (Nat.lt_of_lt_of_le (x.lt q) e) (Nat.lt_irrefl _)
theorem HOk.kept (x : HOk P w H h) (k : ∀ b u, h.get? b = some u → h'.get? b = some u) : HOk P w H h' := fun a o e =>
  (x a o e).stay (fun b u _ q => k b u q) (fun _ q => q) fun _ _ q => q
theorem HOk.laid (x : HOk P w H h) (k : ∀ b u, h.get? b = some u → h'.get? b = some u) (hp : h.objs.size ≤ a) (new : ObjOk P w (upd H a o) h' a o) : HOk P w (upd H a o) h' := fun b u e => by
  have hn := x.fresh hp
  by_cases hb : b = a
  · subst hb; rw [upd_same] at e; cases e; exact new
  · rw [upd_ne hb] at e
    exact (x b u e).stay (fun c v _ q => k c v q) (fun c q => by rw [upd_ne (ne_of_none q hn)]; exact q) fun c xs q => by rw [upd_ne (ne_of_none q hn)]; exact q
end
def Rd (H : Hp) (a : Addr) (u : HO) : Prop := H a = some u ∨ ∃ o, H a = some (.frz o u)
theorem Rd.of {H : Hp} {a : Addr} {u : HO} (h : H a = some u) : Rd H a u := .inl h
theorem Rd.ok {P : Program} {w : World} {H : Hp} {h : Heap} {a : Addr} {u : HO} (r : Rd H a u) (x : HOk P w H h) : ObjOk P w H h a u := by
  rcases r with r | ⟨o, r⟩
  · exact x a u r
  · obtain ⟨_, q⟩ := x a _ r
    exact q
def Mut : Option HO → Prop
  | some (.lst _) => True
  | some (.dK _) => True
  | some (.dT _) => True
  | some (.set _ _) => True
  | some (.ins _ _ _) => True
  | some (.ext _) => True
  | _ => False
section
variable {P : Program} {w : World} {H : Hp} {h h' : Heap} {x e : Addr} {o' : HO}
theorem HOk.write (ok : HOk P w H h) (mu : Mut (H x)) (he : e = x ∨ H e = some (.own x)) (k : ∀ b u, b ≠ e → h.get? b = some u → h'.get? b = some u) (heo : ∃ u, h'.get? e = some u)
    (new : ObjOk P w (upd H x o') h' x o') : HOk P w (upd H x o') h' := fun b u q => by
  have nown : ∀ c y, H c = some (.own y) → c ≠ x := fun c y r z => by subst z; rw [r] at mu; exact mu
  have ntup : ∀ c xs, H c = some (.tup xs) → c ≠ x := fun c xs r z => by subst z; rw [r] at mu; exact mu
  by_cases hb : b = x
  · subst hb; rw [upd_same] at q; cases q; exact new
  · rw [upd_ne hb] at q
    by_cases hbe : b = e
    · have q' : H b = some (.own x) := by
        rcases he with z | z
        · exact absurd (hbe.trans z) hb
        · rw [hbe]; exact z
      rw [q] at q'; cases q'
      obtain ⟨v, hv⟩ := heo
      exact ⟨v, by rw [hbe]; exact hv⟩
    · refine (ok b u q).stay (fun c v hc r => k c v ?_ r) (fun c r => by rw [upd_ne (nown c b r)]; exact r) fun c xs r => by rw [upd_ne (ntup c xs r)]; exact r
      rcases hc with rfl | hc
      · exact hbe
      · rintro rfl
        rcases he with z | z
        · exact nown c b hc z
        · rw [hc] at z; cases z; exact hb rfl
end
structure Un (fs ex : List Addr) (H H' : Hp) (h h' : Heap) : Prop where
  keep : ∀ b o, h.get? b = some o → H b = none → b ∉ fs → b ∉ ex → h'.get? b = some o
  slot : ∀ b o, h.get? b = some o → H b = none → b ∈ fs → b ∉ ex → ∃ sl, h'.get? b = some { o with slots := sl }
  free : ∀ b o, h.get? b = some o → H b = none → b ∉ ex → H' b = none
  there : ∀ b o, h.get? b = some o → b ∉ ex → ∃ o', h'.get? b = some o'
  tups : ∀ b xs, H b = some (.tup xs) → H' b = some (.tup xs)
  frzs : ∀ b o u, H b = some (.frz o u) → H' b = some (.frz o u)
  tbls : ∀ b ps, H b = some (.tbl ps) → ∃ more, H' b = some (.tbl (ps ++ more))
section
variable {fs fs' ex ex' : List Addr} {H H1 H2 : Hp} {h h1 h2 h' : Heap} {a x e : Addr} {o : HO}
theorem Un.any (u : Un fs ex H H1 h h1) {b : Addr} {ob : Obj} (q : h.get? b = some ob) (n : H b = none) (hx : b ∉ ex) : ∃ sl, h1.get? b = some { ob with slots := sl } := by
  by_cases hb : b ∈ fs
  · exact u.slot b ob q n hb hx
  · exact ⟨ob.slots, u.keep b ob q n hb hx⟩
theorem Un.trans (a : Un fs ex H H1 h h1) (b : Un fs ex H1 H2 h1 h2) : Un fs ex H H2 h h2 where
  keep := fun c ob q n hc hx => b.keep c ob (a.keep c ob q n hc hx) (a.free c ob q n hx) hc hx
  slot := fun c ob q n hc hx => by
    obtain ⟨sl, e1⟩ := a.slot c ob q n hc hx
    obtain ⟨sl', e2⟩ := b.slot c _ e1 (a.free c ob q n hx) hc hx
    exact ⟨sl', e2⟩
  free := fun c ob q n hx => by
    obtain ⟨o', e1⟩ := a.there c ob q hx
    exact b.free c o' e1 (a.free c ob q n hx) hx
  there := fun c ob q hx => by
    obtain ⟨o', e1⟩ := a.there c ob q hx
    exact b.there c o' e1 hx
  tups := fun c xs q => b.tups c xs (a.tups c xs q)
  frzs := fun c ob xs q => b.frzs c ob xs (a.frzs c ob xs q)
  tbls := fun c ps q => by
    obtain ⟨m1, e1⟩ := a.tbls c ps q
    obtain ⟨m2, e2⟩ := b.tbls c _ e1
    exact ⟨m1 ++ m2, by rw [e2, Array.append_assoc]⟩
theorem Un.kept (k : ∀ b u, h.get? b = some u → h'.get? b = some u) : Un fs ex H H h h' :=
  ⟨fun b ob q _ _ _ => k b ob q, fun b ob q _ _ _ => ⟨ob.slots, k b ob q⟩, fun _ _ _ n _ => n, fun b ob q _ => ⟨ob, k b ob q⟩, fun _ _ q => q, fun _ _ _ q => q, fun _ ps q => ⟨#[], by rw [q]; simp⟩⟩
theorem Un.refl : Un fs ex H H h h := Un.kept fun _ _ q => q
theorem Un.laid (k : ∀ b u, h.get? b = some u → h'.get? b = some u) (hp : h.objs.size ≤ a) (hn : H a = none) : Un fs ex H (upd H a o) h h' where
  keep := fun b u q _ _ _ => k b u q
  slot := fun b u q _ _ _ => ⟨u.slots, k b u q⟩
  free := fun b u q n _ => by rw [upd_ne (Nat.ne_of_lt (Nat.lt_of_lt_of_le (Heap.lt_size q) hp))]; exact n
  there := fun b u q _ => ⟨u, k b u q⟩
  tups := fun b xs q => by rw [upd_ne (ne_of_none q hn)]; exact q
  frzs := fun b u xs q => by rw [upd_ne (ne_of_none q hn)]; exact q
  tbls := fun b ps q => ⟨#[], by rw [upd_ne (ne_of_none q hn), q]; simp⟩
theorem Un.write (mu : Mut (H x)) (he : e = x ∨ H e = some (.own x)) (k : ∀ b u, b ≠ e → h.get? b = some u → h'.get? b = some u) (heo : ∃ u, h'.get? e = some u) : Un fs ex H (upd H x o) h h' := by
  have hx : ∀ b, H b = none → b ≠ x := fun b n z => by subst z; rw [n] at mu; exact mu
  have hb : ∀ b, H b = none → b ≠ e := fun b n z => by
    subst z
    rcases he with r | r
    · exact hx b n r
    · rw [n] at r; cases r
  have hm : ∀ b u, H b = some u → ¬ Mut (some u) → b ≠ x := fun b u q nm z => by subst z; rw [q] at mu; exact nm mu
  refine ⟨fun b u q n _ _ => k b u (hb b n) q, fun b u q n _ _ => ⟨u.slots, k b u (hb b n) q⟩, fun b u q n _ => by rw [upd_ne (hx b n)]; exact n, fun b u q _ => ?_,
    fun b xs q => by rw [upd_ne (hm b _ q fun z => z)]; exact q, fun b u xs q => by rw [upd_ne (hm b _ q fun z => z)]; exact q, fun b ps q => ⟨#[], by rw [upd_ne (hm b _ q fun z => z), q]; simp⟩⟩
  by_cases hbe : b = e
  · subst hbe; exact heo
  · exact ⟨u, k b u hbe q⟩
theorem Un.mono (u : Un fs ex H H1 h h1) (hs : ∀ b ∈ fs, b ∈ fs') (hx : ∀ b ∈ ex, b ∈ ex') : Un fs' ex' H H1 h h1 :=
  ⟨fun b ob q n hb he => u.keep b ob q n (fun z => hb (hs b z)) fun z => he (hx b z), fun _ _ q n _ he => u.any q n fun z => he (hx _ z), fun b ob q n he => u.free b ob q n fun z => he (hx b z), fun b ob q he => u.there b ob q fun z => he (hx b z), u.tups, u.frzs, u.tbls⟩
end
def trk (h : Heap) (H : Hp) : List Addr := (List.range h.objs.size).filter fun a => (H a).isSome
def hidT (h : Heap) (H : Hp) : Heap := PySem.W.hideAll h (trk h H)
theorem hidT_size (h : Heap) (H : Hp) : (hidT h H).objs.size = h.objs.size := PySem.W.hideAll_size _ _
theorem hidT_get {h : Heap} {H : Hp} {b : Addr} {o : Obj} (e : h.get? b = some o) (n : H b = none) : (hidT h H).get? b = some o :=
  PySem.W.hideAll_get _ e fun hm => by
    have q : (H b).isSome = true := (List.mem_filter.mp hm).2
    rw [n] at q; simp at q
theorem of_hidT {h : Heap} {H : Hp} {b : Addr} {o : Obj} (e : (hidT h H).get? b = some o) : h.get? b = some o ∧ H b = none := by
  have e' : h.get? b = some o := PySem.W.of_hideAll (trk h H) e
  refine ⟨e', ?_⟩
  cases q : H b with
  | none => rfl
  | some x =>
    have hm : b ∈ trk h H := List.mem_filter.mpr ⟨List.mem_range.mpr (Heap.lt_size e'), by simp [q]⟩
    have z : (hidT h H).get? b = none := PySem.W.hideAll_none (trk h H) hm
    rw [z] at e; cases e
def allNews (g h : Heap) (L : Addr) : List (Addr × Obj) := (List.range h.objs.size).filterMap fun a => if a = L ∨ (g.get? a).isSome = true then none else (h.get? a).map fun o => (a, o)
def rest (g h : Heap) (L d : Addr) : List (Addr × Obj) := (allNews g h L).filter fun p => decide (p.1 ≠ d)
end L2
namespace L2
open PySem PySem.Spec PyProof.Rows
structure Mod (K : PySem.W.Frag) (mg : Str → Option Value) (base : Heap) : Prop where
  kin : K.In base
  glob : base.Ns mainGlobals mg
  blt : ∃ mb, base.Ns builtinsNs mb ∧ ∀ x : Str, x ≠ "__name__" → mb x = bootBuiltins x
  nolimit : base.NoLimit
structure Cx where
  prog : Program
  w : World
  K : PySem.W.Frag
  mg : Str → Option Value
  base : Heap
  A : Around
  N : List Str
  s₀ : Shared
  H₀ : Hp
  env : Env
  outer : List Env
  stack : List Env
  ex : List Addr
  fn : Str → Bool
  calm : Bool
  pn : List (Addr × Obj)
  xe : Value → Shared → Prop
def frs (l : List Env) : List Addr := l.filterMap (·.frame)
abbrev Cx.fs (X : Cx) : List Addr := frs X.outer
def Vis (sc : Scope) (x : Str) : Prop := sc.names.lookup x = some .local ∨ sc.names.lookup x = some .cell ∨ sc.names.lookup x = some .free
def Loc (sc : Scope) (x : Str) : Prop := sc.names.lookup x = some .local ∨ sc.names.lookup x = some .cell
def Look (env : Env) (h : Heap) (m : Str → Option Value) (x : Str) (u : Value) : Prop :=
  (env.kindOf x = some .local ∧ m x = some u) ∨ ((env.kindOf x = some .cell ∨ env.kindOf x = some .free) ∧ ∃ c, env.cells.lookup x = some c ∧ h.IsCell c (some u))
structure Cx.Ok (X : Cx) : Prop where
  mod : Mod X.K X.mg X.base
  kind : X.env.scope.kind = .function
  glob : X.env.globals = mainGlobals
  blt : X.env.builtins = builtinsNs
  above : X.s₀.heap.objs.size ≤ X.env.locals
  inj : ∀ x y c, X.env.cells.lookup x = some c → X.env.cells.lookup y = some c → x = y
  has : ∀ x, (X.env.kindOf x = some .cell ∨ X.env.kindOf x = some .free) → ∃ c, X.env.cells.lookup x = some c
  cab : ∀ x c, X.fn x = true → X.env.cells.lookup x = some c → X.s₀.heap.objs.size ≤ c
  hd : X.calm = true → X.A.handled = none
  frames : X.A.frames = some X.stack
  stk : X.stack = X.outer ∨ (X.stack = X.env :: X.outer ∧ X.env.frame = some X.env.locals)
  exf : ∀ b ∈ X.ex, b ≠ X.env.locals ∧ ∀ x c, X.env.cells.lookup x = some c → c ≠ b
  bs : ∀ b o, X.base.get? b = some o → X.s₀.heap.get? b = some o ∧ X.H₀ b = none
  bsz : X.base.objs.size ≤ X.s₀.heap.objs.size
  noex : ∀ b o, X.base.get? b = some o → b ∉ X.ex
  exfs : ∀ b ∈ X.ex, b ∉ X.fs
  funs : X.s₀.heap.FunFrames X.base X.outer
  frf : ∀ b ∈ X.fs, X.H₀ b = none
structure Inv (X : Cx) (pins : List (Addr × Obj)) (σ : List (Option V)) (H : Hp) (s : Shared) : Prop where
  ok : X.Ok
  os : s.os = X.s₀.os
  bare : AllBare s.gens
  base : Un X.fs X.ex X.H₀ H X.s₀.heap s.heap
  loc : ∃ m, s.heap.Ns X.env.locals m ∧ ∀ (i : Nat) (x : Str) (v : V), X.N[i]? = some x → σ[i]? = some (some v) → Vis X.env.scope x → ∃ u, RelV v u ∧ Look X.env s.heap m x u
  cell : ∀ x c, X.env.cells.lookup x = some c → ∃ v, s.heap.IsCell c v
  free : H X.env.locals = none
  freeC : ∀ x c, X.env.cells.lookup x = some c → H c = none
  pin : ∀ p ∈ X.pn ++ pins, s.heap.get? p.1 = some p.2 ∧ H p.1 = none ∧ p.1 ≠ X.env.locals ∧ p.1 ∉ X.fs ∧ ∀ v, p.2.data ≠ .cell v
  hok : HOk X.prog X.w H s.heap
  len : σ.length = X.N.length
section
variable {X : Cx} {pins : List (Addr × Obj)} {σ : List (Option V)} {H H' : Hp} {s : Shared} {h' : Heap}
theorem Cx.Ok.nofr (ok : X.Ok) {b : Addr} {o : Obj} (e : X.base.get? b = some o) : b ∉ X.fs := fun hb => by
  have := (ok.funs.mem hb).1
  rw [e] at this; cases this
theorem Inv.bs (I : Inv X pins σ H s) : ∀ b o, X.base.get? b = some o → s.heap.get? b = some o ∧ H b = none := fun b o e =>
  ⟨I.base.keep b o (I.ok.bs b o e).1 (I.ok.bs b o e).2 (I.ok.nofr e) (I.ok.noex b o e), I.base.free b o (I.ok.bs b o e).1 (I.ok.bs b o e).2 (I.ok.noex b o e)⟩
theorem Inv.bk (I : Inv X pins σ H s) : ∀ b o, X.base.get? b = some o → s.heap.get? b = some o := fun b o e => (I.bs b o e).1
theorem Inv.mod (I : Inv X pins σ H s) : Mod X.K X.mg X.base := I.ok.mod
theorem Inv.kIn (I : Inv X pins σ H s) : X.K.In s.heap := I.ok.mod.kin.keeps I.bk
theorem Inv.nolimit (I : Inv X pins σ H s) : s.heap.NoLimit := I.ok.mod.nolimit.keeps I.bk
theorem Inv.fr (I : Inv X pins σ H s) : ∃ m, Fr X.base X.env.locals s.heap m :=
  let ⟨m, hn, _⟩ := I.loc
  ⟨m, hn, I.bk, Nat.le_trans I.ok.bsz I.ok.above⟩
theorem Inv.lt (I : Inv X pins σ H s) : X.env.locals < s.heap.objs.size := let ⟨_, hn, _⟩ := I.loc; hn.lt
theorem Inv.sz (I : Inv X pins σ H s) : X.s₀.heap.objs.size ≤ s.heap.objs.size := Nat.le_trans I.ok.above (Nat.le_of_lt I.lt)
theorem Inv.nofs (I : Inv X pins σ H s) {a : Addr} (h : s.heap.objs.size ≤ a) : a ∉ X.fs := fun hb => by
  obtain ⟨_, o, ho, _⟩ := I.ok.funs.mem hb
  exact absurd (Nat.lt_of_lt_of_le (Heap.lt_size ho) (Nat.le_trans I.sz h)) (Nat.lt_irrefl _)
theorem Inv.cne (I : Inv X pins σ H s) : ∀ x c, X.env.cells.lookup x = some c → c ≠ X.env.locals := fun x c e z => by
  obtain ⟨v, o, ho, hd⟩ := I.cell x c e
  obtain ⟨m, ⟨o', es, ep, ho', hd', _⟩, _⟩ := I.loc
  rw [z, ho'] at ho; cases ho; rw [hd'] at hd; cases hd
theorem Inv.funs (I : Inv X pins σ H s) : s.heap.FunFrames X.base X.outer := by
  have all : ∀ (l : List Env), (∀ b ∈ frs l, b ∈ X.fs) → X.s₀.heap.FunFrames X.base l → s.heap.FunFrames X.base l := by
    intro l
    induction l with
    | nil => intro _ _; trivial
    | cons env r ih =>
      intro hs hl
      obtain ⟨hk, ⟨L, o, hf, hn, ho, hd⟩, hr⟩ := hl
      have hL : L ∈ X.fs := hs L (by unfold frs; rw [List.filterMap_cons, hf]; exact List.mem_cons_self)
      obtain ⟨sl, e⟩ := I.base.slot L o ho (I.ok.frf L hL) hL fun z => I.ok.exfs L z hL
      exact ⟨hk, ⟨L, _, hf, hn, e, hd⟩, ih (fun b hb => hs b (by unfold frs; rw [List.filterMap_cons, hf]; exact List.mem_cons_of_mem _ hb)) hr⟩
  exact all X.outer (fun _ hb => hb) I.ok.funs
theorem Inv.stack (I : Inv X pins σ H s) : s.heap.FunFrames X.base X.stack := by
  rcases I.ok.stk with e | ⟨e, hf⟩
  · rw [e]; exact I.funs
  · rw [e]
    obtain ⟨m, hn, _⟩ := I.loc
    refine .cons (by rw [I.ok.kind]; decide) hf hn ?_ I.funs
    exact Heap.get?_none_of_le (Nat.le_trans I.ok.bsz I.ok.above)
theorem Inv.stkSub (I : Inv X pins σ H s) : ∀ b ∈ frs X.stack, b ∈ X.env.locals :: X.fs := fun b hb => by
  rcases I.ok.stk with e | ⟨e, hf⟩
  · rw [e] at hb; exact List.mem_cons_of_mem _ hb
  · rw [e] at hb
    unfold frs at hb
    rw [List.filterMap_cons, hf] at hb
    exact hb
theorem Inv.stkFree (I : Inv X pins σ H s) : ∀ b ∈ frs X.stack, H b = none := fun b hb => by
  rcases List.mem_cons.mp (I.stkSub b hb) with e | hb
  · rw [e]; exact I.free
  · obtain ⟨_, o, ho, _⟩ := I.ok.funs.mem hb
    exact I.base.free b o ho (I.ok.frf b hb) fun z => I.ok.exfs b z hb
theorem Inv.step {g' : Array GenState} {t' : Nat} {d' : Drawn} {ch : List Addr} (I : Inv X pins σ H s)
    (hch : ∀ b ∈ ch, (b ∈ X.ex ∨ X.s₀.heap.objs.size ≤ b) ∧ b ≠ X.env.locals ∧ (∀ x c, X.env.cells.lookup x = some c → c ≠ b) ∧ ∀ p ∈ X.pn ++ pins, p.1 ≠ b)
    (keep : ∀ b o, b ≠ X.env.locals → b ∉ X.fs → b ∉ ch → s.heap.get? b = some o → H b = none → h'.get? b = some o)
    (slot : ∀ b o, b ≠ X.env.locals → b ∈ X.fs → b ∉ ch → s.heap.get? b = some o → H b = none → ∃ sl, h'.get? b = some { o with slots := sl }) (free : ∀ b o, b ∉ ch → s.heap.get? b = some o → H b = none → H' b = none)
    (there : ∀ b o, b ∉ ch → s.heap.get? b = some o → ∃ o', h'.get? b = some o')
    (tups : ∀ b xs, H b = some (.tup xs) → H' b = some (.tup xs)) (frzs : ∀ b o u, H b = some (.frz o u) → H' b = some (.frz o u)) (tbls : ∀ b ps, H b = some (.tbl ps) → ∃ more, H' b = some (.tbl (ps ++ more)))
    (ns : ∀ m, s.heap.Ns X.env.locals m → h'.Ns X.env.locals m) (hok : HOk X.prog X.w H' h') (hg : AllBare g') :
    Inv X pins σ H' { s with heap := h', gens := g', drawn := d', toks := t' } := by
  have neL : ∀ b o, X.s₀.heap.get? b = some o → b ≠ X.env.locals := fun b o e => Nat.ne_of_lt (Nat.lt_of_lt_of_le (Heap.lt_size e) I.ok.above)
  have neC : ∀ b o, X.s₀.heap.get? b = some o → b ∉ X.ex → b ∉ ch := fun b o e hx hb => by
    rcases (hch b hb).1 with z | z
    · exact hx z
    · exact absurd (Nat.lt_of_lt_of_le (Heap.lt_size e) z) (Nat.lt_irrefl _)
  have cellK : ∀ x c, X.env.cells.lookup x = some c → ∀ v, s.heap.IsCell c v → h'.IsCell c v := fun x c e v ⟨o, ho, hd⟩ => by
    have nch : c ∉ ch := fun z => (hch c z).2.2.1 x c e rfl
    by_cases hc : c ∈ X.fs
    · obtain ⟨sl, q⟩ := slot c o (I.cne x c e) hc nch ho (I.freeC x c e)
      exact ⟨_, q, hd⟩
    · exact ⟨o, keep c o (I.cne x c e) hc nch ho (I.freeC x c e), hd⟩
  refine ⟨I.ok, I.os, hg, ⟨fun b o e n hb hx => ?_, fun b o e n hb hx => ?_, fun b o e n hx => ?_, fun b o e hx => ?_, fun b xs e => tups b xs (I.base.tups b xs e), fun b o xs e => frzs b o xs (I.base.frzs b o xs e), fun b ps e => ?_⟩, ?_, fun x c e => ?_, ?_, fun x c e => ?_, fun p hp => ?_, hok, I.len⟩
  · exact keep b o (neL b o e) hb (neC b o e hx) (I.base.keep b o e n hb hx) (I.base.free b o e n hx)
  · obtain ⟨sl, e1⟩ := I.base.slot b o e n hb hx
    obtain ⟨sl', e2⟩ := slot b _ (neL b o e) hb (neC b o e hx) e1 (I.base.free b o e n hx)
    exact ⟨sl', e2⟩
  · obtain ⟨o', e1⟩ := I.base.there b o e hx
    exact free b o' (neC b o e hx) e1 (I.base.free b o e n hx)
  · obtain ⟨o', e1⟩ := I.base.there b o e hx
    exact there b o' (neC b o e hx) e1
  · obtain ⟨m1, e1⟩ := I.base.tbls b ps e
    obtain ⟨m2, e2⟩ := tbls b _ e1
    exact ⟨m1 ++ m2, by rw [e2, Array.append_assoc]⟩
  · obtain ⟨m, hn, hl⟩ := I.loc
    refine ⟨m, ns m hn, fun i x v e1 e2 e3 => ?_⟩
    obtain ⟨u, r, l⟩ := hl i x v e1 e2 e3
    refine ⟨u, r, ?_⟩
    rcases l with l | ⟨k, c, e, z⟩
    · exact .inl l
    · exact .inr ⟨k, c, e, cellK x c e _ z⟩
  · obtain ⟨v, z⟩ := I.cell x c e
    exact ⟨v, cellK x c e v z⟩
  · obtain ⟨m, ⟨o, _, _, ho, _⟩, _⟩ := I.loc
    exact free _ o (fun z => (hch _ z).2.1 rfl) ho I.free
  · obtain ⟨v, o, ho, hd⟩ := I.cell x c e
    exact free c o (fun z => (hch c z).2.2.1 x c e rfl) ho (I.freeC x c e)
  · obtain ⟨e, n, ne, nf, d⟩ := I.pin p hp
    have nch : p.1 ∉ ch := fun z => (hch p.1 z).2.2.2 p hp rfl
    exact ⟨keep p.1 p.2 ne nf nch e n, free p.1 p.2 nch e n, ne, nf, d⟩
theorem Inv.un {t' : Nat} (I : Inv X pins σ H s) (u : Un X.fs [] H H' s.heap h') (hok : HOk X.prog X.w H' h') : Inv X pins σ H' { s with heap := h', toks := t' } := by
  obtain ⟨m, ⟨o, es, ep, ho, r⟩, _⟩ := id I.loc
  obtain ⟨sl, hL⟩ := u.any ho I.free (by simp)
  exact I.step (g' := s.gens) (d' := s.drawn) (ch := []) (fun _ z => nomatch z) (fun b o _ hb _ e n => u.keep b o e n hb (by simp)) (fun b o _ hb _ e n => u.slot b o e n hb (by simp)) (fun b o _ e n => u.free b o e n (by simp)) (fun b o _ e => u.there b o e (by simp)) u.tups u.frzs u.tbls (fun m' hm => by
    obtain ⟨o', es', ep', ho', r'⟩ := hm
    rw [ho] at ho'; cases ho'
    exact ⟨_, es', ep', hL, r'⟩) hok I.bare
theorem Inv.call {g' : Array GenState} {t' : Nat} {d' : Drawn} {ch : List Addr} (I : Inv X pins σ H s) (u : Un (frs X.stack) ch H H' s.heap h') (hok : HOk X.prog X.w H' h') (hg : AllBare g')
    (hch : ∀ b ∈ ch, (b ∈ X.ex ∨ X.s₀.heap.objs.size ≤ b) ∧ b ≠ X.env.locals ∧ (∀ x c, X.env.cells.lookup x = some c → c ≠ b) ∧ ∀ p ∈ X.pn ++ pins, p.1 ≠ b) :
    Inv X pins σ H' { s with heap := h', gens := g', drawn := d', toks := t' } := by
  obtain ⟨m, ⟨o, es, ep, ho, r⟩, _⟩ := id I.loc
  obtain ⟨sl, hL⟩ := u.any ho I.free fun z => (hch _ z).2.1 rfl
  exact I.step (ch := ch) hch (fun b o hL hb hc e n => u.keep b o e n (fun z => (List.mem_cons.mp (I.stkSub b z)).elim hL hb) hc) (fun b o _ _ hc e n => u.any e n hc) (fun b o hc e n => u.free b o e n hc) (fun b o hc e => u.there b o e hc) u.tups u.frzs u.tbls (fun m' hm => by
    obtain ⟨o', es', ep', ho', r'⟩ := hm
    rw [ho] at ho'; cases ho'
    exact ⟨_, es', ep', hL, r'⟩) hok hg
theorem Inv.turned {t' : Nat} {it : Addr} (I : Inv X pins σ H s) (k : ∀ b o, b ≠ it → s.heap.get? b = some o → h'.get? b = some o) (hn : H it = none) (hL : it ≠ X.env.locals)
    (h1 : it ∈ X.ex ∨ X.s₀.heap.objs.size ≤ it) (h2 : ∀ x c, X.env.cells.lookup x = some c → c ≠ it) (h3 : ∀ p ∈ X.pn ++ pins, p.1 ≠ it) : Inv X pins σ H { s with heap := h', toks := t' } := by
  have nit : ∀ b u, H b = some u → b ≠ it := fun b u e z => by rw [z, hn] at e; cases e
  refine I.step (g' := s.gens) (d' := s.drawn) (ch := [it]) (fun b hb => ?_) (fun b o _ _ hc e _ => k b o (fun z => hc (by simp [z])) e) (fun b o _ _ hc e _ => ⟨o.slots, k b o (fun z => hc (by simp [z])) e⟩) (fun _ _ _ _ n => n)
    (fun b o hc e => ⟨o, k b o (fun z => hc (by simp [z])) e⟩) (fun _ _ e => e) (fun _ _ _ e => e) (fun b ps e => ⟨#[], by rw [e]; simp⟩) (fun m hm => ?_) (fun b u e => ?_) I.bare
  · have e : b = it := by simpa using hb
    subst e
    exact ⟨h1, hL, h2, h3⟩
  · obtain ⟨o, es, ep, ho, r⟩ := hm
    exact ⟨o, es, ep, k _ o (Ne.symm hL) ho, r⟩
  · refine (I.hok b u e).stay (fun c v hc q => k c v ?_ q) (fun _ q => q) fun _ _ q => q
    rcases hc with z | z
    · rw [z]; exact nit b u e
    · exact nit c _ z
theorem Inv.tok (I : Inv X pins σ H s) (t : Nat) : Inv X pins σ H { s with toks := t } := I.un (h' := s.heap) (t' := t) Un.refl I.hok
theorem Inv.kept {t' : Nat} (I : Inv X pins σ H s) (k : ∀ b u, s.heap.get? b = some u → h'.get? b = some u) : Inv X pins σ H { s with heap := h', toks := t' } := I.un (Un.kept k) (I.hok.kept k)
theorem Inv.laid {a : Addr} {o : HO} {t' : Nat} (I : Inv X pins σ H s) (k : ∀ b u, s.heap.get? b = some u → h'.get? b = some u) (hp : s.heap.objs.size ≤ a) (new : ObjOk X.prog X.w (upd H a o) h' a o) :
    Inv X pins σ (upd H a o) { s with heap := h', toks := t' } := I.un (Un.laid k hp (I.hok.fresh hp)) (I.hok.laid k hp new)
theorem Inv.write {x e : Addr} {o : HO} {t' : Nat} (I : Inv X pins σ H s) (mu : Mut (H x)) (he : e = x ∨ H e = some (.own x)) (k : ∀ b u, b ≠ e → s.heap.get? b = some u → h'.get? b = some u) (heo : ∃ u, h'.get? e = some u)
    (new : ObjOk X.prog X.w (upd H x o) h' x o) : Inv X pins σ (upd H x o) { s with heap := h', toks := t' } := I.un (Un.write mu he k heo) (I.hok.write mu he k heo new)
theorem Inv.pins_of {pins' : List (Addr × Obj)} (I : Inv X pins σ H s) (h : ∀ p ∈ pins', s.heap.get? p.1 = some p.2 ∧ H p.1 = none ∧ p.1 ≠ X.env.locals ∧ p.1 ∉ X.fs ∧ ∀ v, p.2.data ≠ .cell v) : Inv X pins' σ H s :=
  ⟨I.ok, I.os, I.bare, I.base, I.loc, I.cell, I.free, I.freeC, fun p hp => (List.mem_append.mp hp).elim (fun z => I.pin p (List.mem_append_left _ z)) (h p), I.hok, I.len⟩
theorem nodup_ix {N : List Str} (hN : N.Nodup) {i j : Nat} {x : Str} (a : N[i]? = some x) (b : N[j]? = some x) : i = j := by
  obtain ⟨h1, e1⟩ := List.getElem?_eq_some_iff.mp a
  obtain ⟨h2, e2⟩ := List.getElem?_eq_some_iff.mp b
  exact (List.getElem_inj hN).mp (e1.trans e2.symm)
theorem store_ok2 {M : Model} {A : Around} {E : Value → Shared → Prop} {i : Nat} {x : Str} {v : V} {u : Value} {Q : Unit → Shared → Prop} (I : Inv X pins σ H s) (hN : X.N.Nodup) (hi : X.N[i]? = some x) (hx : Loc X.env.scope x) (r : RelV v u)
    (h : ∀ s', Inv X pins (σ.set i (some v)) H s' → (∃ a, Heap.SameBut a s.heap s'.heap ∧ (a = X.env.locals ∨ X.env.cells.lookup x = some a)) → Q () s') (hf : X.fn x = true ∨ X.env.scope.names.lookup x = some .local := by first | exact .inl rfl | exact .inr rfl | assumption) : wpAny M A (storeName X.env x u) Q E s := by
  obtain ⟨m, hn, hl⟩ := id I.loc
  have hcls : (X.env.scope.kind == .class || (X.env.scope.kind == .module && X.env.locals != X.env.globals)) = false := by rw [I.ok.kind]; rfl
  have hiσ : i < σ.length := by rw [I.len]; exact (List.getElem?_eq_some_iff.mp hi).1
  have cne := I.cne
  have tracked : ∀ {a : Addr} {h' : Heap}, (∃ o, s.heap.get? a = some o ∧ H a = none) → Heap.SameBut a s.heap h' → HOk X.prog X.w H h' := fun {a h'} ha hs b ob e => by
    obtain ⟨_, _, hfree⟩ := ha
    refine (I.hok b ob e).stay (fun c w' hc q => (hs.2 c ?_).trans q) (fun _ q => q) fun _ _ q => q
    rintro rfl
    rcases hc with rfl | hc
    · rw [hfree] at e; cases e
    · rw [hfree] at hc; cases hc
  rcases hx with hk | hk
  · refine wpAny_storeName_local hk hn (fun h' hn' hs => ?_) hcls
    obtain ⟨oL, _, _, hoL, _⟩ := id hn
    refine h _ ⟨I.ok, I.os, I.bare, ⟨fun b o e n hb hx => ?_, fun b o e n hb hx => ?_, I.base.free, fun b o e hx => ?_, I.base.tups, I.base.frzs, I.base.tbls⟩, ⟨_, hn', fun j y v' e1 e2 e3 => ?_⟩, fun y c e => ?_, I.free, I.freeC, fun p hp => ?_, tracked ⟨oL, hoL, I.free⟩ hs, by simpa using I.len⟩ ⟨_, hs, .inl rfl⟩
    · exact (hs.2 b (Nat.ne_of_lt (Nat.lt_of_lt_of_le (Heap.lt_size e) I.ok.above))).trans (I.base.keep b o e n hb hx)
    · obtain ⟨sl, e1⟩ := I.base.slot b o e n hb hx
      exact ⟨sl, (hs.2 b (Nat.ne_of_lt (Nat.lt_of_lt_of_le (Heap.lt_size e) I.ok.above))).trans e1⟩
    · obtain ⟨o', e1⟩ := I.base.there b o e hx
      exact ⟨o', (hs.2 b (Nat.ne_of_lt (Nat.lt_of_lt_of_le (Heap.lt_size e) I.ok.above))).trans e1⟩
    · by_cases hj : j = i
      · subst hj
        rw [hi] at e1; cases e1
        rw [List.getElem?_set_self hiσ] at e2
        cases e2
        exact ⟨u, r, .inl ⟨hk, by simp⟩⟩
      · rw [List.getElem?_set_ne (Ne.symm hj)] at e2
        obtain ⟨u', r', q⟩ := hl j y v' e1 e2 e3
        refine ⟨u', r', ?_⟩
        rcases q with ⟨k, e⟩ | ⟨k, c, e, z⟩
        · refine .inl ⟨k, ?_⟩
          have : y ≠ x := fun e => hj (nodup_ix hN e1 (e ▸ hi))
          simp [this, e]
        · exact .inr ⟨k, c, e, z.sameBut hs (cne y c e)⟩
    · obtain ⟨w', z⟩ := I.cell y c e
      exact ⟨w', z.sameBut hs (cne y c e)⟩
    · obtain ⟨e, n, ne, nf, d⟩ := I.pin p hp
      exact ⟨(hs.2 p.1 ne).trans e, n, ne, nf, d⟩
  · have hfn : X.fn x = true := by
      rcases hf with z | z
      · exact z
      · rw [z] at hk; cases hk
    obtain ⟨c, hc⟩ := I.ok.has x (.inl hk)
    obtain ⟨w', z⟩ := I.cell x c hc
    refine wpAny_storeName_cell I.ok.kind hk hc z (fun h' hc' hs => ?_)
    obtain ⟨oc, hoc, hocd⟩ := id z
    refine h { s with heap := h' } ⟨I.ok, I.os, I.bare, ⟨fun b o e n hb hx => ?_, fun b o e n hb hx => ?_, I.base.free, fun b o e hx => ?_, I.base.tups, I.base.frzs, I.base.tbls⟩, ⟨m, hn.sameBut hs (Ne.symm (cne x c hc)), fun j y v' e1 e2 e3 => ?_⟩, fun y c' e => ?_, I.free, I.freeC, fun p hp => ?_, tracked ⟨oc, hoc, I.freeC x c hc⟩ hs, by simpa using I.len⟩ ⟨c, hs, .inr hc⟩
    · exact (hs.2 b (Nat.ne_of_lt (Nat.lt_of_lt_of_le (Heap.lt_size e) (I.ok.cab x c hfn hc)))).trans (I.base.keep b o e n hb hx)
    · obtain ⟨sl, e1⟩ := I.base.slot b o e n hb hx
      exact ⟨sl, (hs.2 b (Nat.ne_of_lt (Nat.lt_of_lt_of_le (Heap.lt_size e) (I.ok.cab x c hfn hc)))).trans e1⟩
    · obtain ⟨o', e1⟩ := I.base.there b o e hx
      exact ⟨o', (hs.2 b (Nat.ne_of_lt (Nat.lt_of_lt_of_le (Heap.lt_size e) (I.ok.cab x c hfn hc)))).trans e1⟩
    · by_cases hj : j = i
      · subst hj
        rw [hi] at e1; cases e1
        rw [List.getElem?_set_self hiσ] at e2
        cases e2
        exact ⟨u, r, .inr ⟨.inl hk, c, hc, hc'⟩⟩
      · rw [List.getElem?_set_ne (Ne.symm hj)] at e2
        obtain ⟨u', r', q⟩ := hl j y v' e1 e2 e3
        refine ⟨u', r', ?_⟩
        rcases q with q | ⟨k, c', e, z'⟩
        · exact .inl q
        · refine .inr ⟨k, c', e, z'.sameBut hs ?_⟩
          rintro rfl
          exact hj (nodup_ix hN e1 (I.ok.inj _ _ _ e hc ▸ hi))
    · by_cases hcc : c' = c
      · subst hcc; exact ⟨_, hc'⟩
      · obtain ⟨w2, z2⟩ := I.cell y c' e
        exact ⟨w2, z2.sameBut hs hcc⟩
    · obtain ⟨e, n, ne, nf, d⟩ := I.pin p hp
      refine ⟨(hs.2 p.1 ?_).trans e, n, ne, nf, d⟩
      intro q
      rw [q, hoc] at e
      have q' : oc = p.2 := Option.some.inj e
      exact d w' (by rw [← q']; exact hocd)
theorem store_ok {M : Model} {A : Around} {E : Value → Shared → Prop} {i : Nat} {x : Str} {v : V} {u : Value} {Q : Unit → Shared → Prop} (I : Inv X pins σ H s) (hN : X.N.Nodup) (hi : X.N[i]? = some x) (hx : Loc X.env.scope x) (r : RelV v u)
    (h : ∀ s', Inv X pins (σ.set i (some v)) H s' → Q () s') (hf : X.fn x = true ∨ X.env.scope.names.lookup x = some .local := by first | exact .inl rfl | exact .inr rfl | assumption) : wpAny M A (storeName X.env x u) Q E s :=
  store_ok2 I hN hi hx r (fun s' I' _ => h s' I') hf
theorem Inv.call' {s' : Shared} {ch : List Addr} (I : Inv X pins σ H s) (ho : s'.os = s.os) (u : Un (frs X.stack) ch H H' s.heap s'.heap) (hok : HOk X.prog X.w H' s'.heap) (hg : AllBare s'.gens)
    (hch : ∀ b ∈ ch, (b ∈ X.ex ∨ X.s₀.heap.objs.size ≤ b) ∧ b ≠ X.env.locals ∧ (∀ x c, X.env.cells.lookup x = some c → c ≠ b) ∧ ∀ p ∈ X.pn ++ pins, p.1 ≠ b) : Inv X pins σ H' s' := by
  obtain ⟨h', g', d', t', o'⟩ := s'
  have e : o' = s.os := ho
  subst e
  exact I.call (g' := g') (t' := t') (d' := d') u hok hg hch
end
abbrev XK := Value → Option Addr → Hp → Prop
abbrev St := List (Option V)
abbrev VK := V → Hp → Prop
abbrev TE := St → Hp → VK → Prop
abbrev TT := St → Hp → (Bool → Hp → Prop) → Prop
abbrev TA := St → Hp → (List V → Hp → Prop) → Prop
structure Ends where
  nx : St → Hp → Prop
  rt : VK
  bk : St → Hp → Prop := fun _ _ => False
  ct : St → Hp → Prop := fun _ _ => False
abbrev TS := Ends → St → Hp → Prop
def EP (X : Cx) (pins : List (Addr × Obj)) (σ : St) (Q : VK) (u : Value) (s' : Shared) : Prop := ∃ v H', Inv X pins σ H' s' ∧ RelV v u ∧ Q v H'
def TP (X : Cx) (pins : List (Addr × Obj)) (σ : St) (Q : Bool → Hp → Prop) (b : Bool) (s' : Shared) : Prop := ∃ H', Inv X pins σ H' s' ∧ Q b H'
def AP (X : Cx) (pins : List (Addr × Obj)) (σ : St) (Q : List V → Hp → Prop) (us : List Value) (s' : Shared) : Prop := ∃ vs H', Inv X pins σ H' s' ∧ Vals vs us ∧ Q vs H'
def SP (X : Cx) (pins : List (Addr × Obj)) (D : Ends) (f : Flow) (s' : Shared) : Prop :=
  match f with
  | .next => ∃ σ' H', Inv X pins σ' H' s' ∧ D.nx σ' H'
  | .brk => ∃ σ' H', Inv X pins σ' H' s' ∧ D.bk σ' H'
  | .cont => ∃ σ' H', Inv X pins σ' H' s' ∧ D.ct σ' H'
  | .ret u => ∃ v σ' H', Inv X pins σ' H' s' ∧ RelV v u ∧ D.rt v H'
def PE (X : Cx) (e : Expr) (t : TE) : Prop :=
  ∀ (pins : List (Addr × Obj)) (s : Shared) (σ : St) (H : Hp) (Q : VK), Inv X pins σ H s → t σ H Q → wpAny (model X.prog X.w) X.A (eval e X.env) (EP X pins σ Q) X.xe s
def PT (X : Cx) (e : Expr) (t : TT) : Prop :=
  ∀ (pins : List (Addr × Obj)) (s : Shared) (σ : St) (H : Hp) (Q : Bool → Hp → Prop), Inv X pins σ H s → t σ H Q → wpAny (model X.prog X.w) X.A (isTrue e X.env (eval e X.env)) (TP X pins σ Q) X.xe s
def PW (X : Cx) (e : Expr) (t : TT) : Prop :=
  ∀ (whole : Sem Value) (pins : List (Addr × Obj)) (s : Shared) (σ : St) (H : Hp) (Q : Bool → Hp → Prop), Inv X pins σ H s → t σ H Q → wpAny (model X.prog X.w) X.A (isTrue e X.env whole) (TP X pins σ Q) X.xe s
theorem PW.pt {X : Cx} {e : Expr} {t : TT} (h : PW X e t) : PT X e t := h _
def PA (X : Cx) (es : List Expr) (t : TA) : Prop :=
  ∀ (pos : Pos) (pins : List (Addr × Obj)) (s : Shared) (σ : St) (H : Hp) (Q : List V → Hp → Prop), Inv X pins σ H s → t σ H Q → wpAny (model X.prog X.w) X.A (spliced (backTo pos (starEach es X.env))) (AP X pins σ Q) X.xe s
def PS (X : Cx) (st : Stmt) (t : TS) : Prop :=
  ∀ (pins : List (Addr × Obj)) (s : Shared) (σ : St) (H : Hp) (D : Ends), Inv X pins σ H s → t D σ H → wpAny (model X.prog X.w) X.A (exec st X.env) (SP X pins D) X.xe s
def PSs (X : Cx) (st : List Stmt) (t : TS) : Prop :=
  ∀ (pins : List (Addr × Obj)) (s : Shared) (σ : St) (H : Hp) (D : Ends), Inv X pins σ H s → t D σ H → wpAny (model X.prog X.w) X.A (execs st X.env) (SP X pins D) X.xe s
theorem thn {α : Type} {t : Sem α} {Q Q' : α → Shared → Prop} {M : Model} {A : Around} {E : Value → Shared → Prop} {s : Shared} (h : wpAny M A t Q E s) (hQ : ∀ a s, Q a s → Q' a s) : wpAny M A t Q' E s := wpAny_mono h hQ fun _ _ x => x
end L2
namespace L2
open PySem PySem.Spec PyProof.Rows
section
variable {X : Cx}
def tVar (i : Nat) : TE := fun σ H Q => ∃ v, σ[i]? = some (some v) ∧ Q v H
def tC (v : V) : TE := fun _ H Q => Q v H
theorem pe_var {i : Nat} {x : Str} {pos : Pos} (hN : X.N[i]? = some x) (hv : Vis X.env.scope x) (hd : (x == ("__debug__" : Str)) = false := by decide) (hcd : (x == ("__classdict__" : Str)) = false := by decide) : PE X (.Name x pos) (tVar i) := by
  intro pins s σ H Q I h
  obtain ⟨v, e, h⟩ := h
  obtain ⟨m, hn, hl⟩ := I.loc
  obtain ⟨u, r, l⟩ := hl i x v hN e hv
  have fin : EP X pins σ Q u s := ⟨v, H, I, r, h⟩
  rcases l with ⟨hk, hm⟩ | ⟨hk, c, hc, hcell⟩
  · exact wpAny_Name (wpAny_loadName_local I.ok.kind hk hn hm fin) hd
  · rcases hk with hk | hk
    · exact wpAny_Name (wpAny_loadName_cell I.ok.kind hk hc hcell fin) hd
    · exact wpAny_Name (wpAny_loadName_free I.ok.kind hk hc hcell fin hcd) hd
theorem pe_int {i j pos} : PE X (.Constant (.int i) j pos) (tC (.int i)) := fun _ _ _ H _ I h => wpAny_Constant_int ⟨.int i, H, I.tok _, ⟨_, rfl⟩, h⟩
theorem pe_bl {b j pos} : PE X (.Constant (.bool b) j pos) (tC (.bl b)) := fun _ _ _ H _ I h => Constant_bool ⟨.bl b, H, I, rfl, h⟩
theorem pe_non {j pos} : PE X (.Constant .none j pos) (tC .non) := fun _ _ _ H _ I h => Constant_none ⟨.non, H, I, rfl, h⟩
theorem pe_str {x j pos} : PE X (.Constant (.str x) j pos) (tC (.str x)) := fun _ _ _ H _ I h => Calls.Constant_str ⟨.str x, H, I.tok _, ⟨_, rfl⟩, h⟩
def Gl (X : Cx) (x : Str) : Prop := X.env.kindOf x = some .globalImplicit
theorem ld_glob {E : Value → Shared → Prop} {pins : List (Addr × Obj)} {s : Shared} {σ : St} {H : Hp} {x : Str} {u : Value} {pos : Pos} {Q : Value → Shared → Prop} (I : Inv X pins σ H s) (hg : Gl X x) (hm : X.mg x = some u) (h : Q u s)
    (hd : (x == ("__debug__" : Str)) = false := by decide) : wpAny (model X.prog X.w) X.A (eval (.Name x pos) X.env) Q E s :=
  Calls.Name_function_global I.ok.kind hg (Calls.loadGlobal_global (by rw [I.ok.glob]; exact I.mod.glob.keeps I.bk) hm h) hd
theorem ld_blt {E : Value → Shared → Prop} {pins : List (Addr × Obj)} {s : Shared} {σ : St} {H : Hp} {x : Str} {u : Value} {pos : Pos} {Q : Value → Shared → Prop} (I : Inv X pins σ H s) (hg : Gl X x) (hm : X.mg x = none) (hv : bootBuiltins x = some u) (h : Q u s)
    (hn : x ≠ "__name__" := by decide) (hd : (x == ("__debug__" : Str)) = false := by decide) : wpAny (model X.prog X.w) X.A (eval (.Name x pos) X.env) Q E s := by
  obtain ⟨mb, h1, h2⟩ := I.mod.blt
  exact Calls.Name_function_global I.ok.kind hg (Calls.loadGlobal_builtin (by rw [I.ok.glob]; exact I.mod.glob.keeps I.bk) hm (by rw [I.ok.blt]; exact h1.keeps I.bk) ((h2 x hn).trans hv) h) hd
theorem pe_bltn {x : Str} {v : V} {u : Value} {pos : Pos} (hg : Gl X x) (hm : X.mg x = none) (hv : bootBuiltins x = some u) (r : RelV v u) (hn : x ≠ "__name__" := by decide) (hd : (x == ("__debug__" : Str)) = false := by decide) : PE X (.Name x pos) (tC v) :=
  fun _ _ _ H _ I h => ld_blt I hg hm hv ⟨v, H, I, r, h⟩ hn hd
variable {a b : Expr} {ta tb : TE} {pos : Pos}
def tB (t : TE) : TT := fun σ H Q => t σ H fun x H1 => ∃ c, x = .bl c ∧ Q c H1
theorem pt_val {e : Expr} {t : TE} (h : PE X e t) (he : ∀ whole, isTrue e X.env whole = (do let v ← whole; standAt e.pos; holding [v] (truthy v)) := by intro _; rfl) : PT X e (tB t) := by
  intro pins s σ H Q I hw
  refine isTrue_plain (thn (h pins s σ H _ I hw) fun v s1 ⟨x, H1, I1, r1, q1⟩ => ?_) (he _)
  obtain ⟨d, rfl, q⟩ := q1
  cases r1
  exact wpAny_truthy_bool ⟨H1, I1, q⟩
variable {tA tB' : TT} {rest : List Expr}
def tAnd (t u : TT) : TT := fun σ H Q => t σ H fun c H1 => if c = true then u σ H1 Q else Q false H1
def tOr (t u : TT) : TT := fun σ H Q => t σ H fun c H1 => if c = true then Q true H1 else u σ H1 Q
def tNot (t : TT) : TT := fun σ H Q => t σ H fun c H1 => Q (!c) H1
theorem pw_and1 (ha : PT X a tA) : PW X (.BoolOp .And [a] pos) tA := by
  intro wh pins s σ H Q I h
  refine isTrue_and (thn (ha pins s σ H Q I h) fun c s1 e => ?_)
  cases c with
  | true => exact isTrue_and_nil e
  | false => exact e
theorem pw_or1 (ha : PT X a tA) : PW X (.BoolOp .Or [a] pos) tA := by
  intro wh pins s σ H Q I h
  refine isTrue_or (thn (ha pins s σ H Q I h) fun c s1 e => ?_)
  cases c with
  | false => exact isTrue_or_nil e
  | true => exact e
theorem pw_and (ha : PT X a tA) (hb : PW X (.BoolOp .And (b :: rest) pos) tB') : PW X (.BoolOp .And (a :: b :: rest) pos) (tAnd tA tB') := by
  intro wh pins s σ H Q I h
  refine isTrue_and (thn (ha pins s σ H _ I h) fun c s1 ⟨H1, I1, q1⟩ => ?_)
  cases c with
  | true => exact hb wh pins s1 σ H1 Q I1 q1
  | false => exact ⟨H1, I1, q1⟩
theorem pw_or (ha : PT X a tA) (hb : PW X (.BoolOp .Or (b :: rest) pos) tB') : PW X (.BoolOp .Or (a :: b :: rest) pos) (tOr tA tB') := by
  intro wh pins s σ H Q I h
  refine isTrue_or (thn (ha pins s σ H _ I h) fun c s1 ⟨H1, I1, q1⟩ => ?_)
  cases c with
  | true => exact ⟨H1, I1, q1⟩
  | false => exact hb wh pins s1 σ H1 Q I1 q1
theorem pt_not (ha : PT X a tA) : PT X (.UnaryOp .Not a pos) (tNot tA) := by
  intro pins s σ H Q I h
  exact isTrue_not (ha pins s σ H (fun c H1 => Q (!c) H1) I h)
def tAndV (ta tb : TE) : TE := fun σ H Q => ta σ H fun x H1 => ∃ c, x = .bl c ∧ if c = true then tb σ H1 Q else Q (.bl false) H1
def tOrV (ta tb : TE) : TE := fun σ H Q => ta σ H fun x H1 => ∃ c, x = .bl c ∧ if c = true then Q (.bl true) H1 else tb σ H1 Q
def tNotV (ta : TE) : TE := fun σ H Q => ta σ H fun x H1 => ∃ c, x = .bl c ∧ Q (.bl (!c)) H1
theorem pe_one {op} {t : TE} (h : PE X a t) : PE X (.BoolOp op [a] pos) t := fun pins s σ H Q I hw => BoolOp_one (h pins s σ H Q I hw)
theorem pe_and (ha : PE X a ta) (hb : PE X (.BoolOp .And (b :: rest) pos) tb) : PE X (.BoolOp .And (a :: b :: rest) pos) (tAndV ta tb) := by
  intro pins s σ H Q I h
  refine BoolOp_and (thn (ha pins s σ H _ I h) fun v s1 ⟨x, H1, I1, r1, q1⟩ => ?_)
  obtain ⟨c, rfl, q1⟩ := q1
  cases r1
  refine wpAny_truthy_bool ?_
  cases c with
  | true => exact hb pins s1 σ H1 Q I1 q1
  | false => exact ⟨.bl false, H1, I1, rfl, q1⟩
theorem pe_or (ha : PE X a ta) (hb : PE X (.BoolOp .Or (b :: rest) pos) tb) : PE X (.BoolOp .Or (a :: b :: rest) pos) (tOrV ta tb) := by
  intro pins s σ H Q I h
  refine BoolOp_or (thn (ha pins s σ H _ I h) fun v s1 ⟨x, H1, I1, r1, q1⟩ => ?_)
  obtain ⟨c, rfl, q1⟩ := q1
  cases r1
  refine wpAny_truthy_bool ?_
  cases c with
  | false => exact hb pins s1 σ H1 Q I1 q1
  | true => exact ⟨.bl true, H1, I1, rfl, q1⟩
theorem pe_not (ha : PE X a ta) : PE X (.UnaryOp .Not a pos) (tNotV ta) := by
  intro pins s σ H Q I h
  refine UnaryOp_ (thn (ha pins s σ H _ I h) fun v s1 ⟨x, H1, I1, r1, q1⟩ => ?_)
  obtain ⟨c, rfl, q1⟩ := q1
  cases r1
  exact not_of (wpAny_truthy_bool ⟨.bl (!c), H1, I1, rfl, q1⟩)
end
end L2
namespace L2
open PySem PySem.Spec PyProof.Rows
def SqL (K : PySem.W.Frag) (H : Hp) (a : Addr) (xs : List V) : Prop :=
  Rd H a (.lst xs) ∨
    ∃ (o : Obj) (its : Array Value) (n : Nat), K.lookup a = some o ∧ o.cls = .type "list" ∧ o.dict = none ∧ o.data = .seq its n ∧ its.size ≤ sizeLine ∧ Vals xs its.toList
def SqT (K : PySem.W.Frag) (H : Hp) (a : Addr) (xs : List V) : Prop :=
  Rd H a (.tup xs) ∨
    ∃ (o : Obj) (its : Array Value) (n : Nat), K.lookup a = some o ∧ o.cls = .type "tuple" ∧ o.data = .seq its n ∧ its.size ≤ sizeLine ∧ Vals xs its.toList ∧ o.dict = none
def absV : Value → Option V
  | .none => some .non
  | .bool b => some (.bl b)
  | .int i _ => some (.int i)
  | .str x _ => some (.str x)
  | .bytes b _ => some (.byt b)
  | .float b _ => some (.flt b)
  | .ref a => some (.ref a)
  | .type n => some (.ty n)
  | _ => none
theorem RelV.abs {x : V} {u : Value} (r : RelV x u) : absV u = some x := by
  cases x with
  | non => cases r; rfl
  | bl _ => cases r; rfl
  | int _ => obtain ⟨t, rfl⟩ := r; rfl
  | str _ => obtain ⟨t, rfl⟩ := r; rfl
  | byt _ => obtain ⟨t, rfl⟩ := r; rfl
  | flt _ => obtain ⟨t, rfl⟩ := r; rfl
  | ref _ => cases r; rfl
  | ty _ => cases r; rfl
theorem RelV.inj {x y : V} {u : Value} (r : RelV x u) (q : RelV y u) : x = y := Option.some.inj (r.abs.symm.trans q.abs)
theorem Vals.inj : ∀ {xs ys : List V} {us : List Value}, Vals xs us → Vals ys us → xs = ys
  | _, _, _, .nil, .nil => rfl
  | _, _, _, .cons r t, .cons r' t' => by rw [r.inj r', Vals.inj t t']
section
variable {X : Cx} {pins : List (Addr × Obj)} {σ : St} {H : Hp} {s : Shared} {a : Addr} {xs ys : List V}
theorem SqL.of {K : PySem.W.Frag} (h : H a = some (.lst xs)) : SqL K H a xs := .inl (.inl h)
theorem SqT.of {K : PySem.W.Frag} (h : H a = some (.tup xs)) : SqT K H a xs := .inl (.inl h)
theorem Inv.list (I : Inv X pins σ H s) (h : SqL X.K H a xs) : ∃ its : List Value, Vals xs its ∧ PlainL s.heap a its.toArray ∧ xs.length ≤ sizeLine := by
  rcases h with h | ⟨o, its, n, hk, hc, hd, hs, hz, r⟩
  · obtain ⟨z, its, n, r, e⟩ := h.ok I.hok
    exact ⟨its, r, ⟨_, n, e, rfl, rfl, rfl⟩, z⟩
  · refine ⟨its.toList, r, ⟨o, n, I.kIn a o hk, hc, hd, by simpa using hs⟩, ?_⟩
    have e := r.length
    simp only [Array.length_toList] at e
    omega
theorem Inv.tuple (I : Inv X pins σ H s) (h : SqT X.K H a xs) : ∃ its : List Value, Vals xs its ∧ IsTup s.heap a its.toArray ∧ xs.length ≤ sizeLine := by
  rcases h with h | ⟨o, its, n, hk, hc, hs, hz, r, _⟩
  · obtain ⟨z, its, r, p⟩ := h.ok I.hok
    exact ⟨its, r, p.tup, z⟩
  · refine ⟨its.toList, r, ⟨o, I.kIn a o hk, hc, n, by simpa using hs⟩, ?_⟩
    have e := r.length
    simp only [Array.length_toList] at e
    omega
theorem Inv.tupleN (I : Inv X pins σ H s) (h : SqT X.K H a xs) : ∃ its : List Value, Vals xs its ∧ TupN s.heap a its.toArray := by
  rcases h with h | ⟨o, its, n, hk, hc, hs, hz, r, hn⟩
  · obtain ⟨z, its, r, p⟩ := h.ok I.hok
    exact ⟨its, r, p⟩
  · exact ⟨its.toList, r, o, I.kIn a o hk, hc, ⟨n, by simpa using hs⟩, hn⟩
theorem Inv.list_inj (I : Inv X pins σ H s) (h : SqL X.K H a xs) (h' : SqL X.K H a ys) : xs = ys := by
  obtain ⟨its, r, ⟨o, n, e, _, _, d⟩, _⟩ := I.list h
  obtain ⟨its', r', ⟨o', n', e', _, _, d'⟩, _⟩ := I.list h'
  rw [e] at e'; cases e'
  rw [d] at d'
  injection d' with d1 _
  have : its = its' := by simpa using congrArg Array.toList d1
  subst this
  exact r.inj r'
theorem Inv.tuple_inj (I : Inv X pins σ H s) (h : SqT X.K H a xs) (h' : SqT X.K H a ys) : xs = ys := by
  obtain ⟨its, r, ⟨o, e, _, n, d⟩, _⟩ := I.tuple h
  obtain ⟨its', r', ⟨o', e', _, n', d'⟩, _⟩ := I.tuple h'
  rw [e] at e'; cases e'
  rw [d] at d'
  injection d' with d1 _
  have : its = its' := by simpa using congrArg Array.toList d1
  subst this
  exact r.inj r'
end
abbrev Cx.wish (X : Cx) (E : Value → Shared → Prop) : Cx := { X with xe := E }
abbrev Cx.nox (X : Cx) : Cx := X.wish fun _ _ => False
theorem Cx.Ok.wish {X : Cx} (ok : X.Ok) (E : Value → Shared → Prop) : (X.wish E).Ok :=
  ⟨ok.mod, ok.kind, ok.glob, ok.blt, ok.above, ok.inj, ok.has, ok.cab, ok.hd, ok.frames, ok.stk, ok.exf, ok.bs, ok.bsz, ok.noex, ok.exfs, ok.funs, ok.frf⟩
theorem Cx.Ok.unwish {X : Cx} {E : Value → Shared → Prop} (ok : (X.wish E).Ok) : X.Ok :=
  ⟨ok.mod, ok.kind, ok.glob, ok.blt, ok.above, ok.inj, ok.has, ok.cab, ok.hd, ok.frames, ok.stk, ok.exf, ok.bs, ok.bsz, ok.noex, ok.exfs, ok.funs, ok.frf⟩
section
variable {X : Cx} {pins : List (Addr × Obj)} {σ : St} {H : Hp} {s : Shared} {E : Value → Shared → Prop}
theorem Inv.wish (I : Inv X pins σ H s) (E : Value → Shared → Prop) : Inv (X.wish E) pins σ H s := ⟨I.ok.wish E, I.os, I.bare, I.base, I.loc, I.cell, I.free, I.freeC, I.pin, I.hok, I.len⟩
theorem Inv.unwish (I : Inv (X.wish E) pins σ H s) : Inv X pins σ H s := ⟨I.ok.unwish, I.os, I.bare, I.base, I.loc, I.cell, I.free, I.freeC, I.pin, I.hok, I.len⟩
theorem SP.unwish {D : Ends} {f : Flow} {s' : Shared} (h : SP (X.wish E) pins D f s') : SP X pins D f s' := by
  cases f with
  | next => obtain ⟨σ', H', I, q⟩ := h; exact ⟨σ', H', I.unwish, q⟩
  | brk => obtain ⟨σ', H', I, q⟩ := h; exact ⟨σ', H', I.unwish, q⟩
  | cont => obtain ⟨σ', H', I, q⟩ := h; exact ⟨σ', H', I.unwish, q⟩
  | ret u => obtain ⟨v, σ', H', I, r, q⟩ := h; exact ⟨v, σ', H', I.unwish, r, q⟩
theorem PE.nox {e : Expr} {t : TE} (h : PE X.nox e t) : PE X e t := fun pins s σ H Q I hw =>
  wpAny_mono (h pins s σ H Q (I.wish _) hw) (fun _ _ ⟨v, H', I', r, q⟩ => ⟨v, H', I'.unwish, r, q⟩) fun _ _ z => False.elim z
theorem PT.nox {e : Expr} {t : TT} (h : PT X.nox e t) : PT X e t := fun pins s σ H Q I hw =>
  wpAny_mono (h pins s σ H Q (I.wish _) hw) (fun _ _ ⟨H', I', q⟩ => ⟨H', I'.unwish, q⟩) fun _ _ z => False.elim z
theorem PSs.nox {st : List Stmt} {t : TS} (h : PSs X.nox st t) : PSs X st t := fun pins s σ H D I hw =>
  wpAny_mono (h pins s σ H D (I.wish _) hw) (fun _ _ q => q.unwish) fun _ _ z => False.elim z
end
section
variable {X : Cx} {st : Stmt} {rest : List Stmt} {t u : TS} {e : Expr} {te : TE} {pos : Pos}
def tNext : TS := fun D σ H => D.nx σ H
def tSeq (t u : TS) : TS := fun D σ H => t { D with nx := u D } σ H
theorem pss_nil : PSs X [] tNext := fun _ _ σ H _ I h => wpAny_execs_nil ⟨σ, H, I, h⟩
theorem pss_cons (h1 : PS X st t) (h2 : PSs X rest u) : PSs X (st :: rest) (tSeq t u) := by
  intro pins s σ H D I h
  refine wpAny_execs_cons (thn (h1 pins s σ H { D with nx := u D } I h) fun f s1 q => ?_)
  cases f with
  | next =>
    obtain ⟨σ', H', I', q⟩ := q
    exact h2 pins s1 σ' H' D I' q
  | ret v => exact q
  | brk => exact q
  | cont => exact q
theorem pss_one (h1 : PS X st t) : PSs X [st] t := by
  intro pins s σ H D I h
  refine wpAny_execs_cons (thn (h1 pins s σ H D I h) fun f s1 q => ?_)
  cases f with
  | next => exact wpAny_execs_nil q
  | ret v => exact q
  | brk => exact q
  | cont => exact q
theorem Inv.quiet {pins : List (Addr × Obj)} {σ : St} {H : Hp} {s : Shared} (I : Inv X pins σ H s) : interactive X.env = false := by simp [interactive, I.ok.kind]
def tDrop (te : TE) : TS := fun D σ H => te σ H fun _ H1 => D.nx σ H1
theorem ps_expr (he : PE X e te) (hs : swapsWith e none pos.line X.env = pure false := by rfl) : PS X (.Expr e pos) (tDrop te) := by
  intro pins s σ H D I h
  exact wpAny_Expr_any (thn (he pins s σ H _ I h) fun v s1 ⟨x, H1, I1, r1, q1⟩ => ⟨σ, H1, I1, q1⟩) I.quiet hs
def tRet (te : TE) : TS := fun D σ H => te σ H D.rt
theorem ps_ret (he : PE X e te) : PS X (.Return (some e) pos) (tRet te) := by
  intro pins s σ H D I h
  exact wpAny_Return_some (thn (he pins s σ H _ I h) fun v s1 ⟨x, H1, I1, r1, q1⟩ => ⟨x, σ, H1, I1, r1, q1⟩)
def tIfS (c : TT) (t u : TS) : TS := fun D σ H => c σ H fun b H1 => if b = true then t D σ H1 else u D σ H1
theorem ps_if {c : Expr} {a b : List Stmt} {tc : TT} (hc : PT X c tc) (ha : PSs X a t) (hb : PSs X b u) : PS X (.If c a b pos) (tIfS tc t u) := by
  intro pins s σ H D I h
  refine wpAny_If (thn (hc pins s σ H _ I h) fun d s1 ⟨H1, I1, q1⟩ => ?_)
  cases d with
  | true => exact ha pins s1 σ H1 D I1 q1
  | false => exact hb pins s1 σ H1 D I1 q1
end
abbrev TG := V → St → Hp → (St → Hp → Prop) → Prop
abbrev TGs := List V → St → Hp → (St → Hp → Prop) → Prop
def PG (X : Cx) (target : Expr) (t : TG) : Prop :=
  ∀ (pins : List (Addr × Obj)) (s : Shared) (σ : St) (H : Hp) (v : V) (u : Value) (Q : St → Hp → Prop), Inv X pins σ H s → RelV v u → t v σ H Q →
    wpAny (model X.prog X.w) X.A (assign target X.env u) (fun _ s' => ∃ σ' H', Inv X pins σ' H' s' ∧ Q σ' H') X.xe s
def PGs (X : Cx) (ts : List Expr) (t : TGs) : Prop :=
  ∀ (pins : List (Addr × Obj)) (s : Shared) (σ : St) (H : Hp) (vs : List V) (us : List Value) (Q : St → Hp → Prop), Inv X pins σ H s → Vals vs us → t vs σ H Q →
    wpAny (model X.prog X.w) X.A (assignInOrder ((assignEach ts X.env).map (·.2)) us) (fun _ s' => ∃ σ' H', Inv X pins σ' H' s' ∧ Q σ' H') X.xe s
abbrev TSet := V → V → V → Hp → (Hp → Prop) → Prop
def PSet (X : Cx) (t : TSet) : Prop :=
  ∀ (pins : List (Addr × Obj)) (s : Shared) (σ : St) (H : Hp) (o i v : V) (ov iv u : Value) (Q : Hp → Prop), Inv X pins σ H s → RelV o ov → RelV i iv → RelV v u → t o i v H Q →
    wpAny (model X.prog X.w) X.A (setItem ov iv u) (fun _ s' => ∃ H', Inv X pins σ H' s' ∧ Q H') X.xe s
section
variable {X : Cx} {pos : Pos}
def gName (i : Nat) : TG := fun v σ H Q => Q (σ.set i (some v)) H
theorem pg_name {i : Nat} {x : Str} (hN : X.N.Nodup) (hi : X.N[i]? = some x) (hx : Loc X.env.scope x) (hf : X.fn x = true ∨ X.env.scope.names.lookup x = some .local := by first | exact .inl rfl | exact .inr rfl | assumption) : PG X (.Name x pos) (gName i) := by
  intro pins s σ H v u Q I r h
  exact wpAny_assign_Name (store_ok I hN hi hx r (fun s' I' => ⟨_, H, I', h⟩) hf)
def gNil : TGs := fun vs σ H Q => vs = [] ∧ Q σ H
def gCons (t : TG) (u : TGs) : TGs := fun vs σ H Q => ∃ v r, vs = v :: r ∧ t v σ H fun σ' H' => u r σ' H' Q
theorem pgs_nil : PGs X [] gNil := by
  intro pins s σ H vs us Q I r h
  obtain ⟨e, h⟩ := h
  subst e
  cases r
  exact assignInOrder_nil ⟨σ, H, I, h⟩
theorem pgs_cons {e : Expr} {es : List Expr} {t : TG} {u : TGs} (h1 : PG X e t) (h2 : PGs X es u)
    (hs : (assignEach (e :: es) X.env).map (·.2) = assign e X.env :: (assignEach es X.env).map (·.2) := by rfl) : PGs X (e :: es) (gCons t u) := by
  intro pins s σ H vs us Q I r h
  obtain ⟨v, vr, e1, h⟩ := h
  subst e1
  cases r with
  | cons r rr =>
    rw [hs]
    refine assignInOrder_cons (thn (h1 pins s σ H _ _ _ I r h) fun _ s1 ⟨σ1, H1, I1, q1⟩ => ?_)
    exact h2 pins s1 σ1 H1 _ _ Q I1 rr q1
def gTup (K : PySem.W.Frag) (n : Nat) (t : TGs) : TG := fun v σ H Q => ∃ a xs, v = .ref a ∧ SqT K H a xs ∧ xs.length = n ∧ t xs σ H Q
theorem pg_tup {es : List Expr} {k : Nat} {t : TGs} {n : Nat} (hc : X.calm = true) (h : PGs X es t)
    (hn : (assignEach es X.env).length = n := by rfl) (hst : (assignEach es X.env).findIdx? (·.1) = none := by rfl) : PG X (.Tuple es k pos) (gTup X.K n t) := by
  intro pins s σ H v u Q I r hw
  obtain ⟨a, xs, e1, hq, hl, hw⟩ := hw
  subst e1
  cases r
  obtain ⟨its, rv, ht, hz⟩ := I.tuple hq
  refine assign_Tuple_tuple (I.ok.hd hc) ht (by simp [hn, ← hl, rv.length]) hst fun h' hx => ?_
  have I1 : Inv X pins σ H { s with heap := h' } := I.kept (t' := s.toks) fun b o e => hx b o (Nat.ne_of_lt (Heap.lt_size e)) e
  exact h pins _ σ H xs _ Q I1 (by simpa using rv) hw
def gSub (to ti : TE) (t : TSet) : TG := fun v σ H Q => to σ H fun o H1 => ti σ H1 fun i H2 => t o i v H2 fun H3 => Q σ H3
theorem pg_sub {o i : Expr} {to ti : TE} {t : TSet} (ho : PE X o to) (hi : PE X i ti) (hs : PSet X t)
    (ha : ∀ v, assign (.Subscript o i pos) X.env v = (do
      let ov ← holding [v] (eval o X.env)
      let iv ← holding [v, ov] (eval i X.env)
      standAt pos
      holding [v, ov, iv] (setItem ov iv v)
      release [v, ov, iv] []) := by intro _; rfl) : PG X (.Subscript o i pos) (gSub to ti t) := by
  intro pins s σ H v u Q I r h
  rw [ha]
  refine wpAny_bind (wpAny_holding (thn (ho pins s σ H _ I h) fun ov s1 ⟨x, H1, I1, r1, q1⟩ => ?_))
  refine wpAny_bind (wpAny_holding (thn (hi pins s1 σ H1 _ I1 q1) fun iv s2 ⟨y, H2, I2, r2, q2⟩ => ?_))
  refine wpAny_bind (wpAny_standAt (wpAny_bind (wpAny_holding (thn (hs pins s2 σ H2 x y v ov iv u _ I2 r1 r2 r q2) fun _ s3 ⟨H3, I3, q3⟩ => ?_))))
  exact wpAny_release ⟨σ, H3, I3, q3⟩
def tAsg (te : TE) (g : TG) : TS := fun D σ H => te σ H fun x H1 => g x σ H1 D.nx
theorem ps_asg {tg e : Expr} {te : TE} {g : TG} (he : PE X e te) (hg : PG X tg g) (hs : swapsWithSole [tg] e pos.line X.env = pure false := by rfl) (hw : swappedStores [tg] e X.env = pure none := by rfl)
    (h1 : (assignEach [tg] X.env).map (·.2) = [assign tg X.env] := by rfl) : PS X (.Assign [tg] e pos) (tAsg te g) := by
  intro pins s σ H D I h
  refine wpAny_Assign_stores (thn (he pins s σ H _ I h) fun v s1 ⟨x, H1, I1, r1, q1⟩ => ?_) hs hw
  rw [h1]
  exact thn (hg pins s1 σ H1 x v _ I1 r1 q1) fun _ s2 q => q
theorem ps_set {i : Nat} {x : Str} {e : Expr} {te : TE} {pos' : Pos} (hN : X.N.Nodup) (hi : X.N[i]? = some x) (hx : Loc X.env.scope x) (he : PE X e te) (hs : swapsWith e (some (.Name x pos')) pos.line X.env = pure false := by rfl) (hf : X.fn x = true ∨ X.env.scope.names.lookup x = some .local := by first | exact .inl rfl | exact .inr rfl | assumption) :
    PS X (.Assign [.Name x pos'] e pos) (tAsg te (gName i)) := by
  intro pins s σ H D I h
  refine wpAny_Assign_Name (thn (he pins s σ H _ I h) fun v s1 ⟨y, H1, I1, r1, q1⟩ => ?_) hs
  exact store_ok I1 hN hi hx r1 (fun s2 I2 => ⟨_, H1, I2, q1⟩) hf
def tPar (i j : Nat) (ta : TA) : TS := fun D σ H => ta σ H fun vs H1 => ∃ v w, vs = [v, w] ∧ D.nx ((σ.set i (some v)).set j (some w)) H1
theorem ps_par {i j : Nat} {x y : Str} {a b : Expr} {ta : TA} {px py pt : Pos} {kt k2 pt2} (hc : X.calm = true) (hN : X.N.Nodup) (hi : X.N[i]? = some x) (hj : X.N[j]? = some y) (hij : i ≠ j)
    (hx : X.env.scope.names.lookup x = some .local) (hy : X.env.scope.names.lookup y = some .local) (ha : PA X [a, b] ta)
    (hw : swappedStores [.Tuple [.Name x px, .Name y py] kt pt] (.Tuple [a, b] k2 pt2) X.env = pure (some [x, y]))
    (hs : swapsWithSole [.Tuple [.Name x px, .Name y py] kt pt] (.Tuple [a, b] k2 pt2) pos.line X.env = pure false := by rfl) :
    PS X (.Assign [.Tuple [.Name x px, .Name y py] kt pt] (.Tuple [a, b] k2 pt2) pos) (tPar i j ta) := by
  intro pins s σ H D I h
  rw [exec_Assign_arm]
  refine wpAny_bind (wpAny_standAt ?_)
  rw [hs]
  refine wpAny_bind (wpAny_pure ?_)
  rw [if_neg (by decide)]
  refine wpAny_bind (Tuple_ (thn (ha _ pins s σ H _ I h) fun us s1 ⟨vs, H1, I1, r1, q1⟩ => ?_))
  obtain ⟨v, w, e1, q1⟩ := q1
  subst e1
  obtain ⟨u1, u2, rfl, rv, rw'⟩ : ∃ u1 u2, us = [u1, u2] ∧ RelV v u1 ∧ RelV w u2 := by
    cases r1 with
    | cons p q =>
      cases q with
      | cons p' q' =>
        cases q'
        exact ⟨_, _, rfl, p, p'⟩
  refine wpAny_newObj_type ?_ (by show 2 ≤ sizeLine; decide)
  have I2 : Inv X pins σ H1 { s1 with heap := s1.heap.push { cls := .type "tuple", data := .seq [u1, u2].toArray } } := I1.kept (t' := s1.toks) fun b o e => Heap.get?_push_of_some _ e
  rw [hw]
  refine wpAny_bind (wpAny_pure ?_)
  show wpAny (model X.prog X.w) X.A (do rule "assign.swapped-stores"; let items ← unpackItems (.ref s1.heap.objs.size) 2 none; assignInOrder [fun v => bindName X.env y v, fun v => bindName X.env x v] items.reverse; pure Flow.next) _ _ _
  refine wpAny_bind (wpAny_rule (wpAny_bind (unpackItems_tuple (items := #[u1, u2]) (I.ok.hd hc) (IsTup.new s1.heap _) fun h' hx' => ?_)))
  have I3 := I2.kept (h' := h') (t' := s1.toks) fun b o e => hx' b o (Nat.ne_of_lt (Heap.lt_size e)) e
  show wpAny _ _ (assignInOrder [fun v => bindName X.env y v, fun v => bindName X.env x v] [u2, u1] >>= fun _ => pure Flow.next) _ _ _
  refine wpAny_bind (assignInOrder_cons (wpAny_bindName (store_ok I3 hN hj (.inl hy) rw' (fun s2 I4 => ?_) (.inr hy))))
  refine assignInOrder_cons (wpAny_bindName (store_ok I4 hN hi (.inl hx) rv (fun s3 I5 => assignInOrder_nil (wpAny_pure ?_)) (.inr hx)))
  rw [List.set_comm _ _ (Ne.symm hij)] at I5
  exact ⟨_, H1, I5, q1⟩
end
section
variable {X : Cx} {pos : Pos}
def tWhile (c : TT) (tb : TS) : TS := fun D σ H => ∃ W : Nat → St → Hp → Prop, (∃ m, W m σ H) ∧ ∀ m σ H, W m σ H →
  c σ H fun b H1 => if b = true then ∃ N : St → Hp → Prop, (∀ σ' H', N σ' H' → ∃ m', m' < m ∧ W m' σ' H') ∧ tb { D with nx := N, ct := N, bk := D.nx } σ H1 else D.nx σ H1
theorem ps_while {c : Expr} {body : List Stmt} {tc : TT} {tb : TS} (hp : PassesOwn (model X.prog X.w) X.A X.env X.xe) (hc : PT X c tc) (hb : PSs X body tb) : PS X (.While c body [] pos) (tWhile tc tb) := by
  intro pins s σ H D I h
  obtain ⟨W, ⟨m0, w0⟩, turn⟩ := h
  refine wpAny_While (codeAny_whileLoop (fun n s' => ∃ σ' H', Inv X pins σ' H' s' ∧ W n σ' H') ?_ m0 ⟨σ, H, I, w0⟩)
  rintro n s1 ⟨σ1, H1, I1, w1⟩
  refine wpAny_passesOwn hp (thn (hc pins s1 σ1 H1 _ I1 (turn n σ1 H1 w1)) fun b s2 ⟨H2, I2, q2⟩ => ?_)
  cases b with
  | true =>
    obtain ⟨N, hN, q2⟩ := q2
    rw [if_pos rfl]
    refine wpAny_passesOwn hp (thn (hb pins s2 σ1 H2 _ I2 q2) fun f s3 q3 => ?_)
    cases f with
    | next =>
      obtain ⟨σ3, H3, I3, n3⟩ := q3
      obtain ⟨m', hm, w3⟩ := hN σ3 H3 n3
      exact ⟨m', hm, σ3, H3, I3, w3⟩
    | cont =>
      obtain ⟨σ3, H3, I3, n3⟩ := q3
      obtain ⟨m', hm, w3⟩ := hN σ3 H3 n3
      exact ⟨m', hm, σ3, H3, I3, w3⟩
    | brk => exact q3
    | ret v => exact q3
  | false =>
    rw [if_neg Bool.false_ne_true]
    exact wpAny_execs_nil ⟨σ1, H2, I2, q2⟩
end
structure It where
  go : Nat → Hp → Prop
  yld : Nat → Hp → V → Hp → Prop
  stop : Nat → Hp → Prop
def FpOk (X : Cx) (pins : List (Addr × Obj)) (H : Hp) (b : Addr) : Prop :=
  H b = none ∧ b ≠ X.env.locals ∧ b ∉ X.fs ∧ (b ∈ X.ex ∨ X.s₀.heap.objs.size ≤ b) ∧ (∀ x c, X.env.cells.lookup x = some c → c ≠ b) ∧ ∀ p ∈ X.pn ++ pins, p.1 ≠ b
theorem Inv.fpOk {X : Cx} {pins : List (Addr × Obj)} {σ : St} {H H' : Hp} {s : Shared} {b : Addr} (I : Inv X pins σ H s) (hb : s.heap.objs.size ≤ b) (hn : H' b = none) : FpOk X pins H' b := by
  refine ⟨hn, Nat.ne_of_gt (Nat.lt_of_lt_of_le I.lt hb), I.nofs hb, .inr (Nat.le_trans I.sz hb), fun x c e z => ?_, fun p hp z => ?_⟩
  · obtain ⟨v, q⟩ := I.cell x c e
    exact absurd (Nat.lt_of_lt_of_le q.lt (by rw [z]; exact hb)) (Nat.lt_irrefl _)
  · exact absurd (Nat.lt_of_lt_of_le (Heap.lt_size (I.pin p hp).1) (by rw [z]; exact hb)) (Nat.lt_irrefl _)
structure Turn (P : Program) (w : World) (K : PySem.W.Frag) (tg : Expr) (J : It) (fp : List Addr) (it : Addr) (tn : Nat → Heap → Prop) : Prop where
  mem : it ∈ fp
  obj : ∀ i h, tn i h → ∀ b ∈ fp, ∃ o, h.get? b = some o ∧ ∀ v, o.data ≠ .cell v
  keep : ∀ i h h', tn i h → (∀ b ∈ fp, ∀ o, h.get? b = some o → h'.get? b = some o) → tn i h'
  item : ∀ (X : Cx), X.prog = P → X.w = w → X.K = K → X.calm = true → ∀ (i : Nat) (pins : List (Addr × Obj)) (s : Shared) (σ : St) (H : Hp) (E : Value → Shared → Prop), Inv X pins σ H s → (∀ b ∈ fp, FpOk X pins H b) → tn i s.heap → J.go i H →
    wpAny (model P w) X.A (pyNext (.ref it)) (fun r s1 => ∃ u, r = some u ∧
      wpAny (model P w) X.A (letOwnedTupleGo tg (.ref it) u) (fun _ s2 => ∃ x H', Inv X pins σ H' s2 ∧ RelV x u ∧ J.yld i H x H' ∧ tn (i + 1) s2.heap ∧ ∀ b ∈ fp, H' b = none) E s1) E s
  done : ∀ (X : Cx), X.prog = P → X.w = w → X.K = K → X.calm = true → ∀ (i : Nat) (pins : List (Addr × Obj)) (s : Shared) (σ : St) (H : Hp) (E : Value → Shared → Prop), Inv X pins σ H s → (∀ b ∈ fp, FpOk X pins H b) → tn i s.heap → J.stop i H →
    wpAny (model P w) X.A (pyNext (.ref it)) (fun r s1 => r = none ∧ Inv X pins σ H s1) E s
  self : ∀ (A : Around) (i : Nat) (s : Shared) (Q : Value → Shared → Prop) (E : Value → Shared → Prop), tn i s.heap → Q (.ref it) s → wpAny (model P w) A (pyIter (.ref it)) Q E s
abbrev TI := St → Hp → (It → Hp → Prop) → Prop
def PIE (X : Cx) (pins : List (Addr × Obj)) (σ : St) (tg : Expr) (R : It → Hp → Prop) (itv : Value) (s2 : Shared) : Prop :=
  ∃ (it : Addr) (fp : List Addr) (tn : Nat → Heap → Prop) (J : It) (H' : Hp), itv = .ref it ∧ Inv X pins σ H' s2 ∧ Turn X.prog X.w X.K tg J fp it tn ∧ tn 0 s2.heap ∧ (∀ b ∈ fp, FpOk X pins H' b) ∧ R J H'
def PI (X : Cx) (tg iter : Expr) (wi : TI) : Prop :=
  ∀ (pins : List (Addr × Obj)) (s : Shared) (σ : St) (H : Hp) (R : It → Hp → Prop), Inv X pins σ H s → wi σ H R →
    wpAny (model X.prog X.w) X.A (eval iter X.env) (fun v s1 => wpAny (model X.prog X.w) X.A (pyIter v) (PIE X pins σ tg R) X.xe s1) X.xe s
theorem go_of {M : Model} {A : Around} {E : Value → Shared → Prop} {s : Shared} {tg : Expr} {it : Addr} {u : Value} {o : Obj} {n : String} {vs : Array Value} {Q : Unit → Shared → Prop} (ho : s.heap.get? it = some o) (hc : o.cls = .type n) (hd : o.data = .fields vs)
    (hn : ["enumerate", "zip", "dict_itemiterator", "dict_reverseitemiterator", "odict_iterator", "itertools.zip_longest", "itertools.pairwise"].contains n = false) (hQ : Q () s) : wpAny M A (letOwnedTupleGo tg (.ref it) u) Q E s := by
  unfold letOwnedTupleGo
  cases tg <;> first
    | exact wpAny_pure hQ
    | (cases u <;> first
        | exact wpAny_pure hQ
        | (refine wpAny_bind (wpAny_load ho ?_)
           rw [hc, hd]
           show wpAny M A (if (["enumerate", "zip", "dict_itemiterator", "dict_reverseitemiterator", "odict_iterator", "itertools.zip_longest", "itertools.pairwise"].contains n && vs[0]? == some (rawInt _)) = true then _ else _) Q E s
           rw [if_neg (by intro h; rw [hn, Bool.false_and] at h; cases h)]
           exact wpAny_pure hQ))
def Itl (K : PySem.W.Frag) (a : Addr) : It :=
  ⟨fun i H => ∃ xs x, SqL K H a xs ∧ xs[i]? = some x, fun i H x H' => H' = H ∧ ∀ xs, SqL K H a xs → xs[i]? = some x, fun i H => ∃ xs, SqL K H a xs ∧ xs.length ≤ i⟩
def Itt (K : PySem.W.Frag) (a : Addr) : It :=
  ⟨fun i H => ∃ xs x, SqT K H a xs ∧ xs[i]? = some x, fun i H x H' => H' = H ∧ ∀ xs, SqT K H a xs → xs[i]? = some x, fun i H => ∃ xs, SqT K H a xs ∧ xs.length ≤ i⟩
def Itr (lo : Int) (n : Nat) : It := ⟨fun i _ => i < n, fun i H x H' => H' = H ∧ x = .int (lo + i), fun i _ => n ≤ i⟩
theorem turn_list {P : Program} {w : World} {K : PySem.W.Frag} {tg : Expr} (a it : Addr) : Turn P w K tg (Itl K a) [it] it (fun i h => h.IsListIter it a i) where
  mem := by simp
  obj := fun i h st b hb => by
    have e : b = it := by simpa using hb
    subst e
    obtain ⟨o, e, c, d⟩ := st
    exact ⟨o, e, fun v z => by rw [d] at z; cases z⟩
  keep := fun i h h' st k => st.at fun o e => k it (by simp) o e
  item := by
    intro X hP hw hK hc i pins s σ H E I hf st hg
    subst hP hw hK
    obtain ⟨xs, x, hq, hx⟩ := hg
    obtain ⟨its, rv, p, hz⟩ := I.list hq
    obtain ⟨u, hu, ru⟩ := rv.get hx
    obtain ⟨f0, f1, f2, f3, f4, f5⟩ := hf it (by simp)
    refine wpAny_pyNext_list_item st p.isList (x := u) (by simpa using hu) fun h' st' sb => ?_
    have I1 : Inv X pins σ H { s with heap := h' } := I.turned (t' := s.toks) (fun b o hb e => (sb.2 b hb).trans e) f0 f1 f3 f4 f5
    obtain ⟨o, e, c, d⟩ := id st'
    exact ⟨u, rfl, go_of (s := { s with heap := h' }) e c d (by decide) ⟨x, H, I1, ru, ⟨rfl, fun ys hy => by rw [I.list_inj hy hq]; exact hx⟩, st', fun b hb => (hf b hb).1⟩⟩
  done := by
    intro X hP hw hK hc i pins s σ H E I hf st hg
    subst hP hw hK
    obtain ⟨xs, hq, hx⟩ := hg
    obtain ⟨its, rv, p, hz⟩ := I.list hq
    obtain ⟨f0, f1, f2, f3, f4, f5⟩ := hf it (by simp)
    have hl := rv.length
    exact wpAny_pyNext_list_end (I.ok.hd hc) st p.isList (by simp; omega) fun h' eb => ⟨rfl, I.turned (t' := s.toks) (fun b o hb e => eb b o hb e) f0 f1 f3 f4 f5⟩
  self := fun _ _ _ _ _ st h => wpAny_pyIter_listiter st h
theorem turn_tuple {P : Program} {w : World} {K : PySem.W.Frag} {tg : Expr} (a it : Addr) : Turn P w K tg (Itt K a) [it] it (fun i h => h.IsTupleIter it a i) where
  mem := by simp
  obj := fun i h st b hb => by
    have e : b = it := by simpa using hb
    subst e
    obtain ⟨o, e, c, d⟩ := st
    exact ⟨o, e, fun v z => by rw [d] at z; cases z⟩
  keep := fun i h h' st k => st.at fun o e => k it (by simp) o e
  item := by
    intro X hP hw hK hc i pins s σ H E I hf st hg
    subst hP hw hK
    obtain ⟨xs, x, hq, hx⟩ := hg
    obtain ⟨its, rv, p, hz⟩ := I.tuple hq
    obtain ⟨u, hu, ru⟩ := rv.get hx
    obtain ⟨f0, f1, f2, f3, f4, f5⟩ := hf it (by simp)
    refine wpAny_pyNext_tuple_item st (show s.heap.IsTuple a its.toArray from p) (x := u) (by simpa using hu) fun h' st' sb => ?_
    have I1 : Inv X pins σ H { s with heap := h' } := I.turned (t' := s.toks) (fun b o hb e => (sb.2 b hb).trans e) f0 f1 f3 f4 f5
    obtain ⟨o, e, c, d⟩ := id st'
    exact ⟨u, rfl, go_of (s := { s with heap := h' }) e c d (by decide) ⟨x, H, I1, ru, ⟨rfl, fun ys hy => by rw [I.tuple_inj hy hq]; exact hx⟩, st', fun b hb => (hf b hb).1⟩⟩
  done := by
    intro X hP hw hK hc i pins s σ H E I hf st hg
    subst hP hw hK
    obtain ⟨xs, hq, hx⟩ := hg
    obtain ⟨its, rv, p, hz⟩ := I.tuple hq
    obtain ⟨f0, f1, f2, f3, f4, f5⟩ := hf it (by simp)
    have hl := rv.length
    exact wpAny_pyNext_tuple_end (I.ok.hd hc) st (show s.heap.IsTuple a its.toArray from p) (by simp; omega) fun h' eb => ⟨rfl, I.turned (t' := s.toks) (fun b o hb e => eb b o hb e) f0 f1 f3 f4 f5⟩
  self := fun _ _ _ _ _ st h => wpAny_pyIter_tupleiter st h
theorem turn_range {P : Program} {w : World} {K : PySem.W.Frag} {tg : Expr} (it : Addr) (lo : Int) (n : Nat) : Turn P w K tg (Itr lo n) [it] it (fun i h => IsRangeIter h it (lo + (i : Nat) * 1) ((n : Int) - (i : Nat)) 1) where
  mem := by simp
  obj := fun i h st b hb => by
    have e : b = it := by simpa using hb
    subst e
    exact ⟨_, st, fun v z => by
      have z' : Data.fields _ = Data.cell v := z
      cases z'⟩
  keep := fun i h h' st k => k it (by simp) _ st
  item := by
    intro X hP hw hK hc i pins s σ H E I hf st hg
    subst hP hw hK
    obtain ⟨f0, f1, f2, f3, f4, f5⟩ := hf it (by simp)
    have W := Walks.range (prog := X.prog) (w := X.w) (I.ok.hd hc) it lo 1 n
    refine W.item i s _ _ hg st fun v h' tk hv st' kk => ?_
    obtain ⟨t, rfl⟩ := hv
    have I1 : Inv X pins σ H { s with heap := h', toks := tk } := I.turned (fun b o hb e => kk b o (by simpa using hb) e) f0 f1 f3 f4 f5
    refine ⟨_, rfl, go_of (s := { s with heap := h', toks := tk }) (n := "range_iterator") st' rfl rfl (by decide) ⟨.int (lo + i), H, I1, ⟨t, ?_⟩, ⟨rfl, rfl⟩, st', fun b hb => (hf b hb).1⟩⟩
    rw [Int.mul_one]
  done := by
    intro X hP hw hK hc i pins s σ H E I hf st hg
    subst hP hw hK
    obtain ⟨f0, f1, f2, f3, f4, f5⟩ := hf it (by simp)
    exact wpAny_pyNext_range_end (I.ok.hd hc) st (by have : n ≤ i := hg; omega) fun h' eb => ⟨rfl, I.turned (t' := s.toks) (fun b o hb e => eb b o hb e) f0 f1 f3 f4 f5⟩
  self := fun _ _ _ _ _ st h => wpAny_pyIter_rangeiter st h
end L2
namespace L2
open PySem PySem.Spec PyProof.Rows
section
variable {X : Cx} {tg : Expr}
theorem range_it {pins : List (Addr × Obj)} {σ : St} {H : Hp} {s : Shared} {R : It → Hp → Prop} {E : Value → Shared → Prop} {lo hi : Int} {t u v : Tok} {tk : Nat} (I : Inv X pins σ H s) (h1 : -(2 ^ 62) ≤ lo) (h2 : lo < 2 ^ 62) (h3 : -(2 ^ 62) ≤ hi) (h4 : hi < 2 ^ 62)
    (q : R (Itr lo (hi - lo).toNat) H) : wpAny (model X.prog X.w) X.A (pyIter (.ref s.heap.objs.size)) (PIE X pins σ tg R) E { s with heap := s.heap.push { cls := .type "range", data := .fields #[.int lo t, .int hi u, .int 1 v] }, toks := tk } := by
  refine wpAny_pyIter_range (IsRange.new ..) (small_one h1 h2 h3 h4) ?_
  have I1 : Inv X pins σ H { s with heap := s.heap.push { cls := .type "range", data := .fields #[.int lo t, .int hi u, .int 1 v] }, toks := tk } := I.kept fun b o e => Heap.get?_push_of_some _ e
  refine ⟨(s.heap.push { cls := .type "range", data := .fields #[.int lo t, .int hi u, .int 1 v] }).objs.size, [(s.heap.push { cls := .type "range", data := .fields #[.int lo t, .int hi u, .int 1 v] }).objs.size], _, _, H, rfl,
    I1.kept (t' := tk) fun b o e => Heap.get?_push_of_some _ e, turn_range _ lo (hi - lo).toNat, ?_, fun b hb => ?_, q⟩
  · have e1 : lo + ((0 : Nat) : Int) * 1 = lo := by simp
    have e2 : (((hi - lo).toNat : Nat) : Int) - ((0 : Nat) : Int) = Builtin.Range.rangeSize lo hi 1 := by rw [rangeSize_one]; split <;> omega
    show IsRangeIter _ _ (lo + ((0 : Nat) : Int) * 1) ((((hi - lo).toNat : Nat) : Int) - ((0 : Nat) : Int)) 1
    rw [e1, e2]
    exact Heap.get?_push_size _ rfl
  · have e : b = (s.heap.push { cls := .type "range", data := .fields #[.int lo t, .int hi u, .int 1 v] }).objs.size := by simpa using hb
    subst e
    exact I1.fpOk (Nat.le_refl _) (I1.hok.fresh (Nat.le_refl _))
def iRng1 (ta : TA) : TI := fun σ H R => ta σ H fun vs H1 => ∃ j : Int, vs = [.int j] ∧ -(2 ^ 62) ≤ j ∧ j < 2 ^ 62 ∧ R (Itr 0 j.toNat) H1
theorem pi_range1 {a : Expr} {ta : TA} {p pos : Pos} (hg : Gl X "range") (hm : X.mg "range" = none) (ha : PA X [a] ta) (hs : starEach [a] X.env = [(false, eval a X.env)] := by rfl) : PI X tg (.Call (.Name "range" p) [a] [] pos) (iRng1 ta) := by
  intro pins s σ H R I h
  refine Call_ (ld_blt I hg hm boot_range (PyProof.Rows.callWith_type1 (thn (ha pos pins s σ H _ I h) fun us s1 ⟨vs, H1, I1, r1, q1⟩ => ?_) hs rfl))
  obtain ⟨j, e, q1, q2, q⟩ := q1
  subst e
  cases r1 with
  | cons r rr =>
    cases rr
    obtain ⟨t, rfl⟩ := r
    exact call_range_1 (range_it I1 (by omega) (by omega) q1 q2 (by simpa using q))
def tFor (wi : TI) (g : TG) (tb : TS) : TS := fun D σ H => wi σ H fun J H1 => ∃ W : Nat → Nat → St → Hp → Prop, (∃ m, W 0 m σ H1) ∧ ∀ i m σ H, W i m σ H →
  (J.stop i H ∧ D.nx σ H) ∨ (J.go i H ∧ ∃ N : St → Hp → Prop, (∀ σ' H', N σ' H' → ∃ m', m' < m ∧ W (i + 1) m' σ' H') ∧ ∀ x H', J.yld i H x H' → g x σ H' fun σ2 H2 => tb { D with nx := N, ct := N, bk := D.nx } σ2 H2)
def pinsAt (fp : List Addr) (h : Heap) : List (Addr × Obj) := fp.filterMap fun b => (h.get? b).map fun o => (b, o)
theorem mem_pinsAt {fp : List Addr} {h : Heap} {b : Addr} {o : Obj} (hb : b ∈ fp) (e : h.get? b = some o) : (b, o) ∈ pinsAt fp h := List.mem_filterMap.mpr ⟨b, hb, by rw [e]; rfl⟩
theorem of_pinsAt {fp : List Addr} {h : Heap} {p : Addr × Obj} (hp : p ∈ pinsAt fp h) : p.1 ∈ fp ∧ h.get? p.1 = some p.2 := by
  obtain ⟨b, hb, e⟩ := List.mem_filterMap.mp hp
  cases q : h.get? b with
  | none => rw [q] at e; cases e
  | some o =>
    rw [q] at e
    have e' : (b, o) = p := Option.some.inj e
    subst e'
    exact ⟨hb, q⟩
theorem Inv.pinned {pins : List (Addr × Obj)} {σ : St} {H : Hp} {s : Shared} {fp : List Addr} (I : Inv X pins σ H s) (hf : ∀ b ∈ fp, FpOk X pins H b) (ho : ∀ b ∈ fp, ∃ o, s.heap.get? b = some o ∧ ∀ v, o.data ≠ .cell v) : Inv X (pins ++ pinsAt fp s.heap) σ H s :=
  I.pins_of fun p hp => (List.mem_append.mp hp).elim (fun z => I.pin p (List.mem_append_right _ z)) fun z => by
    obtain ⟨hb, e⟩ := of_pinsAt z
    obtain ⟨f0, f1, f2, _⟩ := hf p.1 hb
    obtain ⟨o, e', d⟩ := ho p.1 hb
    rw [e] at e'; cases e'
    exact ⟨e, f0, f1, f2, d⟩
theorem Inv.unpinned {pins pl : List (Addr × Obj)} {σ : St} {H : Hp} {s : Shared} (I : Inv X (pins ++ pl) σ H s) : Inv X pins σ H s := I.pins_of fun p hp => I.pin p (List.mem_append_right _ (List.mem_append_left _ hp))
theorem ps_for {iter : Expr} {body : List Stmt} {wi : TI} {g : TG} {tb : TS} {pos : Pos} (hp : PassesOwn (model X.prog X.w) X.A X.env X.xe) (hc : X.calm = true) (hi : PI X tg iter wi) (hg : PG X tg g) (hb : PSs X body tb)
    (hs : ∀ x, foldedSetIterable iter X.env x = pure x := by intro _; rfl) : PS X (.For tg iter body [] pos) (tFor wi g tb) := by
  intro pins s σ H D I h
  refine wpAny_For (thn (hi pins s σ H _ I h) fun v s1 h1 => thn h1 fun itv s2 h2 => ?_) hs
  obtain ⟨it, fp, tn, J, H2, e, I2, T, st2, f2, W, ⟨m0, w0⟩, turn⟩ := h2
  subst e
  have stat : ∀ {H' : Hp}, (∀ b ∈ fp, H' b = none) → ∀ b ∈ fp, FpOk X pins H' b := fun hn b hb => ⟨hn b hb, (f2 b hb).2⟩
  refine codeAny_forLoop_any (fun n s' => ∃ i σ' H', Inv X pins σ' H' s' ∧ tn i s'.heap ∧ (∀ b ∈ fp, H' b = none) ∧ W i n σ' H') ?_ m0 ⟨0, σ, H2, I2, st2, fun b hb => (f2 b hb).1, w0⟩
  rintro n s3 ⟨i, σ3, H3, I3, st3, fr3, w3⟩
  rcases turn i n σ3 H3 w3 with ⟨stop, qn⟩ | ⟨go, N, hN, step⟩
  · refine wpAny_passesOwn hp (thn (T.done X rfl rfl rfl hc i pins s3 σ3 H3 X.xe I3 (stat fr3) st3 stop) fun r s4 ⟨hr, I4⟩ => ?_)
    subst hr
    exact wpAny_execs_nil ⟨σ3, H3, I4, qn⟩
  · refine wpAny_passesOwn hp (thn (T.item X rfl rfl rfl hc i pins s3 σ3 H3 X.xe I3 (stat fr3) st3 go) fun r s4 ⟨u, hr, h4⟩ => ?_)
    subst hr
    refine wpAny_passesOwn hp (thn h4 fun _ s5 ⟨x, H5, I5, r5, y5, st5, fr5⟩ => ?_)
    have I5' := I5.pinned (stat fr5) (T.obj _ _ st5)
    refine wpAny_passesOwn hp (thn (hg _ s5 σ3 H5 x u _ I5' r5 (step x H5 y5)) fun _ s6 ⟨σ6, H6, I6, q6⟩ => ?_)
    refine wpAny_passesOwn hp (thn (hb _ s6 σ6 H6 _ I6 q6) fun f s7 q7 => ?_)
    have again : ∀ {σ7 : St} {H7 : Hp}, Inv X (pins ++ pinsAt fp s5.heap) σ7 H7 s7 → N σ7 H7 → ∃ m, m < n ∧ ∃ i σ' H', Inv X pins σ' H' s7 ∧ tn i s7.heap ∧ (∀ b ∈ fp, H' b = none) ∧ W i m σ' H' := fun {σ7 H7} I7 n7 => by
      obtain ⟨m', hm, w7⟩ := hN σ7 H7 n7
      refine ⟨m', hm, i + 1, σ7, H7, I7.unpinned, T.keep _ _ _ st5 fun b hb o e => (I7.pin (b, o) (List.mem_append_right _ (List.mem_append_right _ (mem_pinsAt hb e)))).1, fun b hb => ?_, w7⟩
      obtain ⟨o, e, d⟩ := T.obj _ _ st5 b hb
      exact (I7.pin (b, o) (List.mem_append_right _ (List.mem_append_right _ (mem_pinsAt hb e)))).2.1
    cases f with
    | next => obtain ⟨σ7, H7, I7, n7⟩ := q7; exact again I7 n7
    | cont => obtain ⟨σ7, H7, I7, n7⟩ := q7; exact again I7 n7
    | brk => obtain ⟨σ7, H7, I7, q7⟩ := q7; exact ⟨σ7, H7, I7.unpinned, q7⟩
    | ret v => obtain ⟨x7, σ7, H7, I7, r7, q7⟩ := q7; exact ⟨x7, σ7, H7, I7.unpinned, r7, q7⟩
end
end L2
namespace L2
open PySem PySem.Spec PyProof.Rows
abbrev R2 := V → V → Hp → VK → Prop
def OpR (X : Cx) (f : Value → Value → Sem Value) (r : R2) : Prop :=
  ∀ (pins : List (Addr × Obj)) (s : Shared) (σ : St) (H : Hp) (x y : V) (v u : Value) (Q : VK), Inv X pins σ H s → RelV x v → RelV y u → r x y H Q →
    wpAny (model X.prog X.w) X.A (f v u) (EP X pins σ Q) X.xe s
def UnR (X : Cx) (f : Value → Sem Value) (r : V → Hp → VK → Prop) : Prop :=
  ∀ (pins : List (Addr × Obj)) (s : Shared) (σ : St) (H : Hp) (x : V) (v : Value) (Q : VK), Inv X pins σ H s → RelV x v → r x H Q →
    wpAny (model X.prog X.w) X.A (f v) (EP X pins σ Q) X.xe s
def CallR (X : Cx) (f : Value) (r : List V → Hp → VK → Prop) : Prop :=
  ∀ (pins : List (Addr × Obj)) (s : Shared) (σ : St) (H : Hp) (xs : List V) (us : List Value) (Q : VK), Inv X pins σ H s → Vals xs us → r xs H Q →
    wpAny (model X.prog X.w) X.A (call f us) (EP X pins σ Q) X.xe s
def tOp (r : R2) (ta tb : TE) : TE := fun σ H Q => ta σ H fun x H1 => tb σ H1 fun y H2 => r x y H2 Q
def tUn (r : V → Hp → VK → Prop) (ta : TE) : TE := fun σ H Q => ta σ H fun x H1 => r x H1 Q
def rI (C : Int → Int → Prop) (g : Int → Int → V) : R2 := fun x y H Q => ∃ i j, x = .int i ∧ y = .int j ∧ C i j ∧ Q (g i j) H
def rI0 (g : Int → Int → V) : R2 := fun x y H Q => ∃ i j, x = .int i ∧ y = .int j ∧ Q (g i j) H
def rU (g : Int → V) : V → Hp → VK → Prop := fun x H Q => ∃ i, x = .int i ∧ Q (g i) H
section
variable {X : Cx} {a b c : Expr} {ta tb tc : TE} {pos : Pos}
theorem binT (ha : PE X a ta) (hb : PE X b tb) {pins : List (Addr × Obj)} {s : Shared} {σ : St} {H : Hp} {R : V → V → Hp → Prop} (I : Inv X pins σ H s)
    (h : ta σ H fun x H1 => tb σ H1 fun y H2 => R x y H2) {Q : Value → Shared → Prop} {f : Value → Value → Sem Value}
    (hf : ∀ v u s2 x y H2, Inv X pins σ H2 s2 → RelV x v → RelV y u → R x y H2 → wpAny (model X.prog X.w) X.A (f v u) Q X.xe s2) :
    wpAny (model X.prog X.w) X.A (eval a X.env) (fun v s₁ => wpAny (model X.prog X.w) X.A (eval b X.env) (fun u s₂ => wpAny (model X.prog X.w) X.A (f v u) Q X.xe s₂) X.xe s₁) X.xe s := by
  refine thn (ha pins s σ H _ I h) fun v s1 ⟨x, H1, I1, r1, q1⟩ => ?_
  refine thn (hb pins s1 σ H1 _ I1 q1) fun u s2 ⟨y, H2, I2, r2, q2⟩ => ?_
  exact hf v u s2 x y H2 I2 r1 r2 q2
theorem pe_op {op : Operator} {r : R2} (ho : OpR X (binaryOp op) r) (ha : PE X a ta) (hb : PE X b tb) : PE X (.BinOp a op b pos) (tOp r ta tb) := by
  intro pins s σ H Q I h
  exact wpAny_BinOp (binT ha hb I h fun v u s2 x y H2 I2 rx ry q => ho pins s2 σ H2 x y v u Q I2 rx ry q)
theorem pe_un {op : UnaryOp} {r : V → Hp → VK → Prop} (ho : UnR X (unaryOp op) r) (ha : PE X a ta) : PE X (.UnaryOp op a pos) (tUn r ta) := by
  intro pins s σ H Q I h
  exact UnaryOp_ (thn (ha pins s σ H _ I h) fun v s1 ⟨x, H1, I1, r1, q1⟩ => ho pins s1 σ H1 x v Q I1 r1 q1)
theorem opI {f : Value → Value → Sem Value} {C : Int → Int → Prop} {g : Int → Int → Int}
    (rule : ∀ (i j : Int) (t u : Tok) (s : Shared) (Q : Value → Shared → Prop) (E : Value → Shared → Prop), C i j → Q (.int (g i j) s.toks) { s with toks := s.toks + 1 } → wpAny (model X.prog X.w) X.A (f (.int i t) (.int j u)) Q E s) :
    OpR X f (rI C fun i j => .int (g i j)) := by
  intro pins s σ H x y v u Q I rx ry h
  obtain ⟨i, j, rfl, rfl, hc, q⟩ := h
  obtain ⟨t, rfl⟩ := rx
  obtain ⟨t', rfl⟩ := ry
  exact rule i j t t' s _ _ hc ⟨.int (g i j), H, I.tok _, ⟨_, rfl⟩, q⟩
theorem opI0 {f : Value → Value → Sem Value} {g : Int → Int → Int}
    (rule : ∀ (i j : Int) (t u : Tok) (s : Shared) (Q : Value → Shared → Prop) (E : Value → Shared → Prop), Q (.int (g i j) s.toks) { s with toks := s.toks + 1 } → wpAny (model X.prog X.w) X.A (f (.int i t) (.int j u)) Q E s) :
    OpR X f (rI0 fun i j => .int (g i j)) := by
  intro pins s σ H x y v u Q I rx ry h
  obtain ⟨i, j, rfl, rfl, q⟩ := h
  obtain ⟨t, rfl⟩ := rx
  obtain ⟨t', rfl⟩ := ry
  exact rule i j t t' s _ _ ⟨.int (g i j), H, I.tok _, ⟨_, rfl⟩, q⟩
theorem opB0 {f : Value → Value → Sem Value} {g : Int → Int → Bool}
    (rule : ∀ (i j : Int) (t u : Tok) (s : Shared) (Q : Value → Shared → Prop) (E : Value → Shared → Prop), Q (.bool (g i j)) s → wpAny (model X.prog X.w) X.A (f (.int i t) (.int j u)) Q E s) :
    OpR X f (rI0 fun i j => .bl (g i j)) := by
  intro pins s σ H x y v u Q I rx ry h
  obtain ⟨i, j, rfl, rfl, q⟩ := h
  obtain ⟨t, rfl⟩ := rx
  obtain ⟨t', rfl⟩ := ry
  exact rule i j t t' s _ _ ⟨.bl (g i j), H, I, rfl, q⟩
def CPow (i j : Int) : Prop := 0 ≤ j ∧ j ≤ 1000000 ∧ i.natAbs < 2 ^ 64
def CMul (i j : Int) : Prop := (-(2 ^ 64) < i ∧ i < 2 ^ 64) ∨ (-(2 ^ 64) < j ∧ j < 2 ^ 64)
theorem CMul.ok {i j : Int} (h : CMul i j) : IntMulOk i j := by
  rcases h with ⟨h1, h2⟩ | ⟨h1, h2⟩
  · exact .of_left (intBits_le_64 h1 h2)
  · exact .of_right (intBits_le_64 h1 h2)
theorem op_add : OpR X (binaryOp .Add) (rI0 fun i j => .int (i + j)) := opI0 fun _ _ _ _ _ _ _ q => add_int q
theorem op_sub : OpR X (binaryOp .Sub) (rI0 fun i j => .int (i - j)) := opI0 fun _ _ _ _ _ _ _ q => sub_int q
theorem op_modN : OpR X (binaryOp .Mod) (rI (fun _ j => j ≠ 0) fun i j => .int (i.fmod j)) := opI fun _ _ _ _ _ _ _ hc q => mod_int' hc q
theorem op_pow : OpR X (binaryOp .Pow) (rI CPow fun i j => .int (i ^ j.toNat)) := opI fun _ _ _ _ _ _ _ hc q => pow_int_small hc.1 hc.2.1 hc.2.2 q
theorem unI {f : Value → Sem Value} {g : Int → Int}
    (rule : ∀ (i : Int) (t : Tok) (s : Shared) (Q : Value → Shared → Prop) (E : Value → Shared → Prop), Q (.int (g i) s.toks) { s with toks := s.toks + 1 } → wpAny (model X.prog X.w) X.A (f (.int i t)) Q E s) :
    UnR X f (rU fun i => .int (g i)) := by
  intro pins s σ H x v Q I rx h
  obtain ⟨i, rfl, q⟩ := h
  obtain ⟨t, rfl⟩ := rx
  exact rule i t s _ _ ⟨.int (g i), H, I.tok _, ⟨_, rfl⟩, q⟩
theorem un_neg : UnR X (unaryOp .USub) (rU fun i => .int (-i)) := unI fun _ _ _ _ _ q => neg_int q
end
section
variable {X : Cx} {a b c : Expr} {ta tb tc : TE} {pos : Pos}
theorem op_lt : OpR X (compareOp .Lt) (rI0 fun i j => .bl (decide (i < j))) := opB0 fun _ _ _ _ _ _ _ q => lt_int q
theorem op_le : OpR X (compareOp .LtE) (rI0 fun i j => .bl (decide (i ≤ j))) := opB0 fun _ _ _ _ _ _ _ q => le_int q
theorem op_gt : OpR X (compareOp .Gt) (rI0 fun i j => .bl (decide (j < i))) := opB0 fun _ _ _ _ _ _ _ q => gt_int q
theorem op_ge : OpR X (compareOp .GtE) (rI0 fun i j => .bl (decide (j ≤ i))) := opB0 fun _ _ _ _ _ _ _ q => ge_int q
theorem OpR.or {f : Value → Value → Sem Value} {r r' : R2} (h : OpR X f r) (h' : OpR X f r') : OpR X f (fun x y H Q => r x y H Q ∨ r' x y H Q) := by
  intro pins s σ H x y v u Q I rx ry q
  rcases q with q | q
  · exact h pins s σ H x y v u Q I rx ry q
  · exact h' pins s σ H x y v u Q I rx ry q
theorem nomark (b : Expr) {op : CmpOp} (h : op ≠ .In := by decide) (h2 : op ≠ .NotIn := by decide) : behindInMarks op b = false := by
  have e1 : (op == CmpOp.In) = false := by cases op <;> first | rfl | exact absurd rfl h
  have e2 : (op == CmpOp.NotIn) = false := by cases op <;> first | rfl | exact absurd rfl h2
  cases b <;> simp [behindInMarks, e1, e2]
theorem pe_cmpR {op : CmpOp} {r : R2} (ho : OpR X (compareOp op) r) (ha : PE X a ta) (hb : PE X b tb) (hm : behindInMarks op b = false) : PE X (.Compare a [op] [b] pos) (tOp r ta tb) := by
  intro pins s σ H Q I h
  exact wpAny_Compare1 (binT ha hb I h fun v u s2 x y H2 I2 rx ry q => ho pins s2 σ H2 x y v u Q I2 rx ry q) hm
def tTest (t : TE) : TT := fun σ H Q => t σ H fun x H' => ∃ k, x = .bl k ∧ Q k H'
theorem pt_cmpR {op : CmpOp} {r : R2} (ho : OpR X (compareOp op) r) (ha : PE X a ta) (hb : PE X b tb) (hm : behindInMarks op b = false) : PT X (.Compare a [op] [b] pos) (tTest (tOp r ta tb)) := by
  intro pins s σ H Q I h
  refine wpAny_isTrue_Compare1 (thn (ha pins s σ H _ I h) fun v s1 ⟨x, H1, I1, r1, q1⟩ => thn (hb pins s1 σ H1 _ I1 q1) fun u s2 ⟨y, H2, I2, r2, q2⟩ =>
    thn (ho pins s2 σ H2 x y v u _ I2 r1 r2 q2) fun c s3 ⟨z, H3, I3, r3, k, e, q3⟩ => ?_) hm
  subst e
  cases r3
  exact wpAny_truthy_bool ⟨H3, I3, q3⟩
def tChain (r r' : R2) (ta tb tc : TE) : TE := fun σ H Q => ta σ H fun x H1 => tb σ H1 fun y H2 => r x y H2 fun z H3 => ∃ k, z = .bl k ∧
  (if k = true then tc σ H3 fun w' H4 => r' y w' H4 Q else Q (.bl false) H3)
theorem pt_chain {op op' : CmpOp} {r r' : R2} (ho : OpR X (compareOp op) r) (ho' : OpR X (compareOp op') r') (ha : PE X a ta) (hb : PE X b tb) (hc : PE X c tc)
    (hm : lastMarks [op, op'] [b, c] = false := by with_unfolding_all rfl) : PT X (.Compare a [op, op'] [b, c] pos) (tTest (tChain r r' ta tb tc)) := by
  intro pins s σ H Q I h
  refine isTrue_chain (thn (ha pins s σ H _ I h) fun v s1 ⟨x, H1, I1, r1, q1⟩ => test_link (thn (hb pins s1 σ H1 _ I1 q1) fun u s2 ⟨y, H2, I2, r2, q2⟩ =>
    thn (ho pins s2 σ H2 x y v u _ I2 r1 r2 q2) fun d s3 ⟨z, H3, I3, r3, k, e, q3⟩ => ?_)) hm
  subst e
  cases r3
  refine wpAny_truthy_bool ?_
  cases k with
  | false =>
    obtain ⟨k', e', q'⟩ := q3
    cases e'
    exact ite_ff ⟨H3, I3, q'⟩
  | true =>
    refine ite_tt (test_last (thn (hc pins s3 σ H3 _ I3 q3) fun w' s4 ⟨z', H4, I4, r4, q4⟩ => thn (ho' pins s4 σ H4 y z' u w' _ I4 r2 r4 q4) fun d' s5 ⟨z2, H5, I5, r5, k2, e2, q5⟩ => ?_))
    subst e2
    cases r5
    exact wpAny_truthy_bool ⟨H5, I5, q5⟩
theorem line63 : (sizeLine : Nat) < 2 ^ 63 := by rw [sizeLine_eq]; decide
theorem op_add_str : OpR X (binaryOp .Add) (fun x y H Q => ∃ i j, x = .str i ∧ y = .str j ∧ i.length + j.length ≤ sizeLine ∧ Q (.str (i ++ j)) H) := by
  intro pins s σ H x y v u Q I rx ry h
  obtain ⟨i, j, rfl, rfl, hz, q⟩ := h
  obtain ⟨t, rfl⟩ := rx
  obtain ⟨t', rfl⟩ := ry
  exact add_str (fun t' tk => ⟨.str (i ++ j), H, I.tok _, ⟨_, rfl⟩, q⟩) hz
theorem vals1 {x : V} {us : List Value} (r : Vals [x] us) : ∃ u, us = [u] ∧ RelV x u := by
  cases r with
  | cons r1 r2 => cases r2; exact ⟨_, rfl, r1⟩
theorem vals2 {x y : V} {us : List Value} (r : Vals [x, y] us) : ∃ u w', us = [u, w'] ∧ RelV x u ∧ RelV y w' := by
  cases r with
  | cons r1 r2 =>
    cases r2 with
    | cons r3 r4 => cases r4; exact ⟨_, _, rfl, r1, r3⟩
theorem call_abs : CallR X (.builtin "abs") (fun xs H Q => ∃ i, xs = [.int i] ∧ Q (.int (if i < 0 then -i else i)) H) := by
  intro pins s σ H xs us Q I r h
  obtain ⟨i, rfl, q⟩ := h
  obtain ⟨u, rfl, t, rfl⟩ := vals1 r
  exact call_abs_int fun u tk => ⟨.int (if i < 0 then -i else i), H, I.tok _, ⟨_, rfl⟩, q⟩
theorem call_max2 (hc : X.calm = true) : CallR X (.builtin "max") (fun xs H Q => ∃ i j, xs = [.int i, .int j] ∧ Q (.int (if j > i then j else i)) H) := by
  intro pins s σ H xs us Q I r h
  obtain ⟨i, j, rfl, q⟩ := h
  obtain ⟨u, w', rfl, ⟨t, rfl⟩, ⟨t', rfl⟩⟩ := vals2 r
  refine max_two_ints (I.ok.hd hc) fun h' tk k => ⟨_, H, I.kept k, ?_, q⟩
  by_cases hj : j > i
  · rw [if_pos hj, if_pos hj]; exact ⟨_, rfl⟩
  · rw [if_neg hj, if_neg hj]; exact ⟨_, rfl⟩
theorem call_min2 (hc : X.calm = true) : CallR X (.builtin "min") (fun xs H Q => ∃ i j, xs = [.int i, .int j] ∧ Q (.int (if j < i then j else i)) H) := by
  intro pins s σ H xs us Q I r h
  obtain ⟨i, j, rfl, q⟩ := h
  obtain ⟨u, w', rfl, ⟨t, rfl⟩, ⟨t', rfl⟩⟩ := vals2 r
  refine min_two_ints (I.ok.hd hc) fun h' tk k => ⟨_, H, I.kept k, ?_, q⟩
  by_cases hj : j < i
  · rw [if_pos hj, if_pos hj]; exact ⟨_, rfl⟩
  · rw [if_neg hj, if_neg hj]; exact ⟨_, rfl⟩
end
end L2
namespace L2
open PySem PySem.Spec PyProof.Rows
structure ObjM (h : Heap) (x dx C : Addr) (mA : Str → Option Value) : Prop where
  obj : h.get? x = some (PySem.W.instObj C dx)
  ns : h.Ns1 dx mA
  ne : dx ≠ x
theorem lookIn_ns {h : Heap} {dx : Addr} {mA : Str → Option Value} (n : h.Ns1 dx mA) : ∃ od, h.get? dx = some od ∧ ∀ name, PySem.W.lookIn name od = some (mA name) := by
  obtain ⟨o, es, ep, ho, hd, hk, _, hm⟩ := n
  refine ⟨o, ho, fun name => ?_⟩
  have e := hm name
  unfold nsFind findBy at e
  rw [← Array.find?_toList] at e
  unfold PySem.W.lookIn
  rw [hd]
  dsimp only
  split
  · rename_i y q
    rw [q] at e
    exact congrArg some e
  · rename_i q
    rw [q] at e
    have a : es.toList.any (·.refKey) = false := by
      rw [List.any_eq_false]
      intro y hy
      obtain ⟨z, t, hkey⟩ := hk y (Array.mem_toList_iff.mp hy)
      simp [DictEntry.refKey, hkey]
    have a' : ¬ es.toList.any (·.refKey) = true := by rw [a]; exact Bool.false_ne_true
    rw [if_neg a']
    exact congrArg some e
theorem ObjM.look {h : Heap} {x dx C : Addr} {mA : Str → Option Value} (I : ObjM h x dx C mA) : ∃ od, PySem.W.InstAt h x (PySem.W.instObj C dx) C (some od) ∧ ∀ name, PySem.W.lookIn name od = some (mA name) :=
  let ⟨od, ho, hl⟩ := lookIn_ns I.ns
  ⟨od, ⟨I.obj, rfl, rfl, ho⟩, hl⟩
section
variable {prog : Program} {w : World} {A : Around} {E : Value → Shared → Prop} {s : Shared} {K : PySem.W.Frag} {x dx C f : Addr} {mA : Str → Option Value} {name : Str} {v : Value}
end
def putF (f : Str) (v : V) : List (Str × V) → List (Str × V)
  | [] => [(f, v)]
  | (g, x) :: r => if g = f then (g, v) :: r else (g, x) :: putF f v r
theorem lookup_putF (f g : Str) (v : V) : ∀ fs : List (Str × V), (putF f v fs).lookup g = if g = f then some v else fs.lookup g
  | [] => by
    show List.lookup g [(f, v)] = _
    by_cases h : g = f
    · have hb : (g == f) = true := beq_iff_eq.mpr h
      simp only [List.lookup, hb, if_pos h]
    · have hb : (g == f) = false := beq_eq_false_iff_ne.mpr h
      simp only [List.lookup, hb, if_neg h]
  | (k, x) :: r => by
    have ih := lookup_putF f g v r
    rw [show putF f v ((k, x) :: r) = (if k = f then (k, v) :: r else (k, x) :: putF f v r) from rfl]
    by_cases hk : k = f
    · rw [if_pos hk]
      by_cases h : g = k
      · have hb : (g == k) = true := beq_iff_eq.mpr h
        simp only [List.lookup, hb, if_pos (h.trans hk)]
      · have hb : (g == k) = false := beq_eq_false_iff_ne.mpr h
        simp only [List.lookup, hb, if_neg (fun e : g = f => h (e.trans hk.symm))]
    · rw [if_neg hk]
      by_cases h : g = k
      · have hb : (g == k) = true := beq_iff_eq.mpr h
        simp only [List.lookup, hb, if_neg (fun e : g = f => hk (h.symm.trans e))]
      · have hb : (g == k) = false := beq_eq_false_iff_ne.mpr h
        simp only [List.lookup, hb]
        exact ih
theorem keys_putF (f : Str) (v : V) : ∀ fs : List (Str × V), f ∈ (putF f v fs).map (·.1) ∧ ∀ g, g ∈ fs.map (·.1) → g ∈ (putF f v fs).map (·.1)
  | [] => ⟨by simp [putF], fun g h => by simp at h⟩
  | (k, x) :: r => by
    obtain ⟨i1, i2⟩ := keys_putF f v r
    rw [show putF f v ((k, x) :: r) = (if k = f then (k, v) :: r else (k, x) :: putF f v r) from rfl]
    by_cases hk : k = f
    · rw [if_pos hk]
      subst hk
      exact ⟨by simp, fun g h => by simpa using h⟩
    · rw [if_neg hk]
      refine ⟨?_, fun g h => ?_⟩
      · rw [List.map_cons]
        exact List.mem_cons_of_mem _ i1
      · rw [List.map_cons] at h ⊢
        rcases List.mem_cons.mp h with e | e
        · exact List.mem_cons.mpr (.inl e)
        · exact List.mem_cons_of_mem _ (i2 g e)
theorem length_putF (f : Str) (v : V) : ∀ fs : List (Str × V), (putF f v fs).length ≤ fs.length + 1
  | [] => by simp [putF]
  | (k, x) :: r => by
    have ih := length_putF f v r
    rw [show putF f v ((k, x) :: r) = (if k = f then (k, v) :: r else (k, x) :: putF f v r) from rfl]
    by_cases hk : k = f
    · rw [if_pos hk, List.length_cons, List.length_cons]; omega
    · rw [if_neg hk, List.length_cons, List.length_cons]; omega
theorem RelO.some_of {v : V} {o : Option Value} (r : RelO (some v) o) : ∃ u, o = some u ∧ RelV v u := by
  cases o with
  | none => exact (show False from r).elim
  | some u => exact ⟨u, rfl, r⟩
theorem handed_of {v : V} {u : Value} (r : RelV v u) : PySem.W.handedIn u = true := by
  cases v with
  | non => cases (show u = Value.none from r); rfl
  | bl b => cases (show u = Value.bool b from r); rfl
  | int i => obtain ⟨t, e⟩ := (show ∃ t, u = Value.int i t from r); cases e; rfl
  | str x => obtain ⟨t, e⟩ := (show ∃ t, u = Value.str x t from r); cases e; rfl
  | byt b => obtain ⟨t, e⟩ := (show ∃ t, u = Value.bytes b t from r); cases e; rfl
  | flt b => obtain ⟨t, e⟩ := (show ∃ t, u = Value.float b t from r); cases e; rfl
  | ref a => cases (show u = Value.ref a from r); rfl
  | ty n => cases (show u = Value.type n from r); rfl
section
variable {P : Program} {w : World} {H H' : Hp} {h h' : Heap} {a C dx : Addr} {fs fs' : List (Str × V)}
theorem ins_get (hok : HOk P w H h) (e : H a = some (.ins C dx fs)) : ∃ mA, ObjM h a dx C mA ∧ (∀ f, RelO (fs.lookup f) (mA f)) ∧ PySem.Within mA (fs.map (·.1)) ∧ fs.length ≤ 1000 ∧ H dx = some (.own a) := by
  obtain ⟨d, z, ne, ob, mA, n, r, q⟩ := (show ObjOk P w H h a (.ins C dx fs) from hok a _ e)
  exact ⟨mA, ⟨ob, n, ne⟩, r, q, z, d⟩
end
structure Cls (K : PySem.W.Frag) (C : Addr) : Prop where
  pg : PySem.W.plainGet K C Str.empty = true
  hd : PySem.W.hasDictIn K C = true
  po : PySem.W.plainOver K C = true
  sa : PySem.W.findIn K (.ref C) "__setattr__" = some (some (.builtin "object.__setattr__"))
theorem Cls.get {K : PySem.W.Frag} {C : Addr} (c : Cls K C) (f : Str) : PySem.W.plainGet K C f = true := c.pg
section
variable {X : Cx} {pins : List (Addr × Obj)} {σ : St} {H : Hp} {s : Shared} {a C dx : Addr} {fs : List (Str × V)} {f : Str} {v : V} {A : Around} {E : Value → Shared → Prop}
theorem Inv.made (I : Inv X pins σ H s) : Inv X pins σ (upd (upd H s.heap.objs.size (.own (s.heap.objs.size + 1))) (s.heap.objs.size + 1) (.ins C s.heap.objs.size []))
    { s with heap := (s.heap.push PySem.W.emptyDict).push (PySem.W.instObj C s.heap.objs.size) } := by
  have e1 : (s.heap.push PySem.W.emptyDict).get? s.heap.objs.size = some PySem.W.emptyDict := Heap.get?_push_size s.heap rfl
  have e2 : ((s.heap.push PySem.W.emptyDict).push (PySem.W.instObj C s.heap.objs.size)).get? (s.heap.objs.size + 1) = some (PySem.W.instObj C s.heap.objs.size) := by
    have := Heap.get?_push_size (s.heap.push PySem.W.emptyDict) (o := PySem.W.instObj C s.heap.objs.size) rfl
    rwa [Heap.size_push] at this
  have e3 : (s.heap.push PySem.W.emptyDict).Ns s.heap.objs.size (fun _ => none) := ⟨PySem.W.emptyDict, #[], _, e1, rfl, (fun e he => absurd he (by simp)), fun _ => rfl⟩
  have I1 := I.laid (a := s.heap.objs.size) (o := .own (s.heap.objs.size + 1)) (h' := s.heap.push PySem.W.emptyDict) (t' := s.toks) (fun b u q => Heap.get?_push_of_some _ q) (Nat.le_refl _) ⟨_, e1⟩
  refine I1.laid (a := s.heap.objs.size + 1) (o := .ins C s.heap.objs.size []) (t' := s.toks) (fun b u q => Heap.get?_push_of_some _ q) (Nat.le_of_eq (Heap.size_push _ _)) ?_
  have ne : s.heap.objs.size ≠ s.heap.objs.size + 1 := Nat.ne_of_lt (Nat.lt_succ_self _)
  refine ⟨by rw [upd_ne ne, upd_same], Nat.zero_le _, ne, e2, fun _ => none, (Heap.Ns1.of_empty e3).at fun o q => Heap.get?_push_of_some _ q, fun _ => True.intro, fun y hy => absurd rfl hy⟩
theorem attr_of {prog : Program} {w : World} {env : Env} {e : Expr} {f : Str} {pos : Pos} {s : Shared} {Q : Value → Shared → Prop} (hb : attributeBase e f env (eval e env) = eval e env)
    (h : wpAny (model prog w) A (eval e env) (fun o s₁ => wpAny (model prog w) A (getAttr o f true) Q E s₁) E s) : wpAny (model prog w) A (eval (.Attribute e f pos) env) Q E s :=
  Attribute_any_ h (by rw [arm_eval_Attribute, hb])
end
section
variable {X : Cx} {o e value : Expr} {f : Str} {pos pos' tpos : Pos} {ta tv : TE}
end
section
variable {X : Cx} {pins : List (Addr × Obj)} {σ : St} {H : Hp} {s : Shared} {A : Around} {E : Value → Shared → Prop} {Q : Value → Shared → Prop} {c : Value} {b : Bool}
end
end L2
namespace L2
open PySem PySem.Spec PyProof.Rows
structure Room (k : Nat) (A : Around) : Prop where
  hd : A.handled = none
  dp : A.depth + 3 * k + 5 < recursionLimit
  un : A.units + 16 * k + 200 < cLine
theorem Room.mono {j k : Nat} {A : Around} (r : Room k A) (h : j ≤ k) : Room j A := ⟨r.hd, by have := r.dp; omega, by have := r.un; omega⟩
theorem Room.deeper {k : Nat} {A : Around} (r : Room (k + 1) A) (env : Env) : Room k (A.deeper env) :=
  ⟨r.hd, by have := r.dp; show A.depth + 1 + 3 * k + 5 < _; omega, by have := r.un; show A.units + 3 + 16 * k + 200 < _; omega⟩
theorem Room.in1 {k : Nat} {A : Around} (r : Room (k + 1) A) : Room k A.in1 :=
  ⟨r.hd, by have := r.dp; show A.depth + 3 * k + 5 < _; omega, by have := r.un; show A.units + 1 + 16 * k + 200 < _; omega⟩
theorem make_depth {A : Around} {C : Addr} {us : List Value} {kw : List (Str × Value)} : (A.under (.builtin "type.__call__" ⟨.ref C :: us, kw⟩)).depth = A.depth + 1 := by
  first | rfl | simp [Around.under, Code.weight, Code.isCreation, Code.isGuard, Code.isCaller, Code.frames, Code.isFrame, guardIds]
theorem make_units {A : Around} {C : Addr} {us : List Value} {kw : List (Str × Value)} : (A.under (.builtin "type.__call__" ⟨.ref C :: us, kw⟩)).units = A.units + 1 := by
  first | rfl | simp [Around.under, Code.cUnits, Code.frames, Code.isFrame]
theorem Room.make {k : Nat} {A : Around} (r : Room (k + 1) A) (C : Addr) (us : List Value) (kw : List (Str × Value)) : Room k (A.under (.builtin "type.__call__" ⟨.ref C :: us, kw⟩)) :=
  ⟨r.hd, by have := r.dp; rw [make_depth]; omega, by have := r.un; rw [make_units]; omega⟩
theorem Room.depth {k : Nat} {A : Around} (r : Room k A) : A.depth < recursionLimit := by have := r.dp; omega
theorem Room.units {k : Nat} {A : Around} (r : Room k A) : A.units + 64 < cLine := by have := r.un; omega
def tNil : TA := fun _ H Q => Q [] H
def tCons (ta : TE) (tr : TA) : TA := fun σ H Q => ta σ H fun x H1 => tr σ H1 fun xs H2 => Q (x :: xs) H2
section
variable {X : Cx} {e : Expr} {es : List Expr} {te : TE} {t : TA} {pos : Pos}
theorem pa_nil : PA X [] tNil := fun _ _ _ _ H Q I h => Calls.spliced_nil ⟨[], H, I, .nil, h⟩
theorem pa_cons (ha : PE X e te) (hr : PA X es t) (hs : starEach (e :: es) X.env = (false, eval e X.env) :: starEach es X.env := by rfl) : PA X (e :: es) (tCons te t) := by
  intro pos pins s σ H Q I h
  rw [hs]
  show wpAny _ _ (spliced ((false, eval e X.env) :: backTo pos (starEach es X.env))) _ _ s
  refine Calls.spliced_cons (thn (ha pins s σ H _ I h) fun u s1 ⟨x, H1, I1, r1, q1⟩ => ?_)
  exact thn (hr pos pins s1 σ H1 _ I1 q1) fun us s2 ⟨xs, H2, I2, r2, q2⟩ => ⟨x :: xs, H2, I2, .cons r1 r2, q2⟩
def tTup (t : TA) : TE := fun σ H Q => t σ H fun xs H1 => xs.length ≤ sizeLine ∧ ∀ p, H1 p = none → Q (.ref p) (upd H1 p (.tup xs))
def tLst (t : TA) : TE := fun σ H Q => t σ H fun xs H1 => xs.length ≤ sizeLine ∧ ∀ p, H1 p = none → Q (.ref p) (upd H1 p (.lst xs))
theorem pe_tup {x1} (h : PA X es t) : PE X (.Tuple es x1 pos) (tTup t) := by
  intro pins s σ H Q I hq
  refine wpAny_Tuple_spliced (thn (h pos pins s σ H _ I hq) fun us s1 ⟨xs, H1, I1, r, z, q⟩ => ⟨by rw [← r.length]; exact z, ?_⟩)
  have hf : H1 s1.heap.objs.size = none := I1.hok.fresh (Nat.le_refl _)
  refine ⟨.ref s1.heap.objs.size, upd H1 s1.heap.objs.size (.tup xs), I1.laid (t' := s1.toks) (fun b u e => Heap.get?_push_of_some _ e) (Nat.le_refl _) ?_, rfl, q _ hf⟩
  exact ⟨z, us, r, ⟨_, Heap.get?_push_size _ rfl, rfl, ⟨_, rfl⟩, rfl⟩⟩
theorem pe_lst (h : PA X es t) : PE X (.List es pos) (tLst t) := by
  intro pins s σ H Q I hq
  refine wpAny_List_spliced (thn (h pos pins s σ H _ I hq) fun us s1 ⟨xs, H1, I1, r, z, q⟩ => ⟨by rw [← r.length]; exact z, ?_⟩)
  have hf : H1 s1.heap.objs.size = none := I1.hok.fresh (Nat.le_refl _)
  refine ⟨.ref s1.heap.objs.size, upd H1 s1.heap.objs.size (.lst xs), I1.laid (t' := s1.toks) (fun b u e => Heap.get?_push_of_some _ e) (Nat.le_refl _) ?_, rfl, q _ hf⟩
  exact ⟨z, us, 0, r, Heap.get?_push_size _ rfl⟩
end
abbrev Sp := List V → Hp → VK → XK → Prop
abbrev CXT := List Env → Hp → Shared → XK → Value → Shared → Prop
structure Env0 (P : Program) (w : World) (K : PySem.W.Frag) (mg : Str → Option Value) (base : Heap) (A : Around) (outer : List Env) (s : Shared) (H : Hp) : Prop where
  frames : A.frames = some outer
  mod : Mod K mg base
  bs : ∀ b o, base.get? b = some o → s.heap.get? b = some o ∧ H b = none
  bsz : base.objs.size ≤ s.heap.objs.size
  funs : s.heap.FunFrames base outer
  frf : ∀ b ∈ frs outer, H b = none
  hok : HOk P w H s.heap
  bare : AllBare s.gens
def CE (outer : List Env) (P : Program) (w : World) (H : Hp) (s : Shared) (Q : VK) (u : Value) (s' : Shared) : Prop :=
  ∃ v H', s'.os = s.os ∧ AllBare s'.gens ∧ Un (frs outer) [] H H' s.heap s'.heap ∧ HOk P w H' s'.heap ∧ RelV v u ∧ Q v H'
def CR (CX : CXT) (outer : List Env) (P : Program) (w : World) (H : Hp) (s : Shared) (Q : VK) (E : XK) (r : Result) (s' : Shared) : Prop :=
  match r with
  | .ok (.ret u) => CE outer P w H s Q u s'
  | .ok _ => False
  | .error e => CX outer H s E e s'
structure FnOk (P : Program) (w : World) (K : PySem.W.Frag) (mg : Str → Option Value) (base : Heap) (CX : CXT) (k : Nat) (f : Addr) (fd : FuncData) (ps : List Str) (sp : Sp) : Prop where
  len : ∀ vs H Q E, sp vs H Q E → vs.length = ps.length
  run : ∀ (A : Around) (outer : List Env) (s : Shared) (H : Hp) (args : Args) (us : List Value) (vs : List V) (Q : VK) (E : XK), Room k A → Env0 P w K mg base A outer s H → BindsTo s fd args (ps.zip us) → Vals vs us → sp vs H Q E →
    codeAny (model P w) A (.call (.ref f) args) (CR CX outer P w H s Q E) s
theorem FnOk.mono {P : Program} {w : World} {K : PySem.W.Frag} {mg : Str → Option Value} {base : Heap} {CX : CXT} {j k : Nat} {f : Addr} {fd : FuncData} {ps : List Str} {sp : Sp} (F : FnOk P w K mg base CX j f fd ps sp) (h : j ≤ k) :
    FnOk P w K mg base CX k f fd ps sp := ⟨F.len, fun A outer s H args us vs Q E hr => F.run A outer s H args us vs Q E (hr.mono h)⟩
theorem Env0.make {P : Program} {w : World} {K : PySem.W.Frag} {mg : Str → Option Value} {base : Heap} {A : Around} {outer : List Env} {s : Shared} {H : Hp} (e : Env0 P w K mg base A outer s H) (C : Addr) (us : List Value) (kw : List (Str × Value)) :
    Env0 P w K mg base (A.under (.builtin "type.__call__" ⟨.ref C :: us, kw⟩)) outer s H := ⟨by first | exact e.frames | (simpa [Around.under, Code.envs, Code.isFrame, pushEnvs] using e.frames), e.mod, e.bs, e.bsz, e.funs, e.frf, e.hok, e.bare⟩
theorem Env0.in1 {P : Program} {w : World} {K : PySem.W.Frag} {mg : Str → Option Value} {base : Heap} {A : Around} {outer : List Env} {s : Shared} {H : Hp} (e : Env0 P w K mg base A outer s H) :
    Env0 P w K mg base A.in1 outer s H := ⟨e.frames, e.mod, e.bs, e.bsz, e.funs, e.frf, e.hok, e.bare⟩
section
variable {X : Cx} {pins : List (Addr × Obj)} {σ : St} {H : Hp} {s s' : Shared}
theorem Inv.env0 (I : Inv X pins σ H s) : Env0 X.prog X.w X.K X.mg X.base X.A X.stack s H :=
  ⟨I.ok.frames, I.ok.mod, I.bs, Nat.le_trans I.ok.bsz I.sz, I.stack, I.stkFree, I.hok, I.bare⟩
theorem Inv.after {Q : VK} {u : Value} (I : Inv X pins σ H s) (h : CE X.stack X.prog X.w H s Q u s') : EP X pins σ Q u s' := by
  obtain ⟨v, H', os, bare, un, hok, r, q⟩ := h
  obtain ⟨hh, g, d, t, os'⟩ := s'
  obtain rfl : os' = s.os := os
  exact ⟨v, H', I.call (h' := hh) (g' := g) (d' := d) (t' := t) (ch := []) un hok bare (fun b z => absurd z (by simp)), r, q⟩
end
def tCall (sp : Sp) (dvs : List V) (E : XK) (t : TA) : TE := fun σ H Q => t σ H fun vs H1 => sp (vs ++ dvs) H1 Q E
def Binds (K : PySem.W.Frag) (fd : FuncData) (ps : List Str) (ds : List Value) : Prop :=
  ∀ (s : Shared) (us : List Value), K.In s.heap → (us ++ ds).length = ps.length → BindsTo s fd ⟨us, []⟩ (ps.zip (us ++ ds))
theorem Binds.all {K : PySem.W.Frag} {fd : FuncData} {ps : List Str} (h : ∀ us : List Value, us.length = ps.length → bindArgs fd ⟨us, []⟩ = pure (ps.zip us)) : Binds K fd ps [] := fun s us _ hl => by
  rw [List.append_nil] at hl ⊢
  exact .of_eq (h us hl)
def Passes (CX : CXT) (X : Cx) (E : XK) : Prop := ∀ (pins : List (Addr × Obj)) (σ : St) (H : Hp) (s : Shared) (e : Value) (s' : Shared), Inv X pins σ H s → CX X.stack H s E e s' → X.xe e s'
section
variable {X : Cx} {CX : CXT} {k : Nat} {f C : Addr} {fd : FuncData} {ps : List Str} {sp : Sp} {dvs : List V} {ds : List Value} {E : XK} {x m : Str} {p pos apos : Pos} {e o : Expr} {es : List Expr} {ta : TE} {t : TA}
theorem run_fn {pins : List (Addr × Obj)} {σ : St} {H : Hp} {s : Shared} {Q : VK} {us : List Value} {vs : List V} (F : FnOk X.prog X.w X.K X.mg X.base CX k f fd ps sp) (hr : Room k X.A) (hb : Binds X.K fd ps ds) (hd : Vals dvs ds) (hx : Passes CX X E)
    (I : Inv X pins σ H s) (r : Vals vs us) (h : sp (vs ++ dvs) H Q E) : wpAny (model X.prog X.w) X.A (call (.ref f) us) (EP X pins σ Q) X.xe s := by
  have r2 : Vals (vs ++ dvs) (us ++ ds) := r.append hd
  have hl : (us ++ ds).length = ps.length := by rw [← r2.length]; exact F.len _ _ _ _ h
  refine wpAny_call (codeAny_mono (F.run X.A X.stack s H ⟨us, []⟩ (us ++ ds) (vs ++ dvs) Q E hr I.env0 (hb s us I.kIn hl) r2 h) fun r s' hq => ?_)
  cases r with
  | error e => exact hx pins σ H s e s' I hq
  | ok fl =>
    cases fl with
    | ret u => exact I.after hq
    | next => exact False.elim hq
    | brk => exact False.elim hq
    | cont => exact False.elim hq
theorem pe_call (F : FnOk X.prog X.w X.K X.mg X.base CX k f fd ps sp) (hr : Room k X.A) (hg : Gl X x) (hm : X.mg x = some (.ref f)) (hk : PySem.W.keepIn X.K (.ref f) = true) (hb : Binds X.K fd ps ds) (hd : Vals dvs ds) (hx : Passes CX X E)
    (ha : PA X (e :: es) t) (hdb : (x == ("__debug__" : Str)) = false := by decide) (he : starEach (e :: es) X.env = (false, eval e X.env) :: starEach es X.env := by rfl) (hpl : (backTo pos (starEach es X.env)).any (·.1) = false := by rfl) :
    PE X (.Call (.Name x p) (e :: es) [] pos) (tCall sp dvs E t) := by
  intro pins s σ H Q I h
  refine wpAny_Call_Name_kw (ld_glob I hg hm ?_ hdb)
  refine PySem.W.callWith_K (h₀ := X.base) I.ok.mod.kin hk (thn (ha pos pins s σ H _ I h) fun us s1 ⟨vs, H1, I1, r, q⟩ => ⟨I1.kIn, ?_⟩) he hpl
  exact run_fn F hr hb hd hx I1 r q
structure Mk (K : PySem.W.Frag) (C f : Addr) : Prop where
  makes : PySem.W.makesIn K C = true
  init : PySem.W.findIn K (.ref C) "__init__" = some (some (.ref f))
  fn : PySem.W.isFn K (.ref f) = true
  kp : PySem.W.keepIn K (.ref C) = true
end
section
variable {X : Cx} {CX : CXT} {k : Nat} {f C : Addr} {fd : FuncData} {ps ks : List Str} {sp : Sp} {E : XK} {x m : Str} {p pos apos kpos : Pos} {e o : Expr} {es : List Expr} {kws : List Keyword} {te ta : TE} {t tk : TA} {nm : Option Str}
variable {g : List Value → List Value → List Value} {gV : List V → List V → List V}
end
structure FnScope (N P : List Str) (sc : Scope) : Prop where
  kind : sc.kind = .function
  co : sc.isCoroutine = false
  gen : sc.isGenerator = false
  nd : N.Nodup
  pre : N.take P.length = P
  par : ∀ x ∈ P, sc.names.lookup x = some .local ∨ sc.names.lookup x = some .cell
  nofree : ∀ y ∈ sc.names, y.2 ≠ .free
theorem bindL_out {kindOf : Str → Option NameKind} {x : Str} : ∀ {binds : List (Str × Value)} {m : Str → Option Value}, (∀ v, (x, v) ∉ binds) → bindL kindOf binds m x = m x
  | [], _, _ => rfl
  | (n, v) :: r, m, h => by
    unfold bindL
    rw [bindL_out fun w hw => h w (List.mem_cons_of_mem _ hw)]
    split
    · have : x ≠ n := by rintro rfl; exact h v List.mem_cons_self
      simp [this]
    · rfl
theorem bindC_out {kindOf : Str → Option NameKind} {x : Str} : ∀ {binds : List (Str × Value)} {m : Str → Option Value}, (∀ v, (x, v) ∉ binds) → bindC kindOf binds m x = m x
  | [], _, _ => rfl
  | (n, v) :: r, m, h => by
    unfold bindC
    rw [bindC_out fun w hw => h w (List.mem_cons_of_mem _ hw)]
    split
    · rfl
    · have : x ≠ n := by rintro rfl; exact h v List.mem_cons_self
      simp [this]
theorem bindL_get {kindOf : Str → Option NameKind} {x : Str} {v : Value} : ∀ {P : List Str} {vs : List Value} {i : Nat} {m : Str → Option Value}, P.Nodup → P[i]? = some x → vs[i]? = some v → kindOf x = some .local →
    bindL kindOf (P.zip vs) m x = some v
  | [], _, _, _, _, h, _, _ => by simp at h
  | _ :: _, [], _, _, _, _, h, _ => by simp at h
  | p :: P, w :: vs, 0, m, nd, h1, h2, hk => by
    simp at h1 h2; subst h1; subst h2
    show bindL kindOf ((p, w) :: P.zip vs) m p = _
    unfold bindL
    rw [bindL_out fun v hv => (List.nodup_cons.mp nd).1 (List.of_mem_zip hv).1, if_pos hk]
    simp
  | p :: P, w :: vs, i + 1, m, nd, h1, h2, hk => by
    show bindL kindOf ((p, w) :: P.zip vs) m x = _
    unfold bindL
    exact bindL_get (i := i) (List.nodup_cons.mp nd).2 (by simpa using h1) (by simpa using h2) hk
theorem bindC_get {kindOf : Str → Option NameKind} {x : Str} {v : Value} : ∀ {P : List Str} {vs : List Value} {i : Nat} {m : Str → Option Value}, P.Nodup → P[i]? = some x → vs[i]? = some v → kindOf x ≠ some .local →
    bindC kindOf (P.zip vs) m x = some v
  | [], _, _, _, _, h, _, _ => by simp at h
  | _ :: _, [], _, _, _, _, h, _ => by simp at h
  | p :: P, w :: vs, 0, m, nd, h1, h2, hk => by
    simp at h1 h2; subst h1; subst h2
    show bindC kindOf ((p, w) :: P.zip vs) m p = _
    unfold bindC
    rw [bindC_out fun v hv => (List.nodup_cons.mp nd).1 (List.of_mem_zip hv).1, if_neg hk]
    simp
  | p :: P, w :: vs, i + 1, m, nd, h1, h2, hk => by
    show bindC kindOf ((p, w) :: P.zip vs) m x = _
    unfold bindC
    exact bindC_get (i := i) (List.nodup_cons.mp nd).2 (by simpa using h1) (by simpa using h2) hk
def start (N : List Str) (vs : List V) : St := vs.map some ++ List.replicate (N.length - vs.length) none
def cxOf (CX : CXT) (P : Program) (w : World) (K : PySem.W.Frag) (mg : Str → Option Value) (base : Heap) (N : List Str) (qual : Str) (scope : Scope) (f : Addr) (cd : Value) (A : Around) (outer : List Env) (s : Shared) (H : Hp) (E : XK) : Cx where
  prog := P
  w := w
  K := K
  mg := mg
  base := base
  A := A.deeper (envOfC qual scope s.heap.objs.size f cd)
  N := N
  s₀ := s
  H₀ := H
  env := envOfC qual scope s.heap.objs.size f cd
  outer := outer
  stack := envOfC qual scope s.heap.objs.size f cd :: outer
  ex := []
  calm := true
  fn := fun _ => true
  pn := []
  xe := fun e s' => wpAny (model P w) (A.deeper (envOfC qual scope s.heap.objs.size f cd)) (leaving (envOfC qual scope s.heap.objs.size f cd) e) (fun _ s'' => CX outer H s E e s'') (fun e' s'' => CX outer H s E e' s'') s'
theorem cell_has {sc : Scope} {n : Nat} {x : Str} (h : sc.names.lookup x = some .cell) : ∃ c, (cellsFrom n sc.names []).lookup x = some c := by
  have q := PySem.W.cellsFrom_some sc.names n [] (.inl h)
  exact Option.isSome_iff_exists.mp q
theorem inv_start {CX : CXT} {P : Program} {w : World} {K : PySem.W.Frag} {mg : Str → Option Value} {base : Heap} {N ps : List Str} {qual : Str} {scope : Scope} {f : Addr} {cd : Value} {A : Around} {outer : List Env} {s s1 : Shared} {H : Hp} {E : XK} {us : List Value} {vs : List V}
    (S : FnScope N ps scope) (hd : A.handled = none) (e0 : Env0 P w K mg base A outer s H) (hl : vs.length = ps.length) (r : Vals vs us)
    (x : InCallC s s.heap.objs.size (bindL (envOfC qual scope s.heap.objs.size f cd).kindOf (ps.zip us) fun _ => none) (cellsFrom (s.heap.objs.size + 1) scope.names []) (bindC (envOfC qual scope s.heap.objs.size f cd).kindOf (ps.zip us) fun _ => none) s1) :
    Inv (cxOf CX P w K mg base N qual scope f cd A outer s H E) [] (start N vs) H s1 := by
  have hpl : ps.length ≤ N.length := by have := congrArg List.length S.pre; rw [List.length_take] at this; omega
  obtain ⟨h1, tk, rfl, hk⟩ := x.done
  have noA : ∀ b : Addr, b ∉ (cxOf CX P w K mg base N qual scope f cd A outer s H E).ex := fun b z => absurd (show b ∈ ([] : List Addr) from z) (by simp)
  refine ⟨⟨e0.mod, S.kind, rfl, rfl, Nat.le_refl _, fun y z c h1 h2 => ?_, fun y hy => ?_, fun y c _ h => ?_, fun _ => hd, Around.frames_deeper e0.frames, .inr ⟨rfl, rfl⟩, fun b z => absurd z (noA b), e0.bs, e0.bsz, fun b _ _ => noA b, fun b z => absurd z (noA b), e0.funs, e0.frf⟩,
    rfl, e0.bare, Un.kept hk, ⟨_, x.toInCall.ns, fun i y v h1 h2 h3 => ?_⟩, fun y c h => ⟨_, x.cell y c h⟩, e0.hok.fresh (Nat.le_refl _), fun y c h => ?_, fun p hp => absurd (show p ∈ ([] : List (Addr × Obj)) from hp) (by simp), e0.hok.kept hk, ?_⟩
  · exact name_of_addr x.apart (PySem.mem_of_lookup h1) (PySem.mem_of_lookup h2)
  · have hy : scope.names.lookup y = some .cell ∨ scope.names.lookup y = some .free := hy
    rcases hy with hy | hy
    · exact cell_has hy
    · exact absurd rfl (S.nofree _ (PySem.mem_of_lookup hy))
  · exact Nat.le_of_lt (x.above y c (PySem.mem_of_lookup h))
  · have hi : i < vs.length := by
      unfold start at h2
      by_cases hi : i < vs.length
      · exact hi
      · rw [List.getElem?_append_right (by simpa using hi)] at h2
        rw [List.getElem?_replicate] at h2
        split at h2 <;> cases h2
    have ha : vs[i]? = some v := by
      unfold start at h2
      rw [List.getElem?_append_left (by simpa using hi), List.getElem?_map] at h2
      cases e : vs[i]? with
      | none => rw [e] at h2; cases h2
      | some a => rw [e] at h2; cases h2; rfl
    obtain ⟨u, hu, rv⟩ := r.get ha
    have hp : ps[i]? = some y := by
      rw [← S.pre, List.getElem?_take_of_lt (by omega)]; exact h1
    have ndP : ps.Nodup := by rw [← S.pre]; exact S.nd.sublist (List.take_sublist _ _)
    refine ⟨u, rv, ?_⟩
    rcases S.par y (List.mem_of_getElem? hp) with k | k
    · exact .inl ⟨k, bindL_get ndP hp hu k⟩
    · obtain ⟨c, e⟩ := cell_has (n := s.heap.objs.size + 1) k
      refine .inr ⟨.inl k, c, e, ?_⟩
      have q := x.cell y c e
      rw [bindC_get ndP hp hu (by show scope.names.lookup y ≠ _; rw [k]; decide)] at q
      exact q
  · exact e0.hok.fresh (Nat.le_of_lt (x.above y c (PySem.mem_of_lookup h)))
  · unfold start
    show _ = N.length
    rw [List.length_append, List.length_map, List.length_replicate]
    omega
theorem fn_of {CX : CXT} {P : Program} {w : World} {K : PySem.W.Frag} {mg : Str → Option Value} {base : Heap} {k : Nat} {f : Addr} {name qual : Str} {params : Arguments} {body : List Stmt} {scope : Scope} {dV kV doc pm cdv ct oc : Value} {an od : Option Addr}
    {osl : Array (Option Value)} {N ps : List Str} {sp : Sp} (lk : K.lookup f = some ⟨oc, od, .func (PySem.W.fnOf name qual params body scope dV kV doc pm an cdv ct), osl⟩) (hcd : PySem.W.codeIn K cdv qual = true) (S : FnScope N ps scope)
    (len : ∀ vs H Q E, sp vs H Q E → vs.length = ps.length)
    (hbody : ∀ (A : Around) (outer : List Env) (s : Shared) (H : Hp) (vs : List V) (Q : VK) (E : XK), Room k (A.deeper (envOfC qual scope s.heap.objs.size f cdv)) → sp vs H Q E →
      ∃ t, PSs (cxOf CX P w K mg base N qual scope f cdv A outer s H E) body t ∧ t { nx := fun _ H' => Q .non H', rt := Q } (start N vs) H) :
    FnOk P w K mg base CX (k + 1) f (PySem.W.fnOf name qual params body scope dV kV doc pm an cdv ct) ps sp := by
  refine ⟨len, fun A outer s H args us vs Q E hr e0 hb r hsp => ?_⟩
  have hl := len _ _ _ _ hsp
  have KX : K.In s.heap := e0.mod.kin.keeps fun b o e => (e0.bs b o e).1
  have lim : s.heap.NoLimit := e0.mod.nolimit.keeps fun b o e => (e0.bs b o e).1
  have hkind : ∀ y ∈ ps.zip us, scope.names.lookup y.1 = some .local ∨ (scope.names.lookup y.1 = some .cell ∧ ((cellsFrom (s.heap.objs.size + 1) scope.names []).lookup y.1).isSome = true) := fun ⟨n, v⟩ hy => by
    rcases S.par n (List.of_mem_zip hy).1 with q | q
    · exact .inl q
    · exact .inr ⟨q, PySem.W.cellsFrom_some _ _ _ (.inl q)⟩
  refine codeAny_call_function hr.depth (KX _ _ lk) rfl S.co S.gen rfl (PySem.W.codeRec_of KX hcd) (hb _ _ _ _ ?_)
  refine wpAny_newFunctionEnv_cells S.kind hkind fun env he s1 x => ?_
  subst he
  refine ⟨lim.keeps x.toInCall.keep, codeAny_func ?_⟩
  obtain ⟨t, ht, hq⟩ := hbody A outer s H vs Q E (hr.deeper _) hsp
  have I : Inv (cxOf CX P w K mg base N qual scope f cdv A outer s H E) [] (start N vs) H s1 := inv_start S hr.hd e0 hl r x
  refine wpAny_mono (ht [] s1 (start N vs) H _ I hq) (fun fl s' hs => ?_) fun e s' hs => hs
  have fin : ∀ {σ' : St} {H' : Hp} {v : V} {u : Value}, Inv (cxOf CX P w K mg base N qual scope f cdv A outer s H E) [] σ' H' s' → RelV v u → Q v H' → CE outer P w H s Q u s' :=
    fun {σ' H' v u} J rv q => ⟨v, H', J.os, J.bare, J.base, J.hok, rv, q⟩
  cases fl with
  | ret u =>
    obtain ⟨v, σ', H', J, rv, q⟩ := hs
    exact fin J rv q
  | next =>
    obtain ⟨σ', H', J, q⟩ := hs
    exact fin (v := V.non) (u := Value.none) J rfl q
  | brk =>
    obtain ⟨_, _, _, q⟩ := hs
    exact False.elim q
  | cont =>
    obtain ⟨_, _, _, q⟩ := hs
    exact False.elim q
end L2
namespace L2
open PySem PySem.Spec PyProof.Rows
section
variable {X : Cx} {x : Str} {p pos : Pos} {e : Expr} {es : List Expr} {t : TA} {id T : String} {r : List V → Hp → VK → Prop}
def tCB (r : List V → Hp → VK → Prop) (t : TA) : TE := fun σ H Q => t σ H fun vs H1 => r vs H1 Q
theorem pe_callB (hc : CallR X (.builtin id) r) (hg : Gl X x) (hm : X.mg x = none) (hv : bootBuiltins x = some (.builtin id)) (ha : PA X (e :: es) t) (hn : x ≠ "__name__" := by decide) (hdb : (x == ("__debug__" : Str)) = false := by decide)
    (he : starEach (e :: es) X.env = (false, eval e X.env) :: starEach es X.env := by rfl) (hpl : (backTo pos (starEach es X.env)).any (·.1) = false := by rfl) : PE X (.Call (.Name x p) (e :: es) [] pos) (tCB r t) := by
  intro pins s σ H Q I h
  refine wpAny_Call_Name_kw (ld_blt I hg hm hv ?_ hn hdb)
  exact PyProof.Rows.callWith_builtin1 (thn (ha pos pins s σ H _ I h) fun us s1 ⟨vs, H1, I1, r1, q1⟩ => hc pins s1 σ H1 vs us Q I1 r1 q1) he hpl
theorem pe_callTy (hc : CallR X (.type T) r) (hg : Gl X x) (hm : X.mg x = none) (hv : bootBuiltins x = some (.type T)) (ha : PA X (e :: es) t) (hn : x ≠ "__name__" := by decide) (hdb : (x == ("__debug__" : Str)) = false := by decide)
    (he : starEach (e :: es) X.env = (false, eval e X.env) :: starEach es X.env := by rfl) (hpl : (backTo pos (starEach es X.env)).any (·.1) = false := by rfl) : PE X (.Call (.Name x p) (e :: es) [] pos) (tCB r t) := by
  intro pins s σ H Q I h
  refine wpAny_Call_Name_kw (ld_blt I hg hm hv ?_ hn hdb)
  exact PyProof.Rows.callWith_type1 (thn (ha pos pins s σ H _ I h) fun us s1 ⟨vs, H1, I1, r1, q1⟩ => hc pins s1 σ H1 vs us Q I1 r1 q1) he hpl
end
end L2
namespace HT
open PySem PyProof.Rows
section
open PySem.SeqAt
open PySem.AutoSeq1 (wpAny_loadPart')
open PySem.MeetsSeq PySem.MeetsSeq2 PySem.MeetsSeq3
end
section
variable {prog : Program} {w : World} {A : Around} {E : Value → Shared → Prop} {s : Shared}
theorem cat_tup {t b : Addr} {vs ws : List Value} {Q : Value → Shared → Prop} (ht : IsTup s.heap t vs.toArray) (hb : IsTup s.heap b ws.toArray) (hv : vs ≠ [])
    (h1 : ws = [] → Q (.ref t) s) (h2 : ws ≠ [] → Q (.ref s.heap.objs.size) { s with heap := s.heap.push { cls := .type "tuple", data := .seq (vs ++ ws).toArray } })
    (hsz : vs.length + ws.length ≤ sizeLine) : wpAny (model prog w) A (binaryOp .Add (.ref t) (.ref b)) Q E s := by
  obtain ⟨⟨cls, dd, data, sl⟩, ho, hc, n, hd⟩ := id ht
  obtain ⟨⟨cls2, dd2, data2, sl2⟩, ho2, hc2, n2, hd2⟩ := id hb
  simp only at hc hd hc2 hd2
  subst hc hd hc2 hd2
  have e : vs.toArray ++ ws.toArray = (vs ++ ws).toArray := by simp
  by_cases hw : ws = []
  · exact concat_meets ⟨_, ho, rfl⟩ ⟨_, ho2, rfl⟩ noFill_tuple_add seq_tuple_add PySem.F.slot_tuple_add PySem.F.entry_tuple_add (PySem.F.args_tuple_add_2 _ _)
      (tuple_addW1 t b vs.toArray ws.toArray n n2 dd dd2 sl sl2 (by simpa using hv) (by simp [hw])) ⟨ho, ho2, h1 hw⟩
  · refine concat_meets ⟨_, ho, rfl⟩ ⟨_, ho2, rfl⟩ noFill_tuple_add seq_tuple_add PySem.F.slot_tuple_add PySem.F.entry_tuple_add (PySem.F.args_tuple_add_2 _ _)
      (tuple_addW2 t b vs.toArray ws.toArray n n2 dd dd2 sl sl2 (by simpa using hv) (by simpa using hw) (by rw [List.size_toArray, List.size_toArray]; exact hsz)) ⟨ho, ho2, ?_⟩
    rw [e]
    exact h2 hw
def sIx (n d : Nat) : Option Int → Nat
  | none => d
  | some v => if v < 0 then (v + (n : Int)).toNat else min v.toNat n
theorem sIx_nat (n d k : Nat) : sIx n d (some (k : Int)) = min k n := by
  show (if (k : Int) < 0 then ((k : Int) + (n : Int)).toNat else min (k : Int).toNat n) = min k n
  rw [if_neg (by omega), Int.toNat_natCast]
theorem sIx_le (n d : Nat) (hd : d ≤ n) (o : Option Int) : sIx n d o ≤ n := by
  cases o with
  | none => exact hd
  | some v =>
    show (if v < 0 then (v + (n : Int)).toNat else min v.toNat n) ≤ n
    by_cases hv : v < 0
    · rw [if_pos hv]; omega
    · rw [if_neg hv]; exact Nat.min_le_right _ _
theorem clip_eq (v : Int) (n d : Nat) : (if v < 0 then max (v + (n : Int)) 0 else min v (n : Int)) = ((sIx n d (some v) : Nat) : Int) := by
  show (if v < 0 then max (v + (n : Int)) 0 else min v (n : Int)) = (((if v < 0 then (v + (n : Int)).toNat else min v.toNat n) : Nat) : Int)
  by_cases hv : v < 0
  · simp only [if_pos hv]; omega
  · simp only [if_neg hv]; omega
theorem adjust_gen (lo hi : Option Int) (n : Nat) : Builtin.Slice.sliceAdjust lo hi 1 (n : Int) = (((sIx n 0 lo : Nat) : Int), ((sIx n n hi : Nat) : Int)) := by
  have h1 : ¬ ((1 : Int) < 0) := by omega
  unfold Builtin.Slice.sliceAdjust
  simp only [h1, if_false]
  refine Prod.ext ?_ ?_
  · cases lo with
    | none => rfl
    | some v => exact clip_eq v n 0
  · cases hi with
    | none => rfl
    | some v => exact clip_eq v n n
theorem places_gen (i j : Nat) : Builtin.Slice.slicePlaces (i : Int) (j : Int) 1 = j - i := by
  unfold Builtin.Slice.slicePlaces
  have h1 : (1 : Int) > 0 := by omega
  simp only [h1, if_true, Int.ediv_one]
  split <;> omega
theorem slicePart_ {v : Value} {o : Option Int} {Q : Option Int → Shared → Prop} (p : IsPart v o) (h : Q o s) : wpAny (model prog w) A (Builtin.Slice.slicePartIndex v) Q E s := by
  cases p with
  | none => exact slicePart_none h
  | int i t => exact slicePart_int h
theorem sliceApplied_gen {sl : Addr} {vl vu : Value} {lo hi : Option Int} {n : Nat} {Q : Int × Int × Nat → Shared → Prop} (hs : s.heap.IsSliceOf sl vl vu .none) (pl : IsPart vl lo) (pu : IsPart vu hi)
    (h : Q (((sIx n 0 lo : Nat) : Int), 1, sIx n n hi - sIx n 0 lo) s) : wpAny (model prog w) A (Builtin.Slice.sliceApplied (.ref sl) (pure (n : Int))) Q E s := by
  obtain ⟨os, hos, hcs, hds⟩ := id hs
  unfold Builtin.Slice.sliceApplied Builtin.Slice.sliceFields
  refine wpAny_bind (wpAny_bind (wpAny_field hos hds (x := vl) rfl (wpAny_bind (wpAny_field hos hds (x := vu) rfl (wpAny_bind (wpAny_field hos hds (x := .none) rfl (wpAny_pure ?_)))))))
  refine wpAny_bind (slicePart_none ?_)
  show wpAny _ _ (if ((1 : Int) == 0) = true then _ else _) _ _ s
  rw [if_neg (by decide)]
  refine wpAny_bind (slicePart_ pl (wpAny_bind (slicePart_ pu (wpAny_bind (wpAny_pure ?_)))))
  show wpAny _ _ (match Builtin.Slice.sliceAdjust lo hi 1 (n : Int) with | (lo, hi) => pure (lo, (1 : Int), Builtin.Slice.slicePlaces lo hi 1)) _ _ s
  rw [adjust_gen lo hi n]
  show wpAny _ _ (pure (((sIx n 0 lo : Nat) : Int), (1 : Int), Builtin.Slice.slicePlaces ((sIx n 0 lo : Nat) : Int) ((sIx n n hi : Nat) : Int) 1)) _ _ s
  rw [places_gen]
  exact wpAny_pure h
theorem pick_gen (xs : Array Value) (i k : Nat) : ((List.range k).filterMap fun (m : Nat) => xs[((i : Int) + (m : Int) * 1).toNat]?).toArray = ((xs.toList.drop i).take k).toArray := by
  have e : (fun (m : Nat) => xs[((i : Int) + (m : Int) * 1).toNat]?) = fun m => xs[i + m]? := by
    funext m
    have : ((i : Int) + (m : Int) * 1).toNat = i + m := by omega
    rw [this]
  rw [e]
  have := pick_run xs i k
  rw [List.filterMap_map] at this
  have e2 : ((fun x => xs[x]?) ∘ fun x => i + x) = fun m => xs[i + m]? := rfl
  rw [e2] at this
  rw [this]
theorem getItem_tuple_cut {t sl : Addr} {items : Array Value} {vl vu : Value} {lo hi : Option Int} {Q : Value → Shared → Prop} (ht : IsTup s.heap t items) (hs : s.heap.IsSliceOf sl vl vu .none) (pl : IsPart vl lo) (pu : IsPart vu hi)
    (hw : ¬ (sIx items.size 0 lo = 0 ∧ sIx items.size items.size hi = items.size))
    (h : Q (.ref s.heap.objs.size) { s with heap := s.heap.push { cls := .type "tuple", data := .seq ((items.toList.drop (sIx items.size 0 lo)).take (sIx items.size items.size hi - sIx items.size 0 lo)).toArray } })
    (hsz : items.size ≤ sizeLine) : wpAny (model prog w) A (getItem (.ref t) (.ref sl)) Q E s := by
  have htake : sizeOk (.seq ((items.toList.drop (sIx items.size 0 lo)).take (sIx items.size items.size hi - sIx items.size 0 lo)).toArray) := by
    show ((items.toList.drop (sIx items.size 0 lo)).take (sIx items.size items.size hi - sIx items.size 0 lo)).toArray.size ≤ sizeLine
    rw [List.size_toArray, List.length_take, List.length_drop, Array.length_toList]
    omega
  have hj : sIx items.size items.size hi ≤ items.size := sIx_le _ _ (Nat.le_refl _) hi
  obtain ⟨os, hos, hcs, hds⟩ := id hs
  have hTs : s.TypeIs (.ref sl) "slice" := ⟨os, hos, hcs⟩
  unfold getItem
  try with_reducible refine wpAny_holding ?_
  first | refine wpAny_bind (wpAny_pure ?_) | skip
  refine wpAny_bind (wpAny_sequenceKey ht.typeIs (by decide) ?_)
  refine wpAny_bind (wpAny_callSpecial?_slot (name := Str.ofString "__getitem__") ht.typeIs PyProof.Rows.slot_tuple_getitem
    (wpAny_call_entry PyProof.Rows.slot_tuple_getitem ht.typeIs entry_tuple_getitem ?_ (args_tuple_getitem _ _)))
  show wpAny _ _ (Builtin.Tuple.tupleItemsOf (.ref t) >>= _) _ _ s
  refine wpAny_bind (tupleItemsOf_ ht ?_)
  refine wpAny_bind (wpAny_typeOf hTs ?_)
  rw [if_pos (by decide)]
  refine wpAny_bind (sliceApplied_gen hs pl pu ?_)
  have hno : ¬ ((((sIx items.size 0 lo : Nat) : Int) == 0 && (1 : Int) == 1 && (sIx items.size items.size hi - sIx items.size 0 lo) == items.size) = true) := by
    intro q
    rw [Bool.and_eq_true, Bool.and_eq_true] at q
    have q1 : ((sIx items.size 0 lo : Nat) : Int) = 0 := eq_of_beq q.1.1
    have q2 : sIx items.size items.size hi - sIx items.size 0 lo = items.size := eq_of_beq q.2
    exact hw ⟨by omega, by omega⟩
  show wpAny _ _ (if (((sIx items.size 0 lo : Nat) : Int) == 0 && (1 : Int) == 1 && (sIx items.size items.size hi - sIx items.size 0 lo) == items.size) = true then _ else _) _ _ s
  rw [if_neg hno, pick_gen]
  first
    | exact wpAny_bind (m := Builtin.Tuple.tupleExact _) (wpAny_newObj_type (wpAny_pure ⟨_, rfl, wpAny_pure h⟩) htake)
    | exact wpAny_bind (m := Builtin.Tuple.tupleExact _) (wpAny_newObj_type (wpAny_bind (wpAny_pure (wpAny_pure ⟨_, rfl, wpAny_pure h⟩))) htake)
    | exact wpAny_bind (wpAny_bind (m := Builtin.Tuple.tupleExact _) (wpAny_newObj_type (wpAny_pure (wpAny_pure ⟨_, rfl, wpAny_pure h⟩)) htake))
    | exact wpAny_bind (wpAny_bind (m := Builtin.Tuple.tupleExact _) (wpAny_newObj_type (wpAny_pure ⟨_, rfl, wpAny_pure h⟩) htake))
end
end HT
namespace L2
open PySem PySem.Spec PyProof.Rows
abbrev TO := St → Hp → (Option Int → Hp → Prop) → Prop
def PO (X : Cx) (e : Option Expr) (t : TO) : Prop :=
  ∀ (pins : List (Addr × Obj)) (s : Shared) (σ : St) (H : Hp) (Q : Option Int → Hp → Prop), Inv X pins σ H s → t σ H Q →
    wpAny (model X.prog X.w) X.A (evalPart e X.env) (fun u s' => ∃ o H', Inv X pins σ H' s' ∧ IsPart u o ∧ Q o H') X.xe s
def tNoPart : TO := fun _ H Q => Q none H
def tPart (t : TE) : TO := fun σ H Q => t σ H fun x H1 => ∃ i, x = .int i ∧ Q (some i) H1
section
variable {X : Cx} {e : Expr} {te : TE} {lo hi : Option Expr} {tl th : TO} {pos p2 : Pos}
theorem po_none : PO X none tNoPart := by
  intro pins s σ H Q I h
  rw [evalPart_none]
  exact wpAny_pure ⟨none, H, I, .none, h⟩
theorem po_some (h : PE X e te) : PO X (some e) (tPart te) := by
  intro pins s σ H Q I hw
  rw [evalPart_some]
  refine thn (h pins s σ H _ I hw) fun u s1 ⟨x, H1, I1, r1, q1⟩ => ?_
  obtain ⟨i, rfl, q⟩ := q1
  obtain ⟨t, rfl⟩ := r1
  exact ⟨some i, H1, I1, .int i t, q⟩
def SlR (X : Cx) (r : V → Option Int → Option Int → Hp → VK → Prop) : Prop :=
  ∀ (pins : List (Addr × Obj)) (s : Shared) (σ : St) (H : Hp) (x : V) (v vl vu : Value) (lo hi : Option Int) (sl : Addr) (Q : VK), Inv X pins σ H s → RelV x v → s.heap.IsSliceOf sl vl vu .none → IsPart vl lo → IsPart vu hi → r x lo hi H Q →
    ∃ T id, typeLookup (.type T) "__getitem__" = pure (some (.builtin id)) ∧ s.TypeIs v T ∧ wpAny (model X.prog X.w) X.A (getItem v (.ref sl)) (EP X pins σ Q) X.xe s
theorem SlR.or {r r' : V → Option Int → Option Int → Hp → VK → Prop} (h : SlR X r) (h' : SlR X r') : SlR X (fun x lo hi H Q => r x lo hi H Q ∨ r' x lo hi H Q) := by
  intro pins s σ H x v vl vu lo hi sl Q I rx hs pl pu q
  rcases q with q | q
  · exact h pins s σ H x v vl vu lo hi sl Q I rx hs pl pu q
  · exact h' pins s σ H x v vl vu lo hi sl Q I rx hs pl pu q
def tSl (r : V → Option Int → Option Int → Hp → VK → Prop) (te : TE) (tl th : TO) : TE := fun σ H Q => te σ H fun x H1 => tl σ H1 fun l H2 => th σ H2 fun u H3 => r x l u H3 Q
theorem pe_slice {r : V → Option Int → Option Int → Hp → VK → Prop} (hr : SlR X r) (he : PE X e te) (hl : PO X lo tl) (hu : PO X hi th) : PE X (.Subscript e (.Slice lo hi none p2) pos) (tSl r te tl th) := by
  intro pins s σ H Q I h
  refine Subscript_ (thn (he pins s σ H _ I h) fun v s1 ⟨x, H1, I1, r1, q1⟩ => ?_)
  refine wpAny_Slice (thn (hl pins s1 σ H1 _ I1 q1) fun vl s2 ⟨l, H2, I2, pl, q2⟩ => thn (hu pins s2 σ H2 _ I2 q2) fun vu s3 ⟨u, H3, I3, pu, q3⟩ => ?_)
  rw [evalPart_none]
  refine wpAny_pure ?_
  have I4 : Inv X pins σ H3 { s3 with heap := s3.heap.push { cls := .type "slice", data := .fields #[vl, vu, .none] } } := I3.kept (t' := s3.toks) fun b ob q => Heap.get?_push_of_some _ q
  obtain ⟨T, id, hT, ht, hg⟩ := hr pins { s3 with heap := s3.heap.push { cls := .type "slice", data := .fields #[vl, vu, .none] } } σ H3 x v vl vu l u s3.heap.objs.size Q I4 r1 (Heap.IsSliceOf.new ..) pl pu q3
  show wpAny (model X.prog X.w) X.A (subscriptTail e (.Slice lo hi none p2) v (.ref s3.heap.objs.size)) (EP X pins σ Q) X.xe { s3 with heap := s3.heap.push { cls := .type "slice", data := .fields #[vl, vu, .none] } }
  exact tail_any (ops := [.ref s3.heap.objs.size, v]) ht hT hg (by with_unfolding_all rfl)
def cutV (xs : List V) (lo hi : Option Int) : List V := (xs.drop (HT.sIx xs.length 0 lo)).take (HT.sIx xs.length xs.length hi - HT.sIx xs.length 0 lo)
theorem cutV_length (xs : List V) (lo hi : Option Int) : (cutV xs lo hi).length ≤ xs.length := by
  unfold cutV
  rw [List.length_take, List.length_drop]
  omega
def rSlT (K : PySem.W.Frag) : V → Option Int → Option Int → Hp → VK → Prop := fun x lo hi H Q => ∃ a xs, x = .ref a ∧ SqT K H a xs ∧
  ¬ (HT.sIx xs.length 0 lo = 0 ∧ HT.sIx xs.length xs.length hi = xs.length) ∧ ∀ p, H p = none → Q (.ref p) (upd H p (.tup (cutV xs lo hi)))
theorem sl_tup : SlR X (rSlT X.K) := by
  intro pins s σ H x v vl vu lo hi sl Q I rx hs pl pu h
  obtain ⟨a, xs, rfl, hx, hw, q⟩ := h
  cases rx
  obtain ⟨its, r, ht, hz⟩ := I.tuple hx
  have hlen : its.toArray.size = xs.length := by rw [List.size_toArray]; exact r.length.symm
  refine ⟨"tuple", _, PyProof.Rows.slot_tuple_getitem.lookup, ht.typeIs, ?_⟩
  refine HT.getItem_tuple_cut ht hs pl pu (by rw [hlen]; exact hw) ?_ (by rw [hlen]; exact hz)
  rw [hlen]
  refine ⟨.ref s.heap.objs.size, _, I.laid (t' := s.toks) (o := .tup (cutV xs lo hi)) (fun b ob q => Heap.get?_push_of_some _ q) (Nat.le_refl _) ?_, rfl, q _ (I.hok.fresh (Nat.le_refl _))⟩
  exact ⟨Nat.le_trans (cutV_length xs lo hi) hz, _, (r.drop (HT.sIx xs.length 0 lo)).take (HT.sIx xs.length xs.length hi - HT.sIx xs.length 0 lo), TupN.new _ _⟩
def rCatT (K : PySem.W.Frag) : R2 := fun x y H Q => ∃ a b xs ys, x = .ref a ∧ y = .ref b ∧ SqT K H a xs ∧ SqT K H b ys ∧ xs ≠ [] ∧ xs.length + ys.length ≤ sizeLine ∧
  (ys = [] → Q (.ref a) H) ∧ (ys ≠ [] → ∀ p, H p = none → Q (.ref p) (upd H p (.tup (xs ++ ys))))
theorem Vals.nil_iff {xs : List V} {us : List Value} (r : Vals xs us) : us = [] ↔ xs = [] := by
  cases r with
  | nil => simp
  | cons _ _ => simp
theorem op_catT : OpR X (binaryOp .Add) (rCatT X.K) := by
  intro pins s σ H x y v u Q I rx ry h
  obtain ⟨a, b, xs, ys, rfl, rfl, ha, hb, hx, hz, q1, q2⟩ := h
  cases rx
  cases ry
  obtain ⟨its, r1, p1, _⟩ := I.tuple ha
  obtain ⟨its2, r2, p2, _⟩ := I.tuple hb
  refine HT.cat_tup p1 p2 (fun z => hx (r1.nil_iff.mp z)) (fun z => ⟨.ref a, H, I, rfl, q1 (r2.nil_iff.mp z)⟩) (fun z => ?_) (by rw [← r1.length, ← r2.length]; exact hz)
  refine ⟨.ref s.heap.objs.size, _, I.laid (t' := s.toks) (o := .tup (xs ++ ys)) (fun b ob q => Heap.get?_push_of_some _ q) (Nat.le_refl _) ?_, rfl, q2 (fun w => z (r2.nil_iff.mpr w)) _ (I.hok.fresh (Nat.le_refl _))⟩
  exact ⟨by rw [List.length_append]; exact hz, _, r1.append r2, TupN.new _ _⟩
end
end L2
namespace L2
open PySem PySem.Spec PyProof.Rows
def ixN (n : Nat) (i : Int) : Option Nat := if 0 ≤ i then (if i < n then some i.toNat else none) else if -(n : Int) ≤ i then some (i + n).toNat else none
def atI {α : Type} (xs : List α) (i : Int) : Option α := (ixN xs.length i).bind fun j => xs[j]?
theorem ixN_seq {n : Nat} {i : Int} {j : Nat} (h : ixN n i = some j) : seqIndex? i n = some j ∧ j < n ∧ -(n : Int) ≤ i ∧ i < n := by
  unfold ixN at h
  by_cases h0 : 0 ≤ i
  · rw [if_pos h0] at h
    by_cases h1 : i < n
    · rw [if_pos h1] at h
      have e : i.toNat = j := Option.some.inj h
      exact ⟨by rw [seqIndex_of h0 h1, e], by omega, by omega, h1⟩
    · rw [if_neg h1] at h; cases h
  · rw [if_neg h0] at h
    by_cases h1 : -(n : Int) ≤ i
    · rw [if_pos h1] at h
      have e : (i + n).toNat = j := Option.some.inj h
      exact ⟨by rw [seqIndex_neg (by omega) h1, e], by omega, h1, by omega⟩
    · rw [if_neg h1] at h; cases h
theorem atI_get {α : Type} {xs : List α} {i : Int} {v : α} (h : atI xs i = some v) : ∃ j, seqIndex? i xs.length = some j ∧ xs[j]? = some v ∧ j < xs.length ∧ -(xs.length : Int) ≤ i ∧ i < xs.length := by
  unfold atI at h
  cases e : ixN xs.length i with
  | none => rw [e] at h; cases h
  | some j =>
    rw [e] at h
    obtain ⟨h1, h2, h3, h4⟩ := ixN_seq e
    exact ⟨j, h1, h, h2, h3, h4⟩
theorem atI_nat {α : Type} {xs : List α} {j : Nat} {v : α} (h : xs[j]? = some v) : atI xs (j : Int) = some v := by
  have hj : j < xs.length := (List.getElem?_eq_some_iff.mp h).1
  have e : ixN xs.length (j : Int) = some j := by
    unfold ixN
    rw [if_pos (by omega), if_pos (by omega)]; simp
  unfold atI; rw [e]; exact h
def PlainIx (b : Expr) : Prop := ∀ o i, subscripted b false o i = operate [o, i] (getItem o i)
def IxR (X : Cx) (r : R2) : Prop :=
  ∀ (value slice : Expr) (pins : List (Addr × Obj)) (s : Shared) (σ : St) (H : Hp) (x y : V) (v u : Value) (Q : VK), Inv X pins σ H s → RelV x v → RelV y u → r x y H Q →
    subscripted slice false v u = operate [v, u] (getItem v u) → wpAny (model X.prog X.w) X.A (subscriptTail value slice v u) (EP X pins σ Q) X.xe s
def MtR (X : Cx) (id : String) (r : V → List V → Hp → VK → Prop) : Prop :=
  ∀ (pins : List (Addr × Obj)) (s : Shared) (σ : St) (H : Hp) (x : V) (xs : List V) (v : Value) (us : List Value) (Q : VK), Inv X pins σ H s → RelV x v → Vals xs us → r x xs H Q →
    wpAny (model X.prog X.w) X.A (call (.builtin id) (v :: us)) (EP X pins σ Q) X.xe s
section
variable {X : Cx} {a b : Expr} {ta tb : TE} {pos : Pos}
theorem IxR.or {r r' : R2} (h : IxR X r) (h' : IxR X r') : IxR X (fun x y H Q => r x y H Q ∨ r' x y H Q) := by
  intro value slice pins s σ H x y v u Q I rx ry q hs
  rcases q with q | q
  · exact h value slice pins s σ H x y v u Q I rx ry q hs
  · exact h' value slice pins s σ H x y v u Q I rx ry q hs
theorem MtR.or {id : String} {r r' : V → List V → Hp → VK → Prop} (h : MtR X id r) (h' : MtR X id r') : MtR X id (fun x xs H Q => r x xs H Q ∨ r' x xs H Q) := by
  intro pins s σ H x xs v us Q I rx rs q
  rcases q with q | q
  · exact h pins s σ H x xs v us Q I rx rs q
  · exact h' pins s σ H x xs v us Q I rx rs q
theorem pe_ix {r : R2} (hr : IxR X r) (ha : PE X a ta) (hb : PE X b tb) (hs : PlainIx b) : PE X (.Subscript a b pos) (tOp r ta tb) := by
  intro pins s σ H Q I h
  exact Subscript_ (binT ha hb I h fun v u s2 x y H2 I2 rx ry q => hr a b pins s2 σ H2 x y v u Q I2 rx ry q (hs _ _))
def rIxL (K : PySem.W.Frag) : R2 := fun x y H Q => ∃ p xs i v, x = .ref p ∧ y = .int i ∧ SqL K H p xs ∧ atI xs i = some v ∧ Q v H
def rIxT (K : PySem.W.Frag) : R2 := fun x y H Q => ∃ p xs i v, x = .ref p ∧ y = .int i ∧ SqT K H p xs ∧ atI xs i = some v ∧ Q v H
def rIxS : R2 := fun x y H Q => ∃ z i c, x = .str z ∧ y = .int i ∧ z.length ≤ sizeLine ∧ atI z.cps.toList i = some c ∧ Q (.str ⟨#[c]⟩) H
theorem ix_list : IxR X (rIxL X.K) := by
  intro value slice pins s σ H x y v u Q I rx ry h hs
  obtain ⟨p, xs, i, z, rfl, rfl, hq, he, q⟩ := h
  cases rx
  obtain ⟨t, rfl⟩ := ry
  obtain ⟨its, r, pl, hz⟩ := I.list hq
  obtain ⟨j, h1, h2, h3, h4, h5⟩ := atI_get he
  obtain ⟨w, ew, rw'⟩ := r.get h2
  have hl := r.length
  have hn := line63
  have fin : EP X pins σ Q w s := ⟨z, H, I, rw', q⟩
  by_cases h0 : 0 ≤ i
  · have hj : i.toNat = j := by
      rw [seqIndex_of h0 h5] at h1
      exact Option.some.inj h1
    exact item_listR pl.isList h0 (by omega) (by rw [hj]; simpa using ew) fin hs
  · have hj : (i + (its.toArray.size : Int)).toNat = j := by
      rw [seqIndex_neg (by omega) h4] at h1
      rw [List.size_toArray, ← hl]
      exact Option.some.inj h1
    exact subscriptTail_builtinR (x := w) pl.isList.typeIs slot_list_getitem.lookup
      (wpAny_getItem_list_neg (Q := fun r s' => r = w ∧ EP X pins σ Q r s') pl.isList (by omega) (by rw [List.size_toArray] <;> omega) (by omega) (by rw [hj]; simpa using ew) ⟨rfl, fin⟩) hs
theorem ix_tup : IxR X (rIxT X.K) := by
  intro value slice pins s σ H x y v u Q I rx ry h hs
  obtain ⟨p, xs, i, z, rfl, rfl, hq, he, q⟩ := h
  cases rx
  obtain ⟨t, rfl⟩ := ry
  obtain ⟨its, r, pl, hz⟩ := I.tuple hq
  obtain ⟨j, h1, h2, h3, h4, h5⟩ := atI_get he
  obtain ⟨w, ew, rw'⟩ := r.get h2
  have hl := r.length
  have hn := line63
  have fin : EP X pins σ Q w s := ⟨z, H, I, rw', q⟩
  exact subscriptTail_builtinR (x := w) pl.typeIs slot_tuple_getitem.lookup
    (getItem_tuple (j := j) (Q := fun r s' => r = w ∧ EP X pins σ Q r s') pl (by omega) (by omega) (by rw [List.size_toArray, ← hl]; exact h1) (by simpa using ew) ⟨rfl, fin⟩) hs
theorem ix_str : IxR X rIxS := by
  intro value slice pins s σ H x y v u Q I rx ry h hs
  obtain ⟨z, i, c, rfl, rfl, hz, he, q⟩ := h
  obtain ⟨t, rfl⟩ := rx
  obtain ⟨t', rfl⟩ := ry
  obtain ⟨j, h1, h2, h3, h4, h5⟩ := atI_get he
  have hl : z.cps.toList.length = z.length := by simp [Str.length]
  rw [hl] at h1 h4 h5
  have hn := line63
  exact tail_any (typeIs_str s z t) slot_str_getitem.lookup (getItem_str (c := c) (by
    have e1 : decide (i < -(2 ^ 63 : Int)) = false := decide_eq_false (by omega)
    have e2 : decide (i ≥ 2 ^ 63) = false := decide_eq_false (by omega)
    rw [e1, e2, Bool.or_false]) (by rw [h1]; simpa using h2) ⟨.str ⟨#[c]⟩, H, I.tok _, ⟨_, rfl⟩, q⟩) hs
def rIx (K : PySem.W.Frag) : R2 := fun x y H Q => rIxL K x y H Q ∨ rIxT K x y H Q ∨ rIxS x y H Q
theorem ix_seq : IxR X (rIx X.K) := ix_list.or (ix_tup.or ix_str)
theorem mapSeq_set (its : List Value) (n j : Nat) (u : Value) : Obj.mapSeq (·.setIfInBounds j u) { cls := .type "list", data := .seq its.toArray n } = { cls := .type "list", data := .seq (its.set j u).toArray n } := by
  simp [Obj.mapSeq]
theorem Inv.lst {pins : List (Addr × Obj)} {σ : St} {H : Hp} {s : Shared} {p : Addr} {xs : List V} (I : Inv X pins σ H s) (h : H p = some (.lst xs)) :
    ∃ (its : List Value) (n : Nat), Vals xs its ∧ s.heap.get? p = some { cls := .type "list", data := .seq its.toArray n } ∧ xs.length ≤ sizeLine := by
  obtain ⟨z, its, n, r, e⟩ := I.hok p _ h
  exact ⟨its, n, r, e, z⟩
theorem Inv.lstUpd {pins : List (Addr × Obj)} {σ : St} {H : Hp} {s : Shared} {p : Addr} {xs ys : List V} {its its' : List Value} {n n' : Nat} {f : Obj → Obj} (I : Inv X pins σ H s) (h : H p = some (.lst xs))
    (ho : s.heap.get? p = some { cls := .type "list", data := .seq its.toArray n }) (hf : f { cls := .type "list", data := .seq its.toArray n } = { cls := .type "list", data := .seq its'.toArray n' }) (r : Vals ys its') (hz : ys.length ≤ sizeLine) (t : Nat) :
    Inv X pins σ (upd H p (.lst ys)) { s with heap := s.heap.update p f, toks := t } := by
  have e : (s.heap.update p f).get? p = some { cls := .type "list", data := .seq its'.toArray n' } := by
    rw [Heap.get?_update_self f ho (by rw [hf] <;> rfl), hf]
  refine I.write (x := p) (e := p) (by rw [h]; trivial) (.inl rfl) (fun b u hb q => (Heap.get?_update_other _ _ (Ne.symm hb)).trans q) ⟨_, e⟩ ?_
  exact ⟨hz, its', n', r, e⟩
def rSetL : V → V → V → Hp → (Hp → Prop) → Prop := fun o i v H Q => ∃ p xs k j, o = .ref p ∧ i = .int k ∧ H p = some (.lst xs) ∧ ixN xs.length k = some j ∧ Q (upd H p (.lst (xs.set j v)))
theorem set_list : PSet X rSetL := by
  intro pins s σ H o i v ov iv u Q I ro ri rv h
  obtain ⟨p, xs, k, j, rfl, rfl, hp, hj, q⟩ := h
  cases ro
  obtain ⟨t, rfl⟩ := ri
  obtain ⟨its, n, r, ho, hz⟩ := I.lst hp
  obtain ⟨h1, h2, h3, h4⟩ := ixN_seq hj
  have hl := r.length
  have hn := line63
  have I' : Inv X pins σ (upd H p (.lst (xs.set j v))) { s with heap := s.heap.update p (Obj.mapSeq (·.setIfInBounds j u)) } :=
    I.lstUpd hp ho (mapSeq_set its n j u) (r.set rv j) (by rw [List.length_set]; exact hz) s.toks
  by_cases h0 : 0 ≤ k
  · have hk : k.toNat = j := by
      rw [seqIndex_of h0 h4] at h1
      exact Option.some.inj h1
    exact PySem.W.ki_setAt ho h0 (by omega) (by rw [List.size_toArray, ← hl]; exact h4) (by rw [hk]; exact ⟨_, I', q⟩)
  · have hk : (k + (its.toArray.size : Int)).toNat = j := by
      rw [seqIndex_neg (by omega) h3] at h1
      rw [List.size_toArray, ← hl]
      exact Option.some.inj h1
    exact PySem.W.ki_setBack ho (by omega) (by rw [List.size_toArray, ← hl]; exact h3) (by omega) (by rw [hk]; exact ⟨_, I', q⟩)
theorem slice_bounds (lo hi : Option Int) (n : Nat) : (sliceBounds lo hi none n).1 = ((HT.sIx n 0 lo : Nat) : Int) ∧ (sliceBounds lo hi none n).2.1 = ((HT.sIx n n hi : Nat) : Int) ∧ (sliceBounds lo hi none n).2.2 = 1 := by
  refine ⟨?_, ?_, rfl⟩
  · cases lo with
    | none => simp [sliceBounds, HT.sIx]
    | some i =>
      simp only [sliceBounds, HT.sIx, Option.getD_none, show (1 : Int) > 0 by decide, if_true]
      by_cases h : i < 0
      · simp only [h, if_true] <;> omega
      · simp only [h, if_false] <;> omega
  · cases hi with
    | none => simp [sliceBounds, HT.sIx]
    | some i =>
      simp only [sliceBounds, HT.sIx, Option.getD_none, show (1 : Int) > 0 by decide, if_true]
      by_cases h : i < 0
      · simp only [h, if_true] <;> omega
      · simp only [h, if_false] <;> omega
theorem slicePick_cut (its : List Value) (lo hi : Option Int) : slicePick its.toArray lo hi none = ((its.drop (HT.sIx its.length 0 lo)).take (HT.sIx its.length its.length hi - HT.sIx its.length 0 lo)).toArray := by
  obtain ⟨h1, h2, h3⟩ := slice_bounds lo hi its.toArray.size
  unfold slicePick
  rw [h1, h2, h3]
  simp only [sliceRange_one, pick_run, List.size_toArray] <;> rfl
def rSlL (K : PySem.W.Frag) : V → Option Int → Option Int → Hp → VK → Prop := fun x lo hi H Q => ∃ a xs, x = .ref a ∧ SqL K H a xs ∧ ∀ p, H p = none → Q (.ref p) (upd H p (.lst (cutV xs lo hi)))
theorem sl_list : SlR X (rSlL X.K) := by
  intro pins s σ H x v vl vu lo hi sl Q I rx hs pl pu h
  obtain ⟨a, xs, rfl, hx, q⟩ := h
  cases rx
  obtain ⟨its, r, ht, hz⟩ := I.list hx
  have hlen := r.length
  refine ⟨"list", _, slot_list_getitem.lookup, ht.isList.typeIs, ?_⟩
  refine wpAny_getItem_list_slice ht.isList hs pl pu .none (by simp) ?_ (by rw [List.size_toArray] <;> omega)
  rw [slicePick_cut, ← hlen]
  refine ⟨.ref s.heap.objs.size, _, I.laid (t' := s.toks) (o := .lst (cutV xs lo hi)) (fun b ob q => Heap.get?_push_of_some _ q) (Nat.le_refl _) ?_, rfl, q _ (I.hok.fresh (Nat.le_refl _))⟩
  exact ⟨Nat.le_trans (cutV_length xs lo hi) hz, _, 0, (r.drop (HT.sIx xs.length 0 lo)).take (HT.sIx xs.length xs.length hi - HT.sIx xs.length 0 lo), Heap.get?_push_size _ rfl⟩
theorem call_len_seq : CallR X (.builtin "len") (fun xs H Q => ∃ p ys, xs = [.ref p] ∧ (SqL X.K H p ys ∨ SqT X.K H p ys) ∧ Q (.int ys.length) H) := by
  intro pins s σ H xs us Q I r h
  obtain ⟨p, ys, rfl, hq, q⟩ := h
  obtain ⟨u, rfl, rx⟩ := vals1 r
  cases rx
  have hn := line63
  rcases hq with hq | hq
  · obtain ⟨its, r', pl, hz⟩ := I.list hq
    have hlen := r'.length
    exact Calls.call_len_list pl.isList (by simp only [List.size_toArray] <;> omega) ⟨.int ys.length, H, I.tok _, ⟨s.toks + 1, by rw [List.size_toArray, hlen]⟩, q⟩
  · obtain ⟨its, r', pl, hz⟩ := I.tuple hq
    have hlen := r'.length
    exact len_tuple pl (by simp only [List.size_toArray] <;> omega) ⟨.int ys.length, H, I.tok _, ⟨s.toks + 1, by rw [List.size_toArray, hlen]⟩, q⟩
theorem call_len_str : CallR X (.builtin "len") (fun xs H Q => ∃ z, xs = [.str z] ∧ z.length ≤ sizeLine ∧ Q (.int z.length) H) := by
  intro pins s σ H xs us Q I r h
  obtain ⟨z, rfl, hz, q⟩ := h
  obtain ⟨u, rfl, t, rfl⟩ := vals1 r
  have hn := line63
  exact len_str (by omega) ⟨.int z.length, H, I.tok _, ⟨_, rfl⟩, q⟩
theorem CallR.or {f : Value} {r r' : List V → Hp → VK → Prop} (h : CallR X f r) (h' : CallR X f r') : CallR X f (fun xs H Q => r xs H Q ∨ r' xs H Q) := by
  intro pins s σ H xs us Q I rs q
  rcases q with q | q
  · exact h pins s σ H xs us Q I rs q
  · exact h' pins s σ H xs us Q I rs q
theorem call_list_of : CallR X (.type "list") (fun xs H Q => ∃ p ys, xs = [.ref p] ∧ (SqL X.K H p ys ∨ SqT X.K H p ys) ∧ ∀ l, H l = none → Q (.ref l) (upd H l (.lst ys))) := by
  intro pins s σ H xs us Q I r h
  obtain ⟨p, ys, rfl, hq, q⟩ := h
  obtain ⟨u, rfl, rx⟩ := vals1 r
  cases rx
  have fin : ∀ (its : List Value), Vals ys its → ys.length ≤ sizeLine → ∀ (h' : Heap) (c' : Nat), (∀ b o', s.heap.get? b = some o' → h'.get? b = some o') →
      h'.get? s.heap.objs.size = some { cls := .type "list", dict := none, data := .seq its.toArray c', slots := #[] } → EP X pins σ Q (.ref s.heap.objs.size) { s with heap := h' } := fun its r' hz h' c' kp e =>
    ⟨.ref s.heap.objs.size, _, I.laid (t' := s.toks) kp (Nat.le_refl _) (show ObjOk X.prog X.w _ h' _ (.lst ys) from ⟨hz, its, c', r', e⟩), rfl, q _ (I.hok.fresh (Nat.le_refl _))⟩
  rcases hq with hq | hq
  · obtain ⟨its, r', pl, hz⟩ := I.list hq
    have hlen := r'.length
    obtain ⟨o, ho, hc, n, hd⟩ := pl.isList
    exact call_list_seq p (.inl rfl) ho hc hd (fun h' c' kp e => fin its r' hz h' c' kp e) (by simp only [List.size_toArray] <;> omega)
  · obtain ⟨its, r', pl, hz⟩ := I.tuple hq
    have hlen := r'.length
    obtain ⟨o, ho, hc, n, hd⟩ := pl
    exact call_list_seq p (.inr rfl) ho hc hd (fun h' c' kp e => fin its r' hz h' c' kp e) (by simp only [List.size_toArray] <;> omega)
theorem call_tuple_of : CallR X (.type "tuple") (fun xs H Q => ∃ p ys, xs = [.ref p] ∧ ((SqL X.K H p ys ∧ ∀ l, H l = none → Q (.ref l) (upd H l (.tup ys))) ∨ (SqT X.K H p ys ∧ Q (.ref p) H))) := by
  intro pins s σ H xs us Q I r h
  obtain ⟨p, ys, rfl, h⟩ := h
  obtain ⟨u, rfl, rx⟩ := vals1 r
  cases rx
  rcases h with ⟨hq, q⟩ | ⟨hq, q⟩
  · obtain ⟨its, r', pl, hz⟩ := I.list hq
    have hlen := r'.length
    refine call_tuple_list pl.isList (fun h' kp => ?_) (by simp only [List.size_toArray] <;> omega)
    have I1 : Inv X pins σ H { s with heap := h' } := I.kept (t' := s.toks) kp
    have I2 : Inv X pins σ (upd H h'.objs.size (.tup ys)) { s with heap := h'.push { cls := .type "tuple", data := .seq its.toArray } } :=
      I1.laid (t' := s.toks) (fun b o e => Heap.get?_push_of_some _ e) (Nat.le_refl _) (show ObjOk X.prog X.w _ _ _ (.tup ys) from ⟨hz, its, r', TupN.new _ _⟩)
    exact ⟨.ref h'.objs.size, _, I2, rfl, q _ (I1.hok.fresh (Nat.le_refl _))⟩
  · obtain ⟨its, r', pl, hz⟩ := I.tuple hq
    exact call_tuple_same pl ⟨.ref p, H, I, rfl, q⟩
def tyV (K : PySem.W.Frag) (T : String) (x : V) (H : Hp) : Prop := match x with
  | .str _ => T = "str"
  | .int _ => T = "int"
  | .ref p => (T = "list" ∧ ∃ xs, SqL K H p xs) ∨ (T = "tuple" ∧ ∃ o, K.lookup p = some o ∧ o.cls = .type "tuple" ∧ o.dict = none) ∨
      (T = "dict" ∧ ((∃ kvs, H p = some (.dK kvs)) ∨ ∃ kvs, H p = some (.dT kvs))) ∨ (T = "set" ∧ ∃ S n, H p = some (.set S n))
  | _ => False
theorem tyV_is {pins : List (Addr × Obj)} {σ : St} {H : Hp} {s : Shared} {T : String} {x : V} {v : Value} (I : Inv X pins σ H s) (r : RelV x v) (ty : tyV X.K T x H) :
    s.TypeIs v T ∧ ∀ a, v = .ref a → ∃ ob, s.heap.get? a = some ob ∧ ob.dict = none := by
  cases x with
  | str z =>
    obtain ⟨t, rfl⟩ := r
    cases (show T = "str" from ty)
    exact ⟨typeIs_str s z t, fun _ e => nomatch e⟩
  | int i =>
    obtain ⟨t, rfl⟩ := r
    cases (show T = "int" from ty)
    exact ⟨typeIs_int s i t, fun _ e => nomatch e⟩
  | ref p =>
    cases r
    rcases ty with ⟨rfl, xs, hq⟩ | ⟨rfl, o, hk, hc, hd⟩ | ⟨rfl, hk⟩ | ⟨rfl, S, n, hk⟩
    · obtain ⟨its, _, pl, _⟩ := I.list hq
      refine ⟨pl.isList.typeIs, fun a e => ?_⟩
      cases e
      obtain ⟨o, n, e, c, hd, _⟩ := pl
      exact ⟨o, e, hd⟩
    · refine ⟨⟨o, I.kIn p o hk, hc⟩, fun a e => ?_⟩
      cases e
      exact ⟨o, I.kIn _ o hk, hd⟩
    · have z : ∃ o, s.heap.get? p = some o ∧ o.ExactDict := by
        rcases hk with ⟨kvs, hk⟩ | ⟨kvs, hk⟩
        · obtain ⟨_, _, _, _, o, _, _, e, ex, _⟩ := I.hok p _ hk
          exact ⟨o, e, ex⟩
        · obtain ⟨_, _, _, _, o, _, _, e, ex, _⟩ := I.hok p _ hk
          exact ⟨o, e, ex⟩
      obtain ⟨o, e, ex⟩ := z
      refine ⟨⟨o, e, ex.1⟩, fun a e2 => ?_⟩
      cases e2
      exact ⟨o, e, ex.2.1⟩
    · obtain ⟨o, _, _, _, e, ex, _⟩ := I.hok p _ hk
      refine ⟨⟨o, e, ex.1⟩, fun a e2 => ?_⟩
      cases e2
      exact ⟨o, e, ex.2.1⟩
  | _ => exact False.elim ty
def tBM (K : PySem.W.Frag) (T : String) (r : V → List V → Hp → VK → Prop) (to : TE) (t : TA) : TE := fun σ H Q => to σ H fun x H1 => tyV K T x H1 ∧ t σ H1 fun xs H2 => r x xs H2 Q
variable {o e : Expr} {es : List Expr} {to : TE} {t : TA} {name : Str} {apos cpos : Pos} {T id : String} {r : V → List V → Hp → VK → Prop}
theorem pe_bm (pa : PlainAttrs T) (slot : Slot T name id) (hty : typeOf (.builtin id) = pure (.type "method_descriptor")) (hm : MtR X id r) (ho : PE X o to) (ha : PA X (e :: es) t)
    (hbase : attributeBase o name X.env (eval o X.env) = eval o X.env := by rfl)
    (hfew : ((backTo cpos (starEach (e :: es) X.env)).all (fun x => !x.1) && (backToKw cpos (keywordEach [] X.env)).all (fun x => x.1.isSome)
      && decide ((e :: es).length + ([] : List Keyword).length + (if ([] : List Keyword).isEmpty then 0 else 1) < 30)) = true := by rfl)
    (hline : (apos.endLine == cpos.line) = true := by rfl) (hs : starEach (e :: es) X.env = (false, eval e X.env) :: starEach es X.env := by rfl) (hplain : (backTo cpos (starEach es X.env)).any (·.1) = false := by rfl) :
    PE X (.Call (.Attribute o name apos) (e :: es) [] cpos) (tBM X.K T r to t) := by
  intro pins s σ H Q I h
  refine wpAny_Call_method_late hbase hfew hline rfl (thn (ho pins s σ H _ I h) fun v s1 ⟨x, H1, I1, r1, ty, q1⟩ => ?_)
  obtain ⟨h1, h2⟩ := tyV_is I1 r1 ty
  refine ⟨T, id, pa, slot, hty, h1, h2, ?_⟩
  have hA := ha cpos pins s1 σ H1 _ I1 q1
  rw [hs] at hA ⊢
  refine Calls.callWith_builtin (by show (false || (backTo cpos (starEach es X.env)).any (·.1)) = false; rw [hplain] <;> rfl) (Calls.evalArgs_plain ?_)
  exact thn hA fun us s2 ⟨vs, H2, I2, r2, q2⟩ => hm pins s2 σ H2 x vs v us Q I2 r1 r2 q2
end
end L2
namespace L2
open PySem PySem.Spec PyProof.Rows
def MtM (X : Cx) (id : String) (r : V → List V → Hp → VK → Prop) : Prop :=
  ∀ (pins : List (Addr × Obj)) (s : Shared) (σ : St) (H : Hp) (x : V) (xs : List V) (v : Value) (us : List Value) (Q : VK), Inv X pins σ H s → RelV x v → Vals xs us → r x xs H Q →
    wpAny (model X.prog X.w) X.A (call (.builtin id) (v :: us)) (EP X pins σ Q) X.xe s
theorem Vals.one : ∀ {x : V} {us : List Value}, Vals [x] us → ∃ u, us = [u] ∧ RelV x u
  | _, _, .cons r .nil => ⟨_, rfl, r⟩
theorem Vals.two : ∀ {x y : V} {us : List Value}, Vals [x, y] us → ∃ u v, us = [u, v] ∧ RelV x u ∧ RelV y v
  | _, _, _, .cons r (.cons q .nil) => ⟨_, _, rfl, r, q⟩
theorem Vals.zero : ∀ {us : List Value}, Vals [] us → us = []
  | _, .nil => rfl
theorem Vals.dropLast {xs : List V} {us : List Value} (h : Vals xs us) : Vals xs.dropLast us.dropLast := by
  induction h with
  | nil => exact .nil
  | cons r t ih =>
    cases t with
    | nil => exact .nil
    | cons q t' => exact .cons r ih
theorem Vals.eraseIdx : ∀ {xs : List V} {us : List Value} (i : Nat), Vals xs us → Vals (xs.eraseIdx i) (us.eraseIdx i)
  | _, _, _, .nil => .nil
  | _, _, 0, .cons _ t => t
  | _, _, i + 1, .cons r t => .cons r (Vals.eraseIdx i t)
theorem Vals.reverse {xs : List V} {us : List Value} (h : Vals xs us) : Vals xs.reverse us.reverse := by
  induction h with
  | nil => exact .nil
  | cons r t ih => rw [List.reverse_cons, List.reverse_cons]; exact Vals.append ih (.cons r .nil)
theorem len_erase {α : Type} : ∀ (l : List α) (i : Nat), (l.eraseIdx i).length ≤ l.length
  | [], _ => Nat.le_refl _
  | _ :: _, 0 => Nat.le_succ _
  | _ :: r, i + 1 => Nat.succ_le_succ (len_erase r i)
section
variable {X : Cx} {pins : List (Addr × Obj)} {σ : St} {H : Hp} {s : Shared} {l b : Addr} {xs ys zs : List V}
theorem Inv.lset {its its' : List Value} {n : Nat} {f : Array Value → Array Value} {t' : Nat} (I : Inv X pins σ H s) (hH : H l = some (.lst xs))
    (e : s.heap.get? l = some { cls := .type "list", data := .seq its.toArray n }) (hf : f its.toArray = its'.toArray) (hv : Vals ys its') (hz : ys.length ≤ sizeLine) :
    Inv X pins σ (upd H l (.lst ys)) { s with heap := s.heap.update l (Obj.mapSeq f), toks := t' } := by
  have q := PySem.IsL.update e f
  rw [hf] at q
  refine I.write (x := l) (e := l) (by rw [hH]; exact trivial) (.inl rfl) (fun b' u hb hu => (Heap.get?_update_other s.heap (Obj.mapSeq f) (Ne.symm hb)).trans hu) ⟨_, q⟩ ?_
  exact ⟨hz, its', _, hv, q⟩
theorem Inv.lnew {its : List Value} {t' : Nat} (I : Inv X pins σ H s) (hv : Vals ys its) (hz : ys.length ≤ sizeLine) :
    Inv X pins σ (upd H s.heap.objs.size (.lst ys)) { s with heap := s.heap.push { cls := .type "list", data := .seq its.toArray }, toks := t' } :=
  I.laid (fun _ _ q => Heap.get?_push_of_some _ q) (Nat.le_refl _) ⟨hz, its, 0, hv, Heap.get?_push_size _ rfl⟩
theorem Inv.fresh (I : Inv X pins σ H s) : H s.heap.objs.size = none := I.hok.fresh (Nat.le_refl _)
theorem Inv.lstM (I : Inv X pins σ H s) (hH : H l = some (.lst xs)) : xs.length ≤ sizeLine ∧ ∃ (its : List Value) (n : Nat), Vals xs its ∧ xs.length = its.length ∧ s.heap.get? l = some { cls := .type "list", data := .seq its.toArray n } := by
  obtain ⟨z, its, n, r, e⟩ := I.hok l _ hH
  exact ⟨z, its, n, r, r.length, e⟩
end
section
variable {X : Cx}
def rAppend : V → List V → Hp → VK → Prop := fun x vs H Q => ∃ l xs y, x = .ref l ∧ vs = [y] ∧ H l = some (.lst xs) ∧ xs.length < sizeLine ∧ Q .non (upd H l (.lst (xs ++ [y])))
theorem mt_append : MtM X "list.append" rAppend := by
  intro pins s σ H x vs v us Q I rx rv h
  obtain ⟨l, xs, y, rfl, rfl, hH, hz, q⟩ := h
  cases rx
  obtain ⟨u, rfl, ru⟩ := rv.one
  obtain ⟨z, its, n, r, hl, e⟩ := I.lstM hH
  refine call_meets F.slot_list_append ⟨_, e, rfl⟩ F.entry_list_append (F.args_list_append_2 _ _) (PySem.list_append l its.toArray n u (by rw [List.size_toArray]; omega)) ⟨e, ?_⟩
  refine ⟨.non, _, I.lset (its' := its ++ [u]) hH e (by simp) (r.append (.cons ru .nil)) ?_, rfl, q⟩
  rw [List.length_append, List.length_singleton]
  omega
def rPopAt : V → List V → Hp → VK → Prop := fun x vs H Q => ∃ l xs i k y, x = .ref l ∧ vs = [.int i] ∧ H l = some (.lst xs) ∧ -(2 ^ 63) ≤ i ∧ i < 2 ^ 63 ∧ seqIndex? i xs.length = some k ∧ xs[k]? = some y ∧ Q y (upd H l (.lst (xs.eraseIdx k)))
theorem mt_popAt : MtM X "list.pop" rPopAt := by
  intro pins s σ H x vs v us Q I rx rv h
  obtain ⟨l, xs, i, k, y, rfl, rfl, hH, h1, h2, hk, hy, q⟩ := h
  cases rx
  obtain ⟨u, rfl, ru⟩ := rv.one
  obtain ⟨t, rfl⟩ := ru
  obtain ⟨z, its, n, r, hl, e⟩ := I.lstM hH
  obtain ⟨w, hw, rw'⟩ := r.get hy
  refine call_meets F.slot_list_pop ⟨_, e, rfl⟩ F.entry_list_pop (F.args_list_pop_2 _ _)
    (MeetsSeq.list_pop_at l its.toArray n i t k w (fitsIndex_both h1 h2) (by rw [List.size_toArray, ← hl]; exact hk) (by rw [← Array.getElem?_toList]; exact hw) (by rw [List.size_toArray]; omega)) ⟨e, ?_⟩
  refine ⟨y, _, I.lset (its' := its.eraseIdx k) hH e ?_ (r.eraseIdx k) ?_, rw', q⟩
  · show its.toArray.eraseIdxIfInBounds k = (its.eraseIdx k).toArray
    rw [List.eraseIdxIfInBounds_toArray]
  · have := len_erase xs k
    omega
end
section
variable {prog : Program} {w : World} {A : Around} {E : Value → Shared → Prop} {s : Shared}
end
section
variable {X : Cx}
end
end L2
namespace Att
open PySem PySem.W PySem.Calls PyProof.Rows
theorem ints_of_wellAll {P : Params} {h : Heap} : ∀ (ns : List Int) (vs : List Value), WellAll P h vs (ns.map WData.int) → IntsAre vs ns := by
  intro ns
  induction ns with
  | nil =>
    intro vs w
    rw [List.map_nil] at w
    cases w
    exact .nil
  | cons n ns ih =>
    intro vs w
    rw [List.map_cons] at w
    cases w with
    | cons a b =>
      cases a
      exact .cons _ _ (ih _ b)
theorem script_of {l : OpenLaw} {n : Nat} (hn : l.most = some n) {P : Params} {h : Heap} {args : List WData} {vals : List Value}
    (hpre : l.row.toRowW.claim.pre args = true) (hwl : WellAll P h vals args) :
    ∃ a vs ns, vals = [Value.ref a] ∧ args = [WData.list (ns.map WData.int)] ∧ h.get? a = some { cls := .type "list", data := .seq vs.toArray } ∧ IntsAre vs ns ∧ ns.length ≤ n := by
  have hsh : WShape.hasAll [] args [.list .int] = true := (pre_splitW hpre).1
  have hc : l.pre.holds [] { args := args } = true := (pre_splitW hpre).2
  obtain ⟨d, r, rfl, h1, h2⟩ := hasAllW_cons hsh
  obtain rfl := hasAllW_nil h2
  obtain ⟨xs, rfl, h3⟩ := hasW_list h1
  obtain ⟨ns, rfl⟩ := items_int h3
  have hlen : ns.length ≤ n := by
    unfold OpenLaw.pre at hc
    have h4 : (WTm.not (.lt (.lit (.int (n : Int))) (.len (.arg 0)))).holds [] { args := [.list (ns.map .int)] } = true := by
      have h4 := (holds_andW hc).1
      rw [hn] at h4
      exact h4
    have h5 := condW_of h4 (w_not (w_lt w_lit (w_len_list (w_arg rfl))))
    rw [List.length_map] at h5
    refine Nat.le_of_not_lt fun q => ?_
    have q' : (n : Int) < ((ns.length : Nat) : Int) := by omega
    first
      | (rw [decide_eq_true q'] at h5; exact absurd h5 (by decide))
      | (simp at h5; omega)
  cases hwl with
  | cons w1 w2 =>
    cases w2
    cases w1 with
    | list ho hall => exact ⟨_, _, ns, rfl, rfl, ho, ints_of_wellAll ns _ hall, hlen⟩
theorem post_true (l : OpenLaw) (args : List WData) : l.row.toRowW.claim.post args (.bool true) args = true :=
  postW_of (r := l.row.toRowW) (X := (true == true))
    (show WShape.has [] (.bool true) .bool = true by first | rfl | decide | simp [WShape.has, WShape.arms, WShape.armsAll])
    (show (WTm.eq .res (.lit (.bool true))).value [] { args := args, res := some (.bool true), after := args } = some (.bool (true == true)) from w_eq_bool (w_res rfl) w_lit) rfl
theorem attach_call {l : OpenLaw} {n : Nat} {q : Program} {loose : List Str} {XP : (Str → Option Value) → Heap → Prop} {YP : World → Heap → Prop} {d : DefRec}
    (hn : l.most = some n) (hdf : d.params.defaults = [])
    (call : ∀ (w : World) (s₀ s₁ : Shared) (mg mb : Str → Option Value) (fa : Addr) (o : Obj) (pm cd doc : Value) (a : Addr) (vs : List Value) (ns : List Int),
      Ground q loose [] XP w s₀ mg mb s₁.heap → YP w s₁.heap →
      s₁.heap.get? fa = some o → o.data = .func (docDef d.name d.params d.body d.scope pm cd doc) → s₁.heap.CodeRec cd d.name → mg d.name = some (.ref fa) →
      s₁.heap.get? a = some { cls := .type "list", data := .seq vs.toArray } → IntsAre vs ns → ns.length ≤ n → s₁.gens = #[] →
      codeAny (model l.prog w) callerA (.call (.ref fa) ⟨[.ref a], []⟩) (fun r s' => r = .ok (.ret (.bool true)) ∧ OldK s₁.heap s'.heap ∧ s'.os = s₁.os ∧ AllBare s'.gens) s₁) :
    WalkO q loose XP YP l.row.toRowW d [] (fun f vs => PySem.call f vs) := by
  intro w s₀ s₁ mg mb G Y fa o pm cd doc dV kV ho hd hcd hD hmg hg args vals as hpre hlay hrd hwl hlo
  obtain rfl : dV = .none := Dflts.none hD hdf
  obtain rfl : kV = .none := Dflts.noKw hD
  obtain ⟨a, vs, ns, rfl, rfl, hobj, hints, hlen⟩ := script_of hn hpre hwl
  refine enter_call (codeAny_mono (call w s₀ s₁ mg mb fa o pm cd doc a vs ns G Y ho (fd_plain hd) hcd hmg hobj hints hlen hg) fun r s' hq => ?_)
  obtain ⟨rfl, h2, h3, h4⟩ := hq
  exact ⟨.inl ⟨.bool true, .bool true, [], rfl, fun _ => rfl, .bool true, post_true l _, fun _ => ⟨List.Pairwise.nil, fun _ hm => (nomatch hm)⟩⟩, h2, h3, h4⟩
section
variable {prog : Program} {w : World} {A : Around} {E : Value → Shared → Prop} {s : Shared} {K : Frag}
end
end Att
namespace L2
open PySem PySem.Spec PyProof.Rows
theorem vals_ints : ∀ {vs : List Value} {ns : List Int}, IntsAre vs ns → Vals (ns.map V.int) vs
  | _, _, .nil => .nil
  | _, _, .cons n t h => .cons ⟨t, rfl⟩ (vals_ints h)
def Only (H : Hp) : Prop := ∀ b, H b = none ∨ ∃ o xs, H b = some (.frz o (.lst xs))
theorem law_call {P : Program} {w : World} {K : PySem.W.Frag} {mg mb : Str → Option Value} {CX : CXT} {k : Nat} {fa a : Addr} {fd : FuncData} {x : Str} {sp : Sp} {s₁ : Shared} {vs : List Value} {ns : List Int}
    (KX : K.In s₁.heap) (hns : s₁.heap.Ns mainGlobals mg) (hb : s₁.heap.Ns builtinsNs mb) (hbb : ∀ x : Str, x ≠ "__name__" → mb x = bootBuiltins x) (hlim : s₁.heap.NoLimit) (hg : s₁.gens = #[])
    (ha : s₁.heap.get? a = some { cls := .type "list", data := .seq vs.toArray }) (hi : IntsAre vs ns) (hl : ns.length ≤ sizeLine) (hr : Room k callerA)
    (F : ∀ base : Heap, K.In base → base.Ns mainGlobals mg → FnOk P w K mg base CX k fa fd [x] sp) (hbind : ∀ (s : Shared) (u : Value), BindsTo s fd ⟨[u], []⟩ [(x, u)])
    (hsp : ∀ H : Hp, Only H → SqL K H a (ns.map V.int) → sp [.ref a] H (fun v _ => v = .bl true) fun _ _ _ => False)
    (hCX : ∀ H e s', CX [] H s₁ (fun _ _ _ => False) e s' → False) :
    codeAny (model P w) callerA (.call (.ref fa) ⟨[.ref a], []⟩) (fun r s' => r = .ok (.ret (.bool true)) ∧ OldK s₁.heap s'.heap ∧ s'.os = s₁.os ∧ AllBare s'.gens) s₁ := by
  have rv := vals_ints hi
  have lenV := hi.length
  have core : ∀ H : Hp, Only H → SqL K H a (ns.map V.int) → HOk P w H s₁.heap → (∀ b, H b ≠ none → b = a) → (H a ≠ none → K.lookup a = none) →
      codeAny (model P w) callerA (.call (.ref fa) ⟨[.ref a], []⟩) (fun r s' => r = .ok (.ret (.bool true)) ∧ OldK s₁.heap s'.heap ∧ s'.os = s₁.os ∧ AllBare s'.gens) s₁ := by
    intro H hO hS hok hA hK
    have base_of : ∀ {b : Addr} {o : Obj}, s₁.heap.get? b = some o → H b = none → (hidT s₁.heap H).get? b = some o := fun e n => hidT_get e n
    have noA : ∀ {b : Addr} {o : Obj} {es : Array DictEntry} {ep : Nat}, s₁.heap.get? b = some o → o.data = .dict es ep → H b = none := fun {b o es ep} e d => by
      cases q : H b with
      | none => rfl
      | some u =>
        have e' : b = a := hA b (by rw [q]; simp)
        subst e'
        rw [ha] at e; cases e
        have d' : Data.seq vs.toArray _ = Data.dict es ep := d
        cases d'
    have nsK : ∀ {b : Addr} {m : Str → Option Value}, s₁.heap.Ns b m → (hidT s₁.heap H).Ns b m := fun {b m} ⟨o, es, ep, e, d, r⟩ => ⟨o, es, ep, base_of e (noA e d), d, r⟩
    have hKb : K.In (hidT s₁.heap H) := fun b o e => base_of (KX b o e) (by
      cases q : H b with
      | none => rfl
      | some u =>
        have e' : b = a := hA b (by rw [q]; simp)
        subst e'
        rw [hK (by rw [q]; simp)] at e; cases e)
    have hM : Mod K mg (hidT s₁.heap H) := ⟨hKb, nsK hns, ⟨mb, nsK hb, hbb⟩, let ⟨mc, h1, h2⟩ := hlim; ⟨mc, nsK h1, h2⟩⟩
    have e0 : Env0 P w K mg (hidT s₁.heap H) callerA [] s₁ H := ⟨rfl, hM, fun b o e => of_hidT e, Nat.le_of_eq (hidT_size _ _), trivial, fun b hb => absurd (show b ∈ ([] : List Addr) from hb) (by simp), hok, .of_eq hg⟩
    refine codeAny_mono ((F _ hKb (nsK hns)).run callerA [] s₁ H ⟨[.ref a], []⟩ [.ref a] [.ref a] _ _ hr e0 (hbind s₁ (.ref a)) (.cons rfl .nil) (hsp H hO hS)) fun r s' h => ?_
    cases r with
    | error e => exact (hCX H e s' h).elim
    | ok fl =>
      cases fl with
      | next => exact False.elim h
      | brk => exact False.elim h
      | cont => exact False.elim h
      | ret u =>
        obtain ⟨v, H', os, bare, un, hok', r', q⟩ := h
        have q' : v = .bl true := q
        subst q'
        obtain rfl : u = Value.bool true := r'
        refine ⟨rfl, OldK.of_keep fun b o e => ?_, os, bare⟩
        cases q : H b with
        | none => exact un.keep b o e q (by intro z; exact absurd (show b ∈ ([] : List Addr) from z) (by simp)) (by simp)
        | some u =>
          rcases hO b with z | ⟨ob, xs, z⟩
          · rw [q] at z; cases z
          · have z2 := un.frzs b ob _ z
            obtain ⟨e1, _⟩ := hok b _ z
            obtain ⟨e2, _⟩ := hok' b _ z2
            rw [e] at e1; cases e1
            exact e2
  cases hk : K.lookup a with
  | some o =>
    have e := KX a o hk
    rw [ha] at e
    cases e
    refine core (fun _ => none) (fun _ => .inl rfl) (.inr ⟨_, vs.toArray, _, hk, rfl, rfl, rfl, by rw [List.size_toArray, lenV]; exact hl, by simpa using rv⟩) (fun b u z => by have z' : (none : Option HO) = some u := z; cases z') (fun b z => absurd rfl z) fun z => absurd rfl z
  | none =>
    refine core (fun b => if b = a then some (.frz { cls := .type "list", data := .seq vs.toArray } (.lst (ns.map V.int))) else none) (fun b => ?_) (.inl (.inr ⟨{ cls := .type "list", data := .seq vs.toArray }, if_pos rfl⟩)) (fun b u z => ?_) (fun b z => ?_) fun _ => hk
    · by_cases hb : b = a
      · exact .inr ⟨_, _, if_pos hb⟩
      · exact .inl (if_neg hb)
    · by_cases hb : b = a
      · have z' := (if_pos hb).symm.trans z
        cases z'
        subst hb
        exact ⟨ha, by rw [List.length_map]; exact hl, vs, _, rv, ha⟩
      · have z' := (if_neg hb).symm.trans z
        cases z'
    · by_cases hb : b = a
      · exact hb
      · exact absurd (if_neg hb) z
end L2
namespace L2
open PySem PySem.Spec PyProof.Rows
theorem walk_of {l : PySem.W.OpenLaw} {n k : Nat} {q : Program} {loose : List Str} {XP : (Str → Option Value) → Heap → Prop} {YP : World → Heap → Prop} {d : DefRec} {K : Params → PySem.W.Frag} {CX : World → CXT} {sp : World → Sp} {x : Str}
    (hn : l.most = some n) (hn2 : n ≤ sizeLine) (hdf : d.params.defaults = []) (hr : Room k callerA)
    (hY : ∀ (w : World) (h : Heap), YP w h → (K w.params).In h)
    (F : ∀ (w : World) (mg : Str → Option Value) (fa : Addr) (h : Heap), (K w.params).In h → h.Ns mainGlobals mg → mg d.name = some (.ref fa) →
      ∃ fd : FuncData, (∀ (s : Shared) (u : Value), BindsTo s fd ⟨[u], []⟩ [(x, u)]) ∧
        ∀ base : Heap, (K w.params).In base → base.Ns mainGlobals mg → FnOk l.prog w (K w.params) mg base (CX w) k fa fd [x] (sp w))
    (hsp : ∀ (w : World) (H : Hp) (a : Addr) (ns : List Int), ns.length ≤ n → Only H → SqL (K w.params) H a (ns.map V.int) → sp w [.ref a] H (fun v _ => v = .bl true) fun _ _ _ => False)
    (hCX : ∀ (w : World) (H : Hp) (s : Shared) (e : Value) (s' : Shared), CX w [] H s (fun _ _ _ => False) e s' → False) :
    PySem.W.WalkO q loose XP YP l.row.toRowW d [] (fun f vs => PySem.call f vs) := by
  refine Att.attach_call hn hdf fun w s₀ s₁ mg mb fa o pm cd doc a vs ns G Y ho hd hcd hmg hobj hints hlen hg => ?_
  have KX := hY w _ Y
  obtain ⟨fd, hb, hF⟩ := F w mg fa _ KX G.T.g hmg
  exact law_call KX G.T.g G.T.b G.T.builtins G.T.nolimit hg hobj hints (Nat.le_trans hlen hn2) hr hF hb (fun H hO hS => hsp w H a ns hlen hO hS) fun H e s' => hCX w H s₁ e s'
end L2
namespace L2
open PySem PySem.Spec PyProof.Rows
def defArgs (s : Stmt) : Arguments := match s with
  | .FunctionDef _ a _ _ _ _ _ _ _ _ => a
  | _ => { posonlyargs := [], args := [], vararg := none, kwonlyargs := [], kw_defaults := [], kwarg := none, defaults := [] }
def defBody (s : Stmt) : List Stmt := match s with
  | .FunctionDef _ _ b _ _ _ _ _ _ _ => b
  | _ => []
def defScope (s : Stmt) : Scope := match s with
  | .FunctionDef _ _ _ _ _ _ sc _ _ _ => sc
  | _ => { kind := .function, names := [], isGenerator := false, isCoroutine := false }
abbrev CX0 : CXT := fun _ _ _ _ _ _ => False
abbrev E0 : XK := fun _ _ _ => False
theorem pass0 {X : Cx} : Passes CX0 X E0 := fun _ _ _ _ _ _ _ h => h.elim
structure Fun (K : PySem.W.Frag) (x qual : Str) (st : Stmt) (f : Addr) (fd : FuncData) : Prop where
  ex : ∃ (oc : Value) (od : Option Addr) (kV doc pm : Value) (an : Option Addr) (cdv ct : Value) (osl : Array (Option Value)),
    fd = PySem.W.fnOf x qual (defArgs st) (defBody st) (defScope st) .none kV doc pm an cdv ct ∧ K.lookup f = some ⟨oc, od, .func fd, osl⟩ ∧ PySem.W.codeIn K cdv qual = true
  kp : PySem.W.keepIn K (.ref f) = true
section
variable {P : Program} {w : World} {K : PySem.W.Frag} {mg : Str → Option Value} {base : Heap}
theorem Fun.ok {x qual : Str} {st : Stmt} {f : Addr} {fd : FuncData} {N ps : List Str} {k : Nat} {sp : Sp} (F : Fun K x qual st f fd) (S : FnScope N ps (defScope st)) (len : ∀ vs H Q E, sp vs H Q E → vs.length = ps.length)
    (hbody : ∀ (cdv : Value) (A : Around) (outer : List Env) (s : Shared) (H : Hp) (vs : List V) (Q : VK) (E : XK), Room k (A.deeper (envOfC qual (defScope st) s.heap.objs.size f cdv)) → sp vs H Q E →
      ∃ t, PSs (cxOf CX0 P w K mg base N qual (defScope st) f cdv A outer s H E).nox (defBody st) t ∧ t { nx := fun _ H' => Q .non H', rt := Q } (start N vs) H) : FnOk P w K mg base CX0 (k + 1) f fd ps sp := by
  obtain ⟨oc, od, kV, doc, pm, an, cdv, ct, osl, rfl, lk, hcd⟩ := F.ex
  refine fn_of lk hcd S len fun A outer s H vs Q E hr hsp => ?_
  obtain ⟨t, h, q⟩ := hbody cdv A outer s H vs Q E hr hsp
  exact ⟨t, h.nox, q⟩
theorem Fun.binds {x qual : Str} {st : Stmt} {f : Addr} {fd : FuncData} {ps : List Str} (F : Fun K x qual st f fd)
    (h : ∀ (kV doc pm : Value) (an : Option Addr) (cdv ct : Value) (us : List Value), us.length = ps.length → bindArgs (PySem.W.fnOf x qual (defArgs st) (defBody st) (defScope st) .none kV doc pm an cdv ct) ⟨us, []⟩ = pure (ps.zip us)) : Binds K fd ps [] := by
  obtain ⟨oc, od, kV, doc, pm, an, cdv, ct, osl, rfl, lk, hcd⟩ := F.ex
  exact .all (h kV doc pm an cdv ct)
theorem fun_mk {x qual : Str} {st : Stmt} {f : Addr} {oc : Value} {od an : Option Addr} {osl : Array (Option Value)} {kV doc pm cdv ct : Value} (l : K.lookup f = some ⟨oc, od, .func (PySem.W.fnOf x qual (defArgs st) (defBody st) (defScope st) .none kV doc pm an cdv ct), osl⟩)
    (c : PySem.W.codeIn K cdv qual = true) (k : PySem.W.keepIn K (.ref f) = true) : Fun K x qual st f (PySem.W.fnOf x qual (defArgs st) (defBody st) (defScope st) .none kV doc pm an cdv ct) := ⟨⟨oc, od, kV, doc, pm, an, cdv, ct, osl, rfl, l, c⟩, k⟩
end
section
variable {X : Cx}
end
def Same (H H' : Hp) : Prop := ∀ b o, H b = some o → H' b = some o
theorem Same.refl (H : Hp) : Same H H := fun _ _ h => h
theorem Same.trans {H H1 H2 : Hp} (a : Same H H1) (b : Same H1 H2) : Same H H2 := fun c o h => b c o (a c o h)
theorem Same.free {H H' : Hp} (e : Same H H') {l : Addr} (h : H' l = Option.none) : H l = Option.none := by
  cases q : H l with
  | none => rfl
  | some o =>
    rw [e l o q] at h
    cases h
theorem Same.seq {K : PySem.W.Frag} {H H' : Hp} {a : Addr} {xs : List V} (e : Same H H') (h : SqL K H a xs) : SqL K H' a xs := by
  rcases h with (h | ⟨o, h⟩) | h
  · exact .inl (.inl (e _ _ h))
  · exact .inl (.inr ⟨o, e _ _ h⟩)
  · exact .inr h
end L2
set_option Elab.async false
set_option linter.all false
set_option maxRecDepth 100000
set_option maxHeartbeats 4000000
namespace L2
open PySem PySem.Spec PyProof.Rows
section
variable {κ : Type} [DecidableEq κ]
def valV (kvs : List (κ × V)) (k : κ) : Option V := (kvs.find? fun kv => decide (kv.1 = k)).map (·.2)
def putK (kvs : List (κ × V)) (k : κ) (v : V) : List (κ × V) :=
  if (kvs.any fun kv => decide (kv.1 = k)) = true then kvs.map (fun kv => if kv.1 = k then (kv.1, v) else kv) else kvs ++ [(k, v)]
def dropK (kvs : List (κ × V)) (k : κ) : List (κ × V) := kvs.filter fun kv => decide (kv.1 ≠ k)
theorem valV_pos {p : κ × V} {r : List (κ × V)} {k : κ} (e : p.1 = k) : valV (p :: r) k = some p.2 := by simp [valV, List.find?_cons, e]
theorem valV_neg {p : κ × V} {r : List (κ × V)} {k : κ} (e : ¬ p.1 = k) : valV (p :: r) k = valV r k := by simp [valV, List.find?_cons, e]
theorem RelO.getD {o : Option V} {u : Option Value} {d : V} {d' : Value} (r : RelO o u) (rd : RelV d d') : RelV (o.getD d) (u.getD d') := by
  cases o with
  | none => cases u with
    | none => exact rd
    | some _ => exact (show False from r).elim
  | some _ => cases u with
    | none => exact (show False from r).elim
    | some _ => exact r
theorem KV.val {kvs : List (κ × V)} {vs : List (κ × Value)} (r : KV kvs vs) (k : κ) : RelO (valV kvs k) (valueAt vs k) := by
  unfold KV at r
  induction r with
  | nil => exact True.intro
  | @cons p q ps qs h t ih =>
    obtain ⟨h1, h2⟩ := h
    by_cases e : p.1 = k
    · have e' : q.1 = k := h1.symm.trans e
      have b : valueAt (q :: qs) k = some q.2 := by simp [valueAt, List.find?_cons, e']
      rw [valV_pos e, b]; exact h2
    · have e' : ¬ q.1 = k := fun z => e (h1.trans z)
      have b : valueAt (q :: qs) k = valueAt qs k := by simp [valueAt, List.find?_cons, e']
      rw [valV_neg e, b]; exact ih
theorem KV.any {kvs : List (κ × V)} {vs : List (κ × Value)} (r : KV kvs vs) (k : κ) : (kvs.any fun kv => decide (kv.1 = k)) = vs.any fun kv => decide (kv.1 = k) := by
  unfold KV at r
  induction r with
  | nil => rfl
  | cons h t ih => rw [List.any_cons, List.any_cons, ih, h.1]
theorem KV.drop {kvs : List (κ × V)} {vs : List (κ × Value)} (r : KV kvs vs) (k : κ) : KV (dropK kvs k) (without vs k) := by
  unfold KV at r ⊢
  unfold dropK without
  induction r with
  | nil => exact .nil
  | @cons p q ps qs h t ih =>
    obtain ⟨h1, h2⟩ := h
    rw [List.filter_cons, List.filter_cons]
    by_cases e : p.1 = k
    · have a : ¬ decide (p.1 ≠ k) = true := by simp [e]
      have b : ¬ decide (q.1 ≠ k) = true := by simp [h1.symm.trans e]
      rw [if_neg a, if_neg b]; exact ih
    · have e' : ¬ q.1 = k := fun z => e (h1.trans z)
      have a : decide (p.1 ≠ k) = true := by simp [e]
      have b : decide (q.1 ≠ k) = true := by simp [e']
      rw [if_pos a, if_pos b]; exact .cons ⟨h1, h2⟩ ih
theorem KV.length {kvs : List (κ × V)} {vs : List (κ × Value)} (r : KV kvs vs) : kvs.length = vs.length := Paired.length r
end
abbrev KT (H : Hp) : List (List Key × V) → List (List Key × Addr × Value) → Prop := Paired fun p q => p.1 = q.1 ∧ H q.2.1 = some (.tup (p.1.map kV)) ∧ RelV p.2 q.2.2
theorem KT.val {H : Hp} {kvs : List (List Key × V)} {xs : List (List Key × Addr × Value)} (r : KT H kvs xs) (k : List Key) : RelO (valV kvs k) ((atKey xs k).map (·.2)) := by
  induction r with
  | nil => exact True.intro
  | @cons p q ps qs h t ih =>
    obtain ⟨h1, _, h2⟩ := h
    by_cases e : p.1 = k
    · have e' : q.1 = k := h1.symm.trans e
      have b : atKey (q :: qs) k = some q.2 := by simp [atKey, List.find?_cons, e']
      rw [valV_pos e, b]; exact h2
    · have e' : ¬ q.1 = k := fun z => e (h1.trans z)
      have b : atKey (q :: qs) k = atKey qs k := by simp [atKey, List.find?_cons, e']
      rw [valV_neg e, b]; exact ih
theorem KT.keeps {H H' : Hp} {kvs : List (List Key × V)} {xs : List (List Key × Addr × Value)} (r : KT H kvs xs) (ht : ∀ b ys, H b = some (.tup ys) → H' b = some (.tup ys)) : KT H' kvs xs :=
  Paired.mapP r fun _ _ z => ⟨z.1, ht _ _ z.2.1, z.2.2⟩
section
variable {P : Program} {w : World} {H : Hp} {h : Heap} {a : Addr}
end
def DGet (H : Hp) (a : Addr) (y : V) (r : Option V) : Prop :=
  (∃ kvs k, Rd H a (.dK kvs) ∧ y = kV k ∧ r = valV kvs k) ∨ ∃ kvs k b, Rd H a (.dT kvs) ∧ y = .ref b ∧ H b = some (.tup (k.map kV)) ∧ r = valV kvs k
def DPut (H : Hp) (a : Addr) (y v : V) (H' : Hp) : Prop :=
  (∃ kvs k, H a = some (.dK kvs) ∧ y = kV k ∧ kvs.length < sizeLine ∧ H' = upd H a (.dK (putK kvs k v))) ∨
  ∃ kvs k b, H a = some (.dT kvs) ∧ y = .ref b ∧ H b = some (.tup (k.map kV)) ∧ kvs.length < sizeLine ∧ H' = upd H a (.dT (putK kvs k v))
theorem DGet.k {H : Hp} {a : Addr} {kvs : List (Key × V)} {k : Key} (e : H a = some (.dK kvs)) : DGet H a (kV k) (valV kvs k) := .inl ⟨kvs, k, .inl e, rfl, rfl⟩
theorem DGet.t {H : Hp} {a b : Addr} {kvs : List (List Key × V)} {k : List Key} (e : H a = some (.dT kvs)) (eb : H b = some (.tup (k.map kV))) : DGet H a (.ref b) (valV kvs k) := .inr ⟨kvs, k, b, .inl e, rfl, eb, rfl⟩
theorem DPut.k {H : Hp} {a : Addr} {kvs : List (Key × V)} {k : Key} {v : V} (e : H a = some (.dK kvs)) (hl : kvs.length < sizeLine) : DPut H a (kV k) v (upd H a (.dK (putK kvs k v))) := .inl ⟨kvs, k, e, rfl, hl, rfl⟩
theorem DPut.t {H : Hp} {a b : Addr} {kvs : List (List Key × V)} {k : List Key} {v : V} (e : H a = some (.dT kvs)) (eb : H b = some (.tup (k.map kV))) (hl : kvs.length < sizeLine) :
    DPut H a (.ref b) v (upd H a (.dT (putK kvs k v))) := .inr ⟨kvs, k, b, e, rfl, eb, hl, rfl⟩
section
variable {X : Cx} {pins : List (Addr × Obj)} {σ : St} {H : Hp} {s : Shared} {a : Addr} {y v : V} {u r : Value} {o : Option V} {A : Around} {E : Value → Shared → Prop}
end
section
variable {X : Cx} {pins : List (Addr × Obj)} {σ : St} {H : Hp} {s : Shared} {a : Addr} {kvs : List (Key × V)} {k : Key} {u : Value} {A : Around} {E : Value → Shared → Prop}
end
section
variable {X : Cx} {o i e value : Expr} {pos pos' tpos : Pos} {td ty tv : TE}
end
section
variable {X : Cx} {pos : Pos}
end
structure M1 (X : Cx) (o : Expr) (m : Str) (apos : Pos) (e : Expr) (cpos : Pos) : Prop where
  base : attributeBase o m X.env (eval o X.env) = eval o X.env
  few : ((backTo cpos (starEach [e] X.env)).all (fun x => !x.1) && (backToKw cpos (keywordEach [] X.env)).all (fun x => x.1.isSome)
    && decide (([e] : List Expr).length + ([] : List Keyword).length + (if ([] : List Keyword).isEmpty then 0 else 1) < 30)) = true
  line : (apos.endLine == cpos.line) = true
  trees : backTo cpos (starEach [e] X.env) = [(false, eval e X.env)]
section
variable {X : Cx} {pins : List (Addr × Obj)} {σ : St} {H : Hp} {s : Shared} {a : Addr} {y d : V} {u r : Value} {o : Option V} {A : Around} {E : Value → Shared → Prop}
end
section
variable {X : Cx} {o e f : Expr} {apos cpos : Pos} {td ty tx : TE}
end
section
variable {X : Cx} {pins : List (Addr × Obj)} {σ : St} {H : Hp} {s : Shared} {a : Addr} {kvs : List (Key × V)} {A : Around} {E : Value → Shared → Prop}
end
section
variable {X : Cx} {pins : List (Addr × Obj)} {σ : St} {H : Hp} {s : Shared} {a : Addr} {y : V} {u : Value} {A : Around} {E : Value → Shared → Prop}
end
end L2
set_option Elab.async false
set_option linter.all false
set_option maxRecDepth 100000
set_option maxHeartbeats 4000000
namespace L2.L3
open PySem PySem.Spec PyProof.Rows
inductive D where
  | non | bl (b : Bool) | int (i : Int) | str (x : Str) | tup (xs : List D) | lst (xs : List D) | dct (ks : List Key) (xs : List D) | ty (n : String) | exc (c : Str) | cls (c : Str) | obj (P : PySem.W.Frag → Hp → Addr → Prop)
def excAt (a C : Addr) (h : Heap) : Prop := ∃ o vs, h.get? a = some o ∧ o.cls = .ref C ∧ o.dict = none ∧ o.data = .fields vs
mutual
def Den (K : PySem.W.Frag) (F : Hp) : D → V → Prop
  | .non, v => v = V.non
  | .bl b, v => v = V.bl b
  | .int i, v => v = V.int i
  | .str x, v => v = V.str x
  | .ty n, v => v = V.ty n
  | .exc c, v => ∃ a C, v = V.ref a ∧ PySem.W.nsIn K mainGlobals c = some (some (.ref C)) ∧ F a = some (.ext (excAt a C))
  | .cls c, v => ∃ C, v = V.ref C ∧ PySem.W.nsIn K mainGlobals c = some (some (.ref C))
  | .tup ds, v => ∃ a vs, v = V.ref a ∧ SqT K F a vs ∧ DenL K F ds vs
  | .lst ds, v => ∃ a vs, v = V.ref a ∧ SqL K F a vs ∧ DenL K F ds vs
  | .obj P, v => ∃ a, v = V.ref a ∧ ∀ G, Same F G → P K G a
  | .dct ks ds, v => ∃ a vs, v = V.ref a ∧ F a = some (.dK (ks.zip vs)) ∧ vs.length = ks.length ∧ DenL K F ds vs
def DenL (K : PySem.W.Frag) (F : Hp) : List D → List V → Prop
  | [], vs => vs = []
  | d :: ds, vs => ∃ v r, vs = v :: r ∧ Den K F d v ∧ DenL K F ds r
end
theorem Same.seqT {K : PySem.W.Frag} {H H' : Hp} {a : Addr} {xs : List V} (e : Same H H') (h : SqT K H a xs) : SqT K H' a xs := by
  rcases h with (h | ⟨o, h⟩) | h
  · exact .inl (.inl (e _ _ h))
  · exact .inl (.inr ⟨o, e _ _ h⟩)
  · exact .inr h
mutual
theorem Den.mono {K : PySem.W.Frag} {F F' : Hp} (s : Same F F') : ∀ (d : D) (v : V), Den K F d v → Den K F' d v
  | .non, _, h => by simpa only [Den] using h
  | .bl _, _, h => by simpa only [Den] using h
  | .int _, _, h => by simpa only [Den] using h
  | .str _, _, h => by simpa only [Den] using h
  | .ty _, _, h => by simpa only [Den] using h
  | .cls _, _, h => by simpa only [Den] using h
  | .exc _, v, h => by
    simp only [Den] at h ⊢
    obtain ⟨a, C, e, z, q⟩ := h
    exact ⟨a, C, e, z, s _ _ q⟩
  | .tup ds, v, h => by
    simp only [Den] at h ⊢
    obtain ⟨a, vs, e, q, r⟩ := h
    exact ⟨a, vs, e, Same.seqT s q, DenL.mono s ds vs r⟩
  | .lst ds, v, h => by
    simp only [Den] at h ⊢
    obtain ⟨a, vs, e, q, r⟩ := h
    exact ⟨a, vs, e, s.seq q, DenL.mono s ds vs r⟩
  | .obj _, v, h => by
    simp only [Den] at h ⊢
    obtain ⟨a, e, q⟩ := h
    exact ⟨a, e, fun G sG => q G (s.trans sG)⟩
  | .dct ks ds, v, h => by
    simp only [Den] at h ⊢
    obtain ⟨a, vs, e, q, l, r⟩ := h
    exact ⟨a, vs, e, s _ _ q, l, DenL.mono s ds vs r⟩
theorem DenL.mono {K : PySem.W.Frag} {F F' : Hp} (s : Same F F') : ∀ (ds : List D) (vs : List V), DenL K F ds vs → DenL K F' ds vs
  | [], _, h => by simpa only [DenL] using h
  | d :: ds, vs, h => by
    simp only [DenL] at h ⊢
    obtain ⟨v, r, e, a, b⟩ := h
    exact ⟨v, r, e, Den.mono s d v a, DenL.mono s ds r b⟩
end
section
variable {K : PySem.W.Frag} {F : Hp}
theorem den_int {i : Int} : Den K F (.int i) (.int i) := by simp only [Den]
theorem den_bl {b : Bool} : Den K F (.bl b) (.bl b) := by simp only [Den]
theorem den_non : Den K F .non .non := by simp only [Den]
theorem den_str {x : Str} : Den K F (.str x) (.str x) := by simp only [Den]
theorem den_ty {x : String} : Den K F (.ty x) (.ty x) := by simp only [Den]
theorem den_tup {a : Addr} {vs : List V} {ds : List D} (h : SqT K F a vs) (r : DenL K F ds vs) : Den K F (.tup ds) (.ref a) := by
  simp only [Den]; exact ⟨a, vs, rfl, h, r⟩
theorem den_lst {a : Addr} {vs : List V} {ds : List D} (h : SqL K F a vs) (r : DenL K F ds vs) : Den K F (.lst ds) (.ref a) := by
  simp only [Den]; exact ⟨a, vs, rfl, h, r⟩
theorem denL_nil : DenL K F [] [] := by simp only [DenL]
theorem denL_cons {d : D} {v : V} {ds : List D} {vs : List V} (h : Den K F d v) (r : DenL K F ds vs) : DenL K F (d :: ds) (v :: vs) := by
  simp only [DenL]; exact ⟨v, vs, rfl, h, r⟩
theorem DenL.length : ∀ {ds : List D} {vs : List V}, DenL K F ds vs → ds.length = vs.length
  | [], vs, h => by simp only [DenL] at h; subst h; rfl
  | d :: ds, vs, h => by
    simp only [DenL] at h
    obtain ⟨v, r, rfl, _, b⟩ := h
    simp [DenL.length b]
theorem DenL.get : ∀ {ds : List D} {vs : List V} {i : Nat} {d : D}, DenL K F ds vs → ds[i]? = some d → ∃ v, vs[i]? = some v ∧ Den K F d v
  | [], vs, i, d, h, e => by simp at e
  | x :: ds, vs, i, d, h, e => by
    simp only [DenL] at h
    obtain ⟨v, r, rfl, a, b⟩ := h
    cases i with
    | zero => simp at e; subst e; exact ⟨v, rfl, a⟩
    | succ i => simpa using DenL.get b (by simpa using e)
theorem DenL.getV : ∀ {ds : List D} {vs : List V} {i : Nat} {v : V}, DenL K F ds vs → vs[i]? = some v → ∃ d, ds[i]? = some d ∧ Den K F d v
  | [], vs, i, d, h, e => by simp only [DenL] at h; subst h; simp at e
  | x :: ds, vs, i, d, h, e => by
    simp only [DenL] at h
    obtain ⟨v, r, rfl, a, b⟩ := h
    cases i with
    | zero => simp at e; subst e; exact ⟨x, rfl, a⟩
    | succ i => simpa using DenL.getV b (by simpa using e)
theorem DenL.append : ∀ {ds es : List D} {vs us : List V}, DenL K F ds vs → DenL K F es us → DenL K F (ds ++ es) (vs ++ us)
  | [], es, vs, us, h, g => by simp only [DenL] at h; subst h; exact g
  | x :: ds, es, vs, us, h, g => by
    simp only [DenL] at h
    obtain ⟨v, r, rfl, a, b⟩ := h
    exact denL_cons a (DenL.append b g)
theorem DenL.take : ∀ {ds : List D} {vs : List V} (n : Nat), DenL K F ds vs → DenL K F (ds.take n) (vs.take n)
  | _, _, 0, _ => by simpa using denL_nil
  | [], vs, n + 1, h => by simp only [DenL] at h; subst h; simpa using denL_nil
  | x :: ds, vs, n + 1, h => by
    simp only [DenL] at h
    obtain ⟨v, r, rfl, a, b⟩ := h
    exact denL_cons a (DenL.take n b)
theorem DenL.drop : ∀ {ds : List D} {vs : List V} (n : Nat), DenL K F ds vs → DenL K F (ds.drop n) (vs.drop n)
  | _, _, 0, h => by simpa using h
  | [], vs, n + 1, h => by simp only [DenL] at h; subst h; simpa using denL_nil
  | x :: ds, vs, n + 1, h => by
    simp only [DenL] at h
    obtain ⟨v, r, rfl, a, b⟩ := h
    exact DenL.drop n b
theorem DenL.set {x : D} {v : V} (q : Den K F x v) : ∀ {ds : List D} {vs : List V} (n : Nat), DenL K F ds vs → DenL K F (ds.set n x) (vs.set n v)
  | [], vs, n, h => by simp only [DenL] at h; subst h; simpa using denL_nil
  | y :: ds, vs, 0, h => by
    simp only [DenL] at h
    obtain ⟨w, r, rfl, a, b⟩ := h
    exact denL_cons q b
  | y :: ds, vs, n + 1, h => by
    simp only [DenL] at h
    obtain ⟨w, r, rfl, a, b⟩ := h
    exact denL_cons a (DenL.set q n b)
theorem denL_ints (ns : List Int) : DenL K F (ns.map D.int) (ns.map V.int) := by
  induction ns with
  | nil => exact denL_nil
  | cons n r ih => exact denL_cons den_int ih
end
mutual
def hsD : D → Int
  | .int i => hashInt i
  | .tup ds => reduceHash (Builtin.Tuple.tupleHashOf (hsDs ds))
  | .non => 4238894112
  | _ => 0
def hsDs : List D → List Int
  | [] => []
  | d :: ds => hsD d :: hsDs ds
end
def DictHas (h : Heap) (d : Addr) (es : Array DictEntry) (ep : Nat) : Prop := ∃ o, h.get? d = some o ∧ o.ExactDict ∧ o.data = .dict es ep
def EntR (row : Int × V × V) (e : DictEntry) : Prop := e.hash = row.1 ∧ RelV row.2.1 e.key ∧ RelV row.2.2 e.val
def DNo (p : Addr) (ep : Nat) (rows : List (Int × V × V)) : HO := .ext fun h => rows.length ≤ sizeLine ∧ (p == sysModules) = false ∧ ∃ es, DictHas h p es ep ∧ Paired EntR rows es.toList
def rowsN (kvs : List (D × D)) (us vs : List V) : List (Int × V × V) := (kvs.map fun kv => hsD kv.1).zip (us.zip vs)
inductive Lo where
  | d (x : D) | own (xs : List D) | dic (kvs : List (D × D))
abbrev En := List (Option Lo)
structure Base where
  F : Hp
  H : Hp
  N : Addr → Prop
  nb : ∀ p, N p → H p ≠ none
structure Rep (K : PySem.W.Frag) (B : Base) (F H : Hp) (σ : St) (e : En) : Prop where
  f0 : Same B.F F
  fh : Same F H
  h0 : Same B.H H
  nf : ∀ p, B.N p → F p = none
  dv : ∀ (i : Nat) x, e[i]? = some (some (.d x)) → ∃ v, σ[i]? = some (some v) ∧ Den K F x v
  ov : ∀ (i : Nat) xs, e[i]? = some (some (.own xs)) → ∃ p vs, σ[i]? = some (some (.ref p)) ∧ H p = some (.lst vs) ∧ F p = none ∧ B.H p = none ∧ DenL K F xs vs
  ne : ∀ (i j : Nat) xs ys p, i ≠ j → e[i]? = some (some (.own xs)) → e[j]? = some (some (.own ys)) → σ[i]? = some (some (.ref p)) → σ[j]? = some (some (.ref p)) → False
  mv : ∀ (i : Nat) kvs, e[i]? = some (some (.dic kvs)) → ∃ p ep us vs, σ[i]? = some (some (.ref p)) ∧ H p = some (DNo p ep (rowsN kvs us vs)) ∧ F p = none ∧ B.H p = none ∧ DenL K F (kvs.map (·.1)) us ∧ DenL K F (kvs.map (·.2)) vs
  nm : ∀ (i j : Nat) xs ys p, i ≠ j → e[i]? = some (some (.dic xs)) → e[j]? = some (some (.dic ys)) → σ[i]? = some (some (.ref p)) → σ[j]? = some (some (.ref p)) → False
section
variable {K : PySem.W.Frag} {B : Base} {F H F' H' : Hp} {σ : St} {e : En}
theorem Rep.ext (r : Rep K B F H σ e) (a : Same F F') (b : Same F' H') (c : Same H H') (n : ∀ p, H p ≠ none → F p = none → F' p = none) : Rep K B F' H' σ e where
  f0 := r.f0.trans a
  fh := b
  h0 := r.h0.trans c
  nf := fun p hp => by
    refine n p (fun z => ?_) (r.nf p hp)
    have q := B.nb p hp
    cases w : B.H p with
    | none => exact q w
    | some o => rw [r.h0 _ _ w] at z; cases z
  dv := fun i x h => let ⟨v, h1, h2⟩ := r.dv i x h; ⟨v, h1, Den.mono a _ _ h2⟩
  ov := fun i xs h => by
    obtain ⟨p, vs, h1, h2, h3, h4, h5⟩ := r.ov i xs h
    exact ⟨p, vs, h1, c _ _ h2, n p (by rw [h2]; simp) h3, h4, DenL.mono a _ _ h5⟩
  ne := r.ne
  mv := fun i xs h => by
    obtain ⟨p, ep, us, vs, h1, h2, h3, h4, h5, h6⟩ := r.mv i xs h
    exact ⟨p, ep, us, vs, h1, c _ _ h2, n p (by rw [h2]; simp) h3, h4, DenL.mono a _ _ h5, DenL.mono a _ _ h6⟩
  nm := r.nm
theorem Rep.fnone (r : Rep K B F H σ e) {p : Addr} (h : H p = none) : F p = none := r.fh.free h
theorem same_upd {H : Hp} {p : Addr} {o : HO} (h : H p = none) : Same H (upd H p o) := fun b u q => by rw [upd_ne (ne_of_none q h)]; exact q
theorem same_upd2 {F H : Hp} {p : Addr} {o : HO} (h : Same F H) : Same (upd F p o) (upd H p o) := fun b u q => by
  by_cases e : b = p
  · subst e; rw [upd_same] at q ⊢; exact q
  · rw [upd_ne e] at q ⊢; exact h _ _ q
theorem Rep.laid (r : Rep K B F H σ e) {p : Addr} {o : HO} (h : H p = none) : Rep K B (upd F p o) (upd H p o) σ e ∧ Same F (upd F p o) := by
  have hf := r.fnone h
  refine ⟨r.ext (same_upd hf) (same_upd2 r.fh) (same_upd h) fun q hq hn => ?_, same_upd hf⟩
  by_cases z : q = p
  · subst z; exact absurd h hq
  · rw [upd_ne z]; exact hn
theorem Rep.loose (r : Rep K B F H σ e) {p : Addr} {o : HO} (h : H p = none) : Rep K B F (upd H p o) σ e :=
  r.ext (Same.refl _) (r.fh.trans (same_upd h)) (same_upd h) fun _ _ hn => hn
theorem Rep.now (r : Rep K B F H σ e) : Rep K ⟨F, B.H, B.N, B.nb⟩ F H σ e := ⟨Same.refl _, r.fh, r.h0, r.nf, r.dv, r.ov, r.ne, r.mv, r.nm⟩
theorem Rep.back {G : Hp} (s : Same B.F G) (r : Rep K ⟨G, B.H, B.N, B.nb⟩ F H σ e) : Rep K B F H σ e := ⟨s.trans r.f0, r.fh, r.h0, r.nf, r.dv, r.ov, r.ne, r.mv, r.nm⟩
theorem set_dic_ne {e : En} {i j : Nat} {l : Lo} {kvs : List (D × D)} (hl : ∀ z, l ≠ .dic z) (q : (e.set i (some l))[j]? = some (some (.dic kvs))) : i ≠ j := fun z => by
  subst z
  by_cases w : i < e.length
  · rw [List.getElem?_set_self w] at q; cases q; exact hl _ rfl
  · rw [List.getElem?_eq_none (by simpa using w)] at q; cases q
theorem Rep.set (r : Rep K B F H σ e) {i : Nat} {v : V} {x : D} (h : Den K F x v) (hl : i < σ.length) : Rep K B F H (σ.set i (some v)) (e.set i (some (.d x))) where
  f0 := r.f0
  fh := r.fh
  h0 := r.h0
  nf := r.nf
  dv := fun j y q => by
    by_cases z : i = j
    · subst z
      by_cases w : i < e.length
      · rw [List.getElem?_set_self w] at q
        cases q
        exact ⟨v, List.getElem?_set_self hl, h⟩
      · rw [List.getElem?_eq_none (by simpa using w)] at q; cases q
    · rw [List.getElem?_set_ne z] at q ⊢; exact r.dv j y q
  ov := fun j y q => by
    by_cases z : i = j
    · subst z
      by_cases w : i < e.length
      · rw [List.getElem?_set_self w] at q; cases q
      · rw [List.getElem?_eq_none (by simpa using w)] at q; cases q
    · rw [List.getElem?_set_ne z] at q ⊢; exact r.ov j y q
  ne := fun j k xs ys p hjk q1 q2 q3 q4 => by
    have own_ne : ∀ (j : Nat) (ys : List D), (e.set i (some (.d x)))[j]? = some (some (.own ys)) → i ≠ j := fun j ys q z => by
      subst z
      by_cases w : i < e.length
      · rw [List.getElem?_set_self w] at q; cases q
      · rw [List.getElem?_eq_none (by simpa using w)] at q; cases q
    have z1 := own_ne j xs q1
    have z2 := own_ne k ys q2
    rw [List.getElem?_set_ne z1] at q1 q3
    rw [List.getElem?_set_ne z2] at q2 q4
    exact r.ne j k xs ys p hjk q1 q2 q3 q4
  mv := fun j y q => by
    have z : i ≠ j := set_dic_ne (fun _ w => by cases w) q
    rw [List.getElem?_set_ne z] at q ⊢; exact r.mv j y q
  nm := fun j k xs ys p hjk q1 q2 q3 q4 => by
    have z1 := set_dic_ne (fun _ w => by cases w) q1
    have z2 := set_dic_ne (fun _ w => by cases w) q2
    rw [List.getElem?_set_ne z1] at q1 q3
    rw [List.getElem?_set_ne z2] at q2 q4
    exact r.nm j k xs ys p hjk q1 q2 q3 q4
theorem Rep.setOwn (r : Rep K B F H σ e) {i : Nat} {p : Addr} {vs : List V} {xs : List D} (h : H p = none) (hd : DenL K F xs vs) (hl : i < σ.length) :
    Rep K B F (upd H p (.lst vs)) (σ.set i (some (.ref p))) (e.set i (some (.own xs))) := by
  have r1 := r.loose (o := .lst vs) h
  have hb : B.H p = none := r.h0.free h
  have old : ∀ (j : Nat) (ys : List D), e[j]? = some (some (.own ys)) → σ[j]? ≠ some (some (.ref p)) := fun j ys q z => by
    obtain ⟨q1, _, h1, h2, _⟩ := r.ov j ys q
    rw [z] at h1; cases h1; rw [h] at h2; cases h2
  refine ⟨r1.f0, r1.fh, r1.h0, r1.nf, fun j y q => ?_, fun j y q => ?_, fun j k ys zs q hjk q1 q2 q3 q4 => ?_, fun j y q => ?_, fun j k ys zs q hjk q1 q2 q3 q4 => ?_⟩
  · by_cases z : i = j
    · subst z
      by_cases w : i < e.length
      · rw [List.getElem?_set_self w] at q; cases q
      · rw [List.getElem?_eq_none (by simpa using w)] at q; cases q
    · rw [List.getElem?_set_ne z] at q ⊢; exact r1.dv j y q
  · by_cases z : i = j
    · subst z
      by_cases w : i < e.length
      · rw [List.getElem?_set_self w] at q
        cases q
        exact ⟨p, vs, List.getElem?_set_self hl, upd_same, r.fnone h, hb, hd⟩
      · rw [List.getElem?_eq_none (by simpa using w)] at q; cases q
    · rw [List.getElem?_set_ne z] at q ⊢; exact r1.ov j y q
  · by_cases z1 : i = j
    · subst z1
      rw [List.getElem?_set_ne hjk] at q2 q4
      by_cases w : i < e.length
      · rw [List.getElem?_set_self hl] at q3
        cases q3
        exact old k zs q2 q4
      · rw [List.getElem?_eq_none (by simpa using w)] at q1; cases q1
    · rw [List.getElem?_set_ne z1] at q1 q3
      by_cases z2 : i = k
      · subst z2
        rw [List.getElem?_set_self hl] at q4
        cases q4
        exact old j ys q1 q3
      · rw [List.getElem?_set_ne z2] at q2 q4
        exact r.ne j k ys zs q hjk q1 q2 q3 q4
  · have z : i ≠ j := set_dic_ne (fun _ w => by cases w) q
    rw [List.getElem?_set_ne z] at q ⊢; exact r1.mv j y q
  · have z1 := set_dic_ne (fun _ w => by cases w) q1
    have z2 := set_dic_ne (fun _ w => by cases w) q2
    rw [List.getElem?_set_ne z1] at q1 q3
    rw [List.getElem?_set_ne z2] at q2 q4
    exact r.nm j k ys zs q hjk q1 q2 q3 q4
theorem Rep.change (r : Rep K B F H σ e) {i : Nat} {p : Addr} {vs : List V} {xs ys : List D} (h : e[i]? = some (some (.own xs))) (hp : σ[i]? = some (some (.ref p))) (hd : DenL K F ys vs) :
    Rep K B F (upd H p (.lst vs)) σ (e.set i (some (.own ys))) := by
  obtain ⟨p', _, h1, h2, h3, h4, _⟩ := r.ov i xs h
  rw [hp] at h1; cases h1
  have wl : i < e.length := (List.getElem?_eq_some_iff.mp h).1
  have fk : ∀ q o, F q = some o → q ≠ p := fun q o z w => by subst w; rw [h3] at z; cases z
  have bk : ∀ q o, B.H q = some o → q ≠ p := fun q o z w => by subst w; rw [h4] at z; cases z
  have ownAt : ∀ (j : Nat) (zs : List D), (e.set i (some (.own ys)))[j]? = some (some (.own zs)) → ∃ ws, e[j]? = some (some (.own ws)) := fun j zs q => by
    by_cases z : i = j
    · subst z; exact ⟨xs, h⟩
    · rw [List.getElem?_set_ne z] at q; exact ⟨zs, q⟩
  refine ⟨r.f0, fun b o z => by rw [upd_ne (fk b o z)]; exact r.fh _ _ z, fun b o z => by rw [upd_ne (bk b o z)]; exact r.h0 _ _ z, r.nf, fun j y q => ?_, fun j y q => ?_, fun j k as bs q hjk q1 q2 q3 q4 => ?_, fun j y q => ?_, fun j k as bs q hjk q1 q2 q3 q4 => ?_⟩
  · by_cases z : i = j
    · subst z; rw [List.getElem?_set_self wl] at q; cases q
    · rw [List.getElem?_set_ne z] at q; exact r.dv j y q
  · by_cases z : i = j
    · subst z
      rw [List.getElem?_set_self wl] at q
      cases q
      exact ⟨p, vs, hp, upd_same, h3, h4, hd⟩
    · rw [List.getElem?_set_ne z] at q
      obtain ⟨p2, us, g1, g2, g3, g4, g5⟩ := r.ov j y q
      have : p2 ≠ p := fun w => by subst w; exact r.ne j i y xs p2 (Ne.symm z) q h g1 hp
      exact ⟨p2, us, g1, by rw [upd_ne this]; exact g2, g3, g4, g5⟩
  · obtain ⟨as', w1⟩ := ownAt j as q1
    obtain ⟨bs', w2⟩ := ownAt k bs q2
    exact r.ne j k as' bs' q hjk w1 w2 q3 q4
  · have z : i ≠ j := set_dic_ne (fun _ w => by cases w) q
    rw [List.getElem?_set_ne z] at q
    obtain ⟨p2, ep, us, ws, g1, g2, g3, g4, g5, g6⟩ := r.mv j y q
    have : p2 ≠ p := fun w => by subst w; rw [h2] at g2; cases g2
    exact ⟨p2, ep, us, ws, g1, by rw [upd_ne this]; exact g2, g3, g4, g5, g6⟩
  · have z1 := set_dic_ne (fun _ w => by cases w) q1
    have z2 := set_dic_ne (fun _ w => by cases w) q2
    rw [List.getElem?_set_ne z1] at q1
    rw [List.getElem?_set_ne z2] at q2
    exact r.nm j k as bs q hjk q1 q2 q3 q4
theorem Rep.freeze (r : Rep K B F H σ e) {i : Nat} {xs : List D} (h : e[i]? = some (some (.own xs))) : ∃ F', Same F F' ∧ Rep K B F' H σ (e.set i (some (.d (.lst xs)))) := by
  obtain ⟨p, vs, h1, h2, h3, h4, h5⟩ := r.ov i xs h
  have wl : i < e.length := (List.getElem?_eq_some_iff.mp h).1
  have s1 : Same F (upd F p (.lst vs)) := same_upd h3
  refine ⟨upd F p (.lst vs), s1, r.f0.trans s1, fun b o z => ?_, r.h0, fun q hq => ?_, fun j y q => ?_, fun j y q => ?_, fun j k as bs q hjk q1 q2 q3 q4 => ?_, fun j y q => ?_, fun j k as bs q hjk q1 q2 q3 q4 => ?_⟩
  · by_cases w : b = p
    · subst w; rw [upd_same] at z; cases z; exact h2
    · rw [upd_ne w] at z; exact r.fh _ _ z
  · have : q ≠ p := fun w => by subst w; exact B.nb _ hq h4
    rw [upd_ne this]; exact r.nf q hq
  · by_cases z : i = j
    · subst z
      rw [List.getElem?_set_self wl] at q
      cases q
      exact ⟨_, h1, den_lst (SqL.of upd_same) (DenL.mono s1 _ _ h5)⟩
    · rw [List.getElem?_set_ne z] at q
      obtain ⟨v, a, b⟩ := r.dv j y q
      exact ⟨v, a, Den.mono s1 _ _ b⟩
  · by_cases z : i = j
    · subst z; rw [List.getElem?_set_self wl] at q; cases q
    · rw [List.getElem?_set_ne z] at q
      obtain ⟨p2, us, g1, g2, g3, g4, g5⟩ := r.ov j y q
      have : p2 ≠ p := fun w => by subst w; exact r.ne j i y xs p2 (Ne.symm z) q h g1 h1
      exact ⟨p2, us, g1, g2, by rw [upd_ne this]; exact g3, g4, DenL.mono s1 _ _ g5⟩
  · have ownAt : ∀ (j : Nat) (zs : List D), (e.set i (some (.d (.lst xs))))[j]? = some (some (.own zs)) → e[j]? = some (some (.own zs)) := fun j zs q => by
      by_cases z : i = j
      · subst z; rw [List.getElem?_set_self wl] at q; cases q
      · rw [List.getElem?_set_ne z] at q; exact q
    exact r.ne j k as bs q hjk (ownAt j as q1) (ownAt k bs q2) q3 q4
  · have z : i ≠ j := set_dic_ne (fun _ w => by cases w) q
    rw [List.getElem?_set_ne z] at q
    obtain ⟨p2, ep, us, ws, g1, g2, g3, g4, g5, g6⟩ := r.mv j y q
    have : p2 ≠ p := fun w => by subst w; rw [h2] at g2; cases g2
    exact ⟨p2, ep, us, ws, g1, g2, by rw [upd_ne this]; exact g3, g4, DenL.mono s1 _ _ g5, DenL.mono s1 _ _ g6⟩
  · have z1 := set_dic_ne (fun _ w => by cases w) q1
    have z2 := set_dic_ne (fun _ w => by cases w) q2
    rw [List.getElem?_set_ne z1] at q1
    rw [List.getElem?_set_ne z2] at q2
    exact r.nm j k as bs q hjk q1 q2 q3 q4
end
end L2.L3
set_option Elab.async false
set_option linter.all false
set_option maxRecDepth 100000
set_option maxHeartbeats 4000000
namespace L2.L3
open PySem PySem.Spec PyProof.Rows
def notStar : Expr → Bool
  | .Starred _ _ => false
  | _ => true
theorem star_of {e : Expr} {es : List Expr} {env : Env} (h : notStar e = true) : starEach (e :: es) env = (false, eval e env) :: starEach es env := by
  cases e <;> first | rfl | cases h
abbrev TD := En → (D → Prop) → Prop
abbrev TB := En → (Bool → Prop) → Prop
abbrev TDs := En → (List D → Prop) → Prop
structure Ends3 where
  nx : En → Prop
  rt : D → Prop
  bk : En → Prop := fun _ => False
  ct : En → Prop := fun _ => False
abbrev TS3 := Ends3 → En → Prop
def wE (X : Cx) (e : Expr) : TE := fun σ H Q => ∀ (pins : List (Addr × Obj)) (s : Shared), Inv X pins σ H s → wpAny (model X.prog X.w) X.A (eval e X.env) (EP X pins σ Q) X.xe s
def wT (X : Cx) (e : Expr) : TT := fun σ H Q => ∀ (pins : List (Addr × Obj)) (s : Shared), Inv X pins σ H s → wpAny (model X.prog X.w) X.A (isTrue e X.env (eval e X.env)) (TP X pins σ Q) X.xe s
def wW (X : Cx) (e : Expr) : TT := fun σ H Q => ∀ (whole : Sem Value) (pins : List (Addr × Obj)) (s : Shared), Inv X pins σ H s → wpAny (model X.prog X.w) X.A (isTrue e X.env whole) (TP X pins σ Q) X.xe s
def wA (X : Cx) (es : List Expr) : TA := fun σ H Q => ∀ (pos : Pos) (pins : List (Addr × Obj)) (s : Shared), Inv X pins σ H s → wpAny (model X.prog X.w) X.A (spliced (backTo pos (starEach es X.env))) (AP X pins σ Q) X.xe s
def wS (X : Cx) (st : Stmt) : TS := fun D σ H => ∀ (pins : List (Addr × Obj)) (s : Shared), Inv X pins σ H s → wpAny (model X.prog X.w) X.A (exec st X.env) (SP X pins D) X.xe s
def wSs (X : Cx) (st : List Stmt) : TS := fun D σ H => ∀ (pins : List (Addr × Obj)) (s : Shared), Inv X pins σ H s → wpAny (model X.prog X.w) X.A (execs st X.env) (SP X pins D) X.xe s
section
variable {X : Cx} {e : Expr} {es : List Expr} {st : Stmt} {sts : List Stmt} {σ : St} {H : Hp}
theorem pe_w : PE X e (wE X e) := fun pins s σ H Q I h => h pins s I
theorem pt_w : PT X e (wT X e) := fun pins s σ H Q I h => h pins s I
theorem pw_w : PW X e (wW X e) := fun wh pins s σ H Q I h => h wh pins s I
theorem pa_w : PA X es (wA X es) := fun pos pins s σ H Q I h => h pos pins s I
theorem ps_w : PS X st (wS X st) := fun pins s σ H D I h => h pins s I
theorem pss_w : PSs X sts (wSs X sts) := fun pins s σ H D I h => h pins s I
theorem wE_of {te : TE} {Q : VK} (h : PE X e te) (q : te σ H Q) : wE X e σ H Q := fun pins s I => h pins s σ H Q I q
theorem wT_of {te : TT} {Q : Bool → Hp → Prop} (h : PT X e te) (q : te σ H Q) : wT X e σ H Q := fun pins s I => h pins s σ H Q I q
theorem wW_of {te : TT} {Q : Bool → Hp → Prop} (h : PW X e te) (q : te σ H Q) : wW X e σ H Q := fun wh pins s I => h wh pins s σ H Q I q
theorem wA_of {te : TA} {Q : List V → Hp → Prop} (h : PA X es te) (q : te σ H Q) : wA X es σ H Q := fun pos pins s I => h pos pins s σ H Q I q
theorem wS_of {te : TS} {D : Ends} (h : PS X st te) (q : te D σ H) : wS X st D σ H := fun pins s I => h pins s σ H D I q
theorem wSs_of {te : TS} {D : Ends} (h : PSs X sts te) (q : te D σ H) : wSs X sts D σ H := fun pins s I => h pins s σ H D I q
theorem wE_mono {Q Q' : VK} (h : wE X e σ H Q) (i : ∀ v H', Q v H' → Q' v H') : wE X e σ H Q' := fun pins s I => thn (h pins s I) fun _ _ ⟨v, H', I', r, q⟩ => ⟨v, H', I', r, i v H' q⟩
theorem wT_mono {Q Q' : Bool → Hp → Prop} (h : wT X e σ H Q) (i : ∀ v H', Q v H' → Q' v H') : wT X e σ H Q' := fun pins s I => thn (h pins s I) fun b _ ⟨H', I', q⟩ => ⟨H', I', i b H' q⟩
theorem wW_mono {Q Q' : Bool → Hp → Prop} (h : wW X e σ H Q) (i : ∀ v H', Q v H' → Q' v H') : wW X e σ H Q' := fun wh pins s I => thn (h wh pins s I) fun b _ ⟨H', I', q⟩ => ⟨H', I', i b H' q⟩
theorem wA_mono {Q Q' : List V → Hp → Prop} (h : wA X es σ H Q) (i : ∀ v H', Q v H' → Q' v H') : wA X es σ H Q' := fun pos pins s I => thn (h pos pins s I) fun _ _ ⟨v, H', I', r, q⟩ => ⟨v, H', I', r, i v H' q⟩
theorem SP_mono {pins : List (Addr × Obj)} {D D' : Ends} {f : Flow} {s' : Shared} (h : SP X pins D f s') (nx : ∀ σ H, D.nx σ H → D'.nx σ H) (rt : ∀ v H, D.rt v H → D'.rt v H) (bk : ∀ σ H, D.bk σ H → D'.bk σ H) (ct : ∀ σ H, D.ct σ H → D'.ct σ H) : SP X pins D' f s' := by
  cases f with
  | next => obtain ⟨σ', H', I, q⟩ := h; exact ⟨σ', H', I, nx _ _ q⟩
  | brk => obtain ⟨σ', H', I, q⟩ := h; exact ⟨σ', H', I, bk _ _ q⟩
  | cont => obtain ⟨σ', H', I, q⟩ := h; exact ⟨σ', H', I, ct _ _ q⟩
  | ret u => obtain ⟨v, σ', H', I, r, q⟩ := h; exact ⟨v, σ', H', I, r, rt _ _ q⟩
theorem wS_mono {D D' : Ends} (h : wS X st D σ H) (nx : ∀ σ H, D.nx σ H → D'.nx σ H) (rt : ∀ v H, D.rt v H → D'.rt v H) (bk : ∀ σ H, D.bk σ H → D'.bk σ H) (ct : ∀ σ H, D.ct σ H → D'.ct σ H) : wS X st D' σ H :=
  fun pins s I => thn (h pins s I) fun _ _ q => SP_mono q nx rt bk ct
theorem wSs_mono {D D' : Ends} (h : wSs X sts D σ H) (nx : ∀ σ H, D.nx σ H → D'.nx σ H) (rt : ∀ v H, D.rt v H → D'.rt v H) (bk : ∀ σ H, D.bk σ H → D'.bk σ H) (ct : ∀ σ H, D.ct σ H → D'.ct σ H) : wSs X sts D' σ H :=
  fun pins s I => thn (h pins s I) fun _ _ q => SP_mono q nx rt bk ct
end
def RV (X : Cx) (B : Base) (σ : St) (env : En) (F : Hp) (Q : D → Prop) : VK := fun v H' => ∃ F' d, Rep X.K B F' H' σ env ∧ Same F F' ∧ Den X.K F' d v ∧ Q d
def RB (X : Cx) (B : Base) (σ : St) (env : En) (F : Hp) (Q : Bool → Prop) : Bool → Hp → Prop := fun b H' => ∃ F', Rep X.K B F' H' σ env ∧ Same F F' ∧ Q b
def RA (X : Cx) (B : Base) (σ : St) (env : En) (F : Hp) (Q : List D → Prop) : List V → Hp → Prop := fun vs H' => ∃ F' ds, Rep X.K B F' H' σ env ∧ Same F F' ∧ DenL X.K F' ds vs ∧ Q ds
def RS (X : Cx) (B : Base) (D : Ends3) : Ends where
  nx := fun σ' H' => ∃ F' env', Rep X.K B F' H' σ' env' ∧ D.nx env'
  rt := fun v H' => ∃ F' d, Rep X.K B F' H' [] [] ∧ Den X.K F' d v ∧ D.rt d
  bk := fun σ' H' => ∃ F' env', Rep X.K B F' H' σ' env' ∧ D.bk env'
  ct := fun σ' H' => ∃ F' env', Rep X.K B F' H' σ' env' ∧ D.ct env'
structure QE (X : Cx) (e : Expr) (t : TD) : Prop where
  of ::
  run : ∀ (B : Base) (σ : St) (F H : Hp) (env : En) (Q : D → Prop), Rep X.K B F H σ env → t env Q → wE X e σ H (RV X B σ env F Q)
instance {X : Cx} {e : Expr} {t : TD} : CoeFun (QE X e t) (fun _ => ∀ (B : Base) (σ : St) (F H : Hp) (env : En) (Q : D → Prop), Rep X.K B F H σ env → t env Q → wE X e σ H (RV X B σ env F Q)) := ⟨QE.run⟩
structure QT (X : Cx) (e : Expr) (t : TB) : Prop where
  of ::
  run : ∀ (B : Base) (σ : St) (F H : Hp) (env : En) (Q : Bool → Prop), Rep X.K B F H σ env → t env Q → wT X e σ H (RB X B σ env F Q)
instance {X : Cx} {e : Expr} {t : TB} : CoeFun (QT X e t) (fun _ => ∀ (B : Base) (σ : St) (F H : Hp) (env : En) (Q : Bool → Prop), Rep X.K B F H σ env → t env Q → wT X e σ H (RB X B σ env F Q)) := ⟨QT.run⟩
structure QW (X : Cx) (e : Expr) (t : TB) : Prop where
  of ::
  run : ∀ (B : Base) (σ : St) (F H : Hp) (env : En) (Q : Bool → Prop), Rep X.K B F H σ env → t env Q → wW X e σ H (RB X B σ env F Q)
instance {X : Cx} {e : Expr} {t : TB} : CoeFun (QW X e t) (fun _ => ∀ (B : Base) (σ : St) (F H : Hp) (env : En) (Q : Bool → Prop), Rep X.K B F H σ env → t env Q → wW X e σ H (RB X B σ env F Q)) := ⟨QW.run⟩
structure QA (X : Cx) (es : List Expr) (t : TDs) : Prop where
  of ::
  run : ∀ (B : Base) (σ : St) (F H : Hp) (env : En) (Q : List D → Prop), Rep X.K B F H σ env → t env Q → wA X es σ H (RA X B σ env F Q)
instance {X : Cx} {es : List Expr} {t : TDs} : CoeFun (QA X es t) (fun _ => ∀ (B : Base) (σ : St) (F H : Hp) (env : En) (Q : List D → Prop), Rep X.K B F H σ env → t env Q → wA X es σ H (RA X B σ env F Q)) := ⟨QA.run⟩
structure QS (X : Cx) (st : Stmt) (t : TS3) : Prop where
  of ::
  run : ∀ (B : Base) (σ : St) (F H : Hp) (env : En) (D : Ends3), Rep X.K B F H σ env → t D env → wS X st (RS X B D) σ H
instance {X : Cx} {st : Stmt} {t : TS3} : CoeFun (QS X st t) (fun _ => ∀ (B : Base) (σ : St) (F H : Hp) (env : En) (D : Ends3), Rep X.K B F H σ env → t D env → wS X st (RS X B D) σ H) := ⟨QS.run⟩
structure QSs (X : Cx) (st : List Stmt) (t : TS3) : Prop where
  of ::
  run : ∀ (B : Base) (σ : St) (F H : Hp) (env : En) (D : Ends3), Rep X.K B F H σ env → t D env → wSs X st (RS X B D) σ H
instance {X : Cx} {st : List Stmt} {t : TS3} : CoeFun (QSs X st t) (fun _ => ∀ (B : Base) (σ : St) (F H : Hp) (env : En) (D : Ends3), Rep X.K B F H σ env → t D env → wSs X st (RS X B D) σ H) := ⟨QSs.run⟩
section
variable {X : Cx} {a b c e : Expr} {es : List Expr} {ta tb tc : TD} {tA tB' : TB} {ts : TDs} {pos : Pos} {rest : List Expr}
def cVar (i : Nat) : TD := fun env Q => ∃ x, env[i]? = some (some (.d x)) ∧ Q x
def cC (x : D) : TD := fun _ Q => Q x
theorem qv (i : Nat) {x : Str} {pos : Pos} (hN : X.N[i]? = some x := by rfl) (hv : Vis X.env.scope x := by first | exact Or.inl rfl | exact Or.inr (Or.inl rfl) | exact Or.inr (Or.inr rfl)) (hd : (x == ("__debug__" : Str)) = false := by decide)
    (hcd : (x == ("__classdict__" : Str)) = false := by decide) : QE X (.Name x pos) (cVar i) := by
  refine ⟨?_⟩
  intro B σ F H env Q r ⟨x, hx, q⟩
  obtain ⟨v, hv', hd'⟩ := r.dv i x hx
  exact wE_of (pe_var hN hv hd hcd) ⟨v, hv', F, x, r, Same.refl _, hd', q⟩
theorem qc {te : TE} {v : V} {x : D} (h : PE X e (tC v)) (hd : ∀ F, Den X.K F x v) : QE X e (cC x) := ⟨fun B σ F H env Q r q => wE_of h ⟨F, x, r, Same.refl _, hd F, q⟩⟩
theorem qint {i j pos} : QE X (.Constant (.int i) j pos) (cC (.int i)) := qc (te := tC (.int i)) pe_int fun _ => den_int
theorem qbl {b j pos} : QE X (.Constant (.bool b) j pos) (cC (.bl b)) := qc (te := tC (.bl b)) pe_bl fun _ => den_bl
theorem qnon {j pos} : QE X (.Constant .none j pos) (cC .non) := qc (te := tC .non) pe_non fun _ => den_non
theorem qstr {x j pos} : QE X (.Constant (.str x) j pos) (cC (.str x)) := qc (te := tC (.str x)) pe_str fun _ => den_str
theorem qty {x : Str} {n : String} {pos : Pos} (hg : Gl X x) (hm : X.mg x = none) (hv : bootBuiltins x = some (.type n)) (hn : x ≠ "__name__" := by decide) (hd : (x == ("__debug__" : Str)) = false := by decide) : QE X (.Name x pos) (cC (.ty n)) :=
  qc (te := tC (.ty n)) (pe_bltn (v := .ty n) hg hm hv rfl hn hd) fun _ => den_ty
def Kont (X : Cx) (B : Base) (σ : St) (env : En) (F : Hp) (Q : D → Prop) (Z : VK) : Prop := ∀ (v : V) (H' F' : Hp) (d : D), Rep X.K B F' H' σ env → Same F F' → Den X.K F' d v → Q d → Z v H'
def Op3 (X : Cx) (r : R2) (f : D → D → (D → Prop) → Prop) : Prop := ∀ (B : Base) (σ : St) (F H : Hp) (env : En) (Q : D → Prop) (d d' : D) (x y : V) (Z : VK), Rep X.K B F H σ env → Den X.K F d x → Den X.K F d' y → Kont X B σ env F Q Z → f d d' Q → r x y H Z
def cOp (f : D → D → (D → Prop) → Prop) (ta tb : TD) : TD := fun env Q => ta env fun x => tb env fun y => f x y Q
theorem RV.weaken {B : Base} {σ : St} {env : En} {F F' : Hp} {Q : D → Prop} (s : Same F F') {v : V} {H : Hp} (h : RV X B σ env F' Q v H) : RV X B σ env F Q v H := by
  obtain ⟨G, d, r, s', hd, q⟩ := h
  exact ⟨G, d, r, s.trans s', hd, q⟩
theorem two {r : R2} {f : D → D → (D → Prop) → Prop} (hf : Op3 X r f) (ha : QE X a ta) (hb : QE X b tb) {B : Base} {σ : St} {F H : Hp} {env : En} {Q : D → Prop} {Z : VK} (rp : Rep X.K B F H σ env) (hz : Kont X B σ env F Q Z) (h : cOp f ta tb env Q) :
    tOp r (wE X a) (wE X b) σ H Z := by
  refine wE_mono (ha B σ F H env _ rp h) fun x H1 ⟨F1, d, r1, s1, d1, q1⟩ => ?_
  refine wE_mono (hb B σ F1 H1 env _ r1 q1) fun y H2 ⟨F2, d', r2, s2, d2, q2⟩ => ?_
  exact hf B σ F2 H2 env Q d d' x y Z r2 (Den.mono s2 _ _ d1) d2 (fun v H' F' d' r' s' => hz v H' F' d' r' ((s1.trans s2).trans s')) q2
theorem kRV {B : Base} {σ : St} {env : En} {F : Hp} {Q : D → Prop} : Kont X B σ env F Q (RV X B σ env F Q) := fun v H' F' d r s hd q => ⟨F', d, r, s, hd, q⟩
theorem q_op {op : Operator} {r : R2} {f : D → D → (D → Prop) → Prop} (ho : OpR X (binaryOp op) r) (hf : Op3 X r f) (ha : QE X a ta) (hb : QE X b tb) : QE X (.BinOp a op b pos) (cOp f ta tb) :=
  ⟨fun B σ F H env Q rp h => wE_of (pe_op ho pe_w pe_w) (two hf ha hb rp kRV h)⟩
theorem q_cmp {op : CmpOp} {r : R2} {f : D → D → (D → Prop) → Prop} (ho : OpR X (compareOp op) r) (hf : Op3 X r f) (ha : QE X a ta) (hb : QE X b tb) (hm : behindInMarks op b = false) : QE X (.Compare a [op] [b] pos) (cOp f ta tb) :=
  ⟨fun B σ F H env Q rp h => wE_of (pe_cmpR ho pe_w pe_w hm) (two hf ha hb rp kRV h)⟩
def cTest (t : TD) : TB := fun env Q => t env fun x => ∃ k, x = .bl k ∧ Q k
theorem den_bl_inv {K : PySem.W.Frag} {F : Hp} {k : Bool} {v : V} (h : Den K F (.bl k) v) : v = .bl k := by simpa only [Den] using h
theorem qt_cmp {op : CmpOp} {r : R2} {f : D → D → (D → Prop) → Prop} (ho : OpR X (compareOp op) r) (hf : Op3 X r f) (ha : QE X a ta) (hb : QE X b tb) (hm : behindInMarks op b = false) : QT X (.Compare a [op] [b] pos) (cTest (cOp f ta tb)) := by
  refine ⟨?_⟩
  intro B σ F H env Q rp h
  refine wT_of (pt_cmpR ho pe_w pe_w hm) ?_
  show tOp r (wE X a) (wE X b) σ H fun x H' => ∃ k, x = .bl k ∧ RB X B σ env F Q k H'
  refine two hf ha hb rp (fun v H' F' d r' s' hd q => ?_) h
  obtain ⟨k, rfl, q⟩ := q
  exact ⟨k, den_bl_inv hd, F', r', s', q⟩
theorem qt_val {t : TD} (h : QE X e t) (he : ∀ whole, isTrue e X.env whole = (do let v ← whole; standAt e.pos; holding [v] (truthy v)) := by intro _; rfl) : QT X e (cTest t) := by
  refine ⟨?_⟩
  intro B σ F H env Q rp hq
  refine wT_of (pt_val pe_w he) ?_
  refine wE_mono (h B σ F H env _ rp hq) fun v H' w => ?_
  obtain ⟨F', d, r', s', hd, k, rfl, q⟩ := w
  exact ⟨k, den_bl_inv hd, F', r', s', q⟩
def cAnd (t u : TB) : TB := fun env Q => t env fun k => if k = true then u env Q else Q false
def cOr (t u : TB) : TB := fun env Q => t env fun k => if k = true then Q true else u env Q
def cNot (t : TB) : TB := fun env Q => t env fun k => Q (!k)
theorem QW.t (h : QW X e tA) : QT X e tA := ⟨fun B σ F H env Q rp hq pins s I => h B σ F H env Q rp hq _ pins s I⟩
theorem qw_and1 (ha : QT X a tA) : QW X (.BoolOp .And [a] pos) tA := ⟨fun B σ F H env Q rp h => wW_of (pw_and1 pt_w) (ha B σ F H env Q rp h)⟩
theorem qw_or1 (ha : QT X a tA) : QW X (.BoolOp .Or [a] pos) tA := ⟨fun B σ F H env Q rp h => wW_of (pw_or1 pt_w) (ha B σ F H env Q rp h)⟩
theorem qw_and (ha : QT X a tA) (hb : QW X (.BoolOp .And (b :: rest) pos) tB') : QW X (.BoolOp .And (a :: b :: rest) pos) (cAnd tA tB') := by
  refine ⟨?_⟩
  intro B σ F H env Q rp h
  refine wW_of (pw_and pt_w pw_w) ?_
  refine wT_mono (ha B σ F H env _ rp h) fun k H1 ⟨F1, r1, s1, q1⟩ => ?_
  cases k with
  | true => exact wW_mono (hb B σ F1 H1 env Q r1 q1) fun k2 H2 ⟨F2, r2, s2, q2⟩ => ⟨F2, r2, s1.trans s2, q2⟩
  | false => exact ⟨F1, r1, s1, q1⟩
theorem qw_or (ha : QT X a tA) (hb : QW X (.BoolOp .Or (b :: rest) pos) tB') : QW X (.BoolOp .Or (a :: b :: rest) pos) (cOr tA tB') := by
  refine ⟨?_⟩
  intro B σ F H env Q rp h
  refine wW_of (pw_or pt_w pw_w) ?_
  refine wT_mono (ha B σ F H env _ rp h) fun k H1 ⟨F1, r1, s1, q1⟩ => ?_
  cases k with
  | false => exact wW_mono (hb B σ F1 H1 env Q r1 q1) fun k2 H2 ⟨F2, r2, s2, q2⟩ => ⟨F2, r2, s1.trans s2, q2⟩
  | true => exact ⟨F1, r1, s1, q1⟩
theorem qt_not (ha : QT X a tA) : QT X (.UnaryOp .Not a pos) (cNot tA) := ⟨fun B σ F H env Q rp h => wT_of (pt_not pt_w) (wT_mono (ha B σ F H env _ rp h) fun k H1 q => q)⟩
def cAndV (t u : TD) : TD := fun env Q => t env fun x => ∃ k, x = .bl k ∧ if k = true then u env Q else Q (.bl false)
def cOrV (t u : TD) : TD := fun env Q => t env fun x => ∃ k, x = .bl k ∧ if k = true then Q (.bl true) else u env Q
def cNotV (t : TD) : TD := fun env Q => t env fun x => ∃ k, x = .bl k ∧ Q (.bl (!k))
theorem qe_one {op} (h : QE X a ta) : QE X (.BoolOp op [a] pos) ta := ⟨fun B σ F H env Q rp q => wE_of (pe_one pe_w) (h B σ F H env Q rp q)⟩
theorem qe_and (ha : QE X a ta) (hb : QE X (.BoolOp .And (b :: rest) pos) tb) : QE X (.BoolOp .And (a :: b :: rest) pos) (cAndV ta tb) := by
  refine ⟨?_⟩
  intro B σ F H env Q rp h
  refine wE_of (pe_and pe_w pe_w) ?_
  refine wE_mono (ha B σ F H env _ rp h) fun v H1 ⟨F1, d, r1, s1, d1, k, hk, q1⟩ => ?_
  subst hk
  refine ⟨k, den_bl_inv d1, ?_⟩
  cases k with
  | true => exact wE_mono (hb B σ F1 H1 env Q r1 q1) fun v H2 z => z.weaken s1
  | false => exact ⟨F1, _, r1, s1, den_bl, q1⟩
theorem qe_or (ha : QE X a ta) (hb : QE X (.BoolOp .Or (b :: rest) pos) tb) : QE X (.BoolOp .Or (a :: b :: rest) pos) (cOrV ta tb) := by
  refine ⟨?_⟩
  intro B σ F H env Q rp h
  refine wE_of (pe_or pe_w pe_w) ?_
  refine wE_mono (ha B σ F H env _ rp h) fun v H1 ⟨F1, d, r1, s1, d1, k, hk, q1⟩ => ?_
  subst hk
  refine ⟨k, den_bl_inv d1, ?_⟩
  cases k with
  | false => exact wE_mono (hb B σ F1 H1 env Q r1 q1) fun v H2 z => z.weaken s1
  | true => exact ⟨F1, _, r1, s1, den_bl, q1⟩
theorem qe_not (ha : QE X a ta) : QE X (.UnaryOp .Not a pos) (cNotV ta) := by
  refine ⟨?_⟩
  intro B σ F H env Q rp h
  refine wE_of (pe_not pe_w) ?_
  refine wE_mono (ha B σ F H env _ rp h) fun v H1 ⟨F1, d, r1, s1, d1, k, hk, q1⟩ => ?_
  subst hk
  exact ⟨k, den_bl_inv d1, F1, _, r1, s1, den_bl, q1⟩
def cIf (t : TB) (ta tb : TD) : TD := fun env Q => t env fun k => if k = true then ta env Q else tb env Q
def cNil : TDs := fun _ Q => Q []
def cCons (ta : TD) (tr : TDs) : TDs := fun env Q => ta env fun x => tr env fun xs => Q (x :: xs)
theorem qa_nil : QA X [] cNil := ⟨fun B σ F H env Q rp h => wA_of pa_nil ⟨F, [], rp, Same.refl _, denL_nil, h⟩⟩
theorem qa_cons (ha : QE X e ta) (hr : QA X es ts) (hs : starEach (e :: es) X.env = (false, eval e X.env) :: starEach es X.env := by exact star_of rfl) : QA X (e :: es) (cCons ta ts) := by
  refine ⟨?_⟩
  intro B σ F H env Q rp h
  refine wA_of (pa_cons pe_w pa_w hs) ?_
  refine wE_mono (ha B σ F H env _ rp h) fun x H1 ⟨F1, d, r1, s1, d1, q1⟩ => ?_
  exact wA_mono (hr B σ F1 H1 env _ r1 q1) fun xs H2 ⟨F2, ds, r2, s2, d2, q2⟩ => ⟨F2, d :: ds, r2, s1.trans s2, denL_cons (Den.mono s2 _ _ d1) d2, q2⟩
def cTup (t : TDs) : TD := fun env Q => t env fun xs => xs.length ≤ sizeLine ∧ Q (.tup xs)
def cLst (t : TDs) : TD := fun env Q => t env fun xs => xs.length ≤ sizeLine ∧ Q (.lst xs)
theorem RV.newTup {B : Base} {σ : St} {env : En} {F H : Hp} {Q : D → Prop} {ds : List D} {vs : List V} (r : Rep X.K B F H σ env) (hd : DenL X.K F ds vs) (q : Q (.tup ds)) : ∀ p, H p = none → RV X B σ env F Q (.ref p) (upd H p (.tup vs)) := fun p hp => by
  obtain ⟨r2, s2⟩ := r.laid (o := .tup vs) hp
  exact ⟨_, _, r2, s2, den_tup (SqT.of upd_same) (DenL.mono s2 _ _ hd), q⟩
theorem RV.newLst {B : Base} {σ : St} {env : En} {F H : Hp} {Q : D → Prop} {ds : List D} {vs : List V} (r : Rep X.K B F H σ env) (hd : DenL X.K F ds vs) (q : Q (.lst ds)) : ∀ p, H p = none → RV X B σ env F Q (.ref p) (upd H p (.lst vs)) := fun p hp => by
  obtain ⟨r2, s2⟩ := r.laid (o := .lst vs) hp
  exact ⟨_, _, r2, s2, den_lst (SqL.of upd_same) (DenL.mono s2 _ _ hd), q⟩
theorem qe_tup {x1} (h : QA X es ts) : QE X (.Tuple es x1 pos) (cTup ts) := by
  refine ⟨?_⟩
  intro B σ F H env Q rp hq
  refine wE_of (pe_tup pa_w) ?_
  refine wA_mono (h B σ F H env _ rp hq) fun vs H1 ⟨F1, ds, r1, s1, d1, z, q1⟩ => ⟨by rw [← d1.length]; exact z, fun p hp => (RV.newTup r1 d1 q1 p hp).weaken s1⟩
theorem qe_lst (h : QA X es ts) : QE X (.List es pos) (cLst ts) := by
  refine ⟨?_⟩
  intro B σ F H env Q rp hq
  refine wE_of (pe_lst pa_w) ?_
  refine wA_mono (h B σ F H env _ rp hq) fun vs H1 ⟨F1, ds, r1, s1, d1, z, q1⟩ => ⟨by rw [← d1.length]; exact z, fun p hp => (RV.newLst r1 d1 q1 p hp).weaken s1⟩
end
end L2.L3
set_option Elab.async false
set_option linter.all false
set_option maxRecDepth 100000
set_option maxHeartbeats 4000000
namespace L2.L3
open PySem PySem.Spec PyProof.Rows
mutual
def eqD : D → D → Bool
  | .non, .non => true
  | .bl a, .bl b => a == b
  | .bl a, .int b => (if a then 1 else 0) == b
  | .int a, .bl b => a == (if b then 1 else 0)
  | .int a, .int b => a == b
  | .str a, .str b => a == b
  | .tup a, .tup b => eqDs a b
  | .lst a, .lst b => eqDs a b
  | _, _ => false
def eqDs : List D → List D → Bool
  | [], [] => true
  | a :: as, b :: bs => eqD a b && eqDs as bs
  | _, _ => false
end
mutual
def dep : D → Nat
  | .tup ds => depL ds + 1
  | .lst ds => depL ds + 1
  | .dct _ _ => 1000
  | .obj _ => 1000
  | .ty _ => 1000
  | .exc _ => 1000
  | .cls _ => 1000
  | _ => 0
def depL : List D → Nat
  | [] => 0
  | d :: ds => max (dep d) (depL ds)
end
def eAt (ds es : List D) (j : Nat) : Bool := match ds[j]?, es[j]? with
  | some a, some b => eqD a b
  | _, _ => true
theorem range_all_succ (n : Nat) (e : Nat → Bool) : (List.range (n + 1)).all e = (e 0 && (List.range n).all fun i => e (i + 1)) := by
  rw [List.range_succ_eq_map, List.all_cons, List.all_map]; rfl
theorem all_eAt : ∀ ds es : List D, ((List.range (min ds.length es.length)).all (eAt ds es) && (ds.length == es.length)) = eqDs ds es
  | [], [] => by simp [eqDs]
  | [], b :: es => by simp [eqDs]
  | a :: ds, [] => by simp [eqDs]
  | a :: ds, b :: es => by
    have ih := all_eAt ds es
    rw [List.length_cons, List.length_cons, Nat.succ_min_succ, range_all_succ]
    have e1 : eAt (a :: ds) (b :: es) 0 = eqD a b := by simp [eAt]
    have e2 : (fun i => eAt (a :: ds) (b :: es) (i + 1)) = eAt ds es := by funext i; simp [eAt]
    have e3 : (ds.length + 1 == es.length + 1) = (ds.length == es.length) := by
      rw [Bool.eq_iff_iff]; simp
    rw [e1, e2, e3, Bool.and_assoc, ih, eqDs]
section
variable {X : Cx} {pins : List (Addr × Obj)} {σ : St} {H F : Hp} {s : Shared}
theorem Inv.tupNoLst (I : Inv X pins σ H s) {a : Addr} {xs ys : List V} (h : SqT X.K H a xs) (h' : SqL X.K H a ys) : False := by
  obtain ⟨_, _, ⟨o, e1, c1, _⟩, _⟩ := I.tuple h
  obtain ⟨_, _, ⟨o2, _, e2, c2, _⟩, _⟩ := I.list h'
  rw [e1] at e2; cases e2; rw [c1] at c2; injection c2 with z; exact absurd z (by decide)
mutual
theorem den_inj (I : Inv X pins σ H s) (fh : Same F H) : ∀ (d d' : D) (v : V), dep d < 1000 → dep d' < 1000 → Den X.K F d v → Den X.K F d' v → eqD d d' = true
  | .non, d', v, h1, h2, e1, e2 => by
    simp only [Den] at e1; subst e1
    cases d' <;> simp only [Den] at e2 <;> first | rfl | (obtain ⟨a, vs, z, _⟩ := e2; cases z; done) | (obtain ⟨a, z, _⟩ := e2; cases z; done) | cases e2
  | .bl b, d', v, h1, h2, e1, e2 => by
    simp only [Den] at e1; subst e1
    cases d' <;> simp only [Den] at e2 <;> first | (obtain ⟨a, vs, z, _⟩ := e2; cases z; done) | (obtain ⟨a, z, _⟩ := e2; cases z; done) | (cases e2; simp [eqD]; done) | cases e2
  | .int b, d', v, h1, h2, e1, e2 => by
    simp only [Den] at e1; subst e1
    cases d' <;> simp only [Den] at e2 <;> first | (obtain ⟨a, vs, z, _⟩ := e2; cases z; done) | (obtain ⟨a, z, _⟩ := e2; cases z; done) | (cases e2; simp [eqD]; done) | cases e2
  | .str b, d', v, h1, h2, e1, e2 => by
    simp only [Den] at e1; subst e1
    cases d' <;> simp only [Den] at e2 <;> first | (obtain ⟨a, vs, z, _⟩ := e2; cases z; done) | (obtain ⟨a, z, _⟩ := e2; cases z; done) | (cases e2; simp [eqD]; done) | cases e2
  | .ty b, d', v, h1, h2, e1, e2 => by simp [dep] at h1
  | .exc b, d', v, h1, h2, e1, e2 => by simp [dep] at h1
  | .cls b, d', v, h1, h2, e1, e2 => by simp [dep] at h1
  | .dct _ _, d', v, h1, h2, e1, e2 => by simp [dep] at h1
  | .obj _, d', v, h1, h2, e1, e2 => by simp [dep] at h1
  | .tup ds, d', v, h1, h2, e1, e2 => by
    simp only [Den] at e1
    obtain ⟨a, vs, rfl, q, r⟩ := e1
    cases d' with
    | tup es =>
      simp only [Den] at e2
      obtain ⟨a', us, z, q', r'⟩ := e2
      cases z
      have := I.tuple_inj (Same.seqT fh q) (Same.seqT fh q')
      subst this
      simp only [eqD]
      exact denL_inj I fh ds es vs (by simp [dep] at h1; omega) (by simp [dep] at h2; omega) r r'
    | lst es =>
      simp only [Den] at e2
      obtain ⟨a', us, z, q', r'⟩ := e2
      cases z
      exact (Inv.tupNoLst I (Same.seqT fh q) (fh.seq q')).elim
    | dct _ _ => simp [dep] at h2
    | obj _ => simp [dep] at h2
    | exc _ => simp [dep] at h2
    | cls _ => simp [dep] at h2
    | _ => simp only [Den] at e2; cases e2
  | .lst ds, d', v, h1, h2, e1, e2 => by
    simp only [Den] at e1
    obtain ⟨a, vs, rfl, q, r⟩ := e1
    cases d' with
    | lst es =>
      simp only [Den] at e2
      obtain ⟨a', us, z, q', r'⟩ := e2
      cases z
      have := I.list_inj (fh.seq q) (fh.seq q')
      subst this
      simp only [eqD]
      exact denL_inj I fh ds es vs (by simp [dep] at h1; omega) (by simp [dep] at h2; omega) r r'
    | tup es =>
      simp only [Den] at e2
      obtain ⟨a', us, z, q', r'⟩ := e2
      cases z
      exact (Inv.tupNoLst I (Same.seqT fh q') (fh.seq q)).elim
    | dct _ _ => simp [dep] at h2
    | obj _ => simp [dep] at h2
    | exc _ => simp [dep] at h2
    | cls _ => simp [dep] at h2
    | _ => simp only [Den] at e2; cases e2
theorem denL_inj (I : Inv X pins σ H s) (fh : Same F H) : ∀ (ds es : List D) (vs : List V), depL ds < 1000 → depL es < 1000 → DenL X.K F ds vs → DenL X.K F es vs → eqDs ds es = true
  | [], es, vs, h1, h2, e1, e2 => by
    simp only [DenL] at e1; subst e1
    cases es with
    | nil => rfl
    | cons _ _ => simp only [DenL] at e2; obtain ⟨_, _, z, _⟩ := e2; cases z
  | d :: ds, es, vs, h1, h2, e1, e2 => by
    simp only [DenL] at e1
    obtain ⟨v, r, rfl, a, b⟩ := e1
    cases es with
    | nil => simp only [DenL] at e2; cases e2
    | cons e es =>
      simp only [DenL] at e2
      obtain ⟨v', r', z, a', b'⟩ := e2
      cases z
      simp only [depL] at h1 h2
      simp only [eqDs, Bool.and_eq_true]
      exact ⟨den_inj I fh d e v (by omega) (by omega) a a', denL_inj I fh ds es r (by omega) (by omega) b b'⟩
end
theorem units_in1 (A : Around) : A.in1.units = A.units + 1 := rfl
def leafD : D → Bool
  | .non => true
  | .bl _ => true
  | .int _ => true
  | .str _ => true
  | _ => false
theorem rcLeaf (I : Inv X pins σ H s) (fh : Same F H) : ∀ (d d' : D) (A : Around) (x y : V) (u v : Value), leafD d = true → A.units + dep d < cLine → dep d' < 1000 → Den X.K F d x → Den X.K F d' y → RelV x u → RelV y v →
    SeqAt.RcAt A s u v (eqD d d') ∧ SeqAt.RcNeAt A s u v (!eqD d d')
  | .non, d', A, x, y, u, v, lf, hu, h2, e1, e2, r1, r2 => by
    simp only [Den] at e1; subst e1; cases r1
    have hu0 : A.units < cLine := by omega
    cases d' with
    | ty _ => simp [dep] at h2
    | dct _ _ => simp [dep] at h2
    | obj _ => simp [dep] at h2
    | exc _ => simp [dep] at h2
    | cls _ => simp [dep] at h2
    | non => simp only [Den] at e2; subst e2; cases r2; exact ⟨SeqAt.RcAt.none_none, SeqAt.RcNeAt.none_none⟩
    | bl b => simp only [Den] at e2; subst e2; cases r2; exact ⟨SeqAt.RcAt.none_bool b, SeqAt.RcNeAt.none_bool b⟩
    | int b => simp only [Den] at e2; subst e2; obtain ⟨t, rfl⟩ := r2; exact ⟨SeqAt.RcAt.none_int b t, SeqAt.RcNeAt.none_int b t⟩
    | str b => simp only [Den] at e2; subst e2; obtain ⟨t, rfl⟩ := r2; exact ⟨SeqAt.RcAt.none_str b t, SeqAt.RcNeAt.none_str b t⟩
    | tup es =>
      simp only [Den] at e2; obtain ⟨a, vs, rfl, q, r⟩ := e2; cases r2
      obtain ⟨its, rv, ht, hz⟩ := I.tuple (Same.seqT fh q)
      exact ⟨SeqAt.RcAt.none_tuple ht hu0, SeqAt.RcNeAt.none_tuple ht hu0⟩
    | lst es =>
      simp only [Den] at e2; obtain ⟨a, vs, rfl, q, r⟩ := e2; cases r2
      obtain ⟨its, rv, ht, hz⟩ := I.list (fh.seq q)
      exact ⟨SeqAt.RcAt.none_list ht.isList hu0, SeqAt.RcNeAt.none_list ht.isList hu0⟩
  | .bl b', d', A, x, y, u, v, lf, hu, h2, e1, e2, r1, r2 => by
    simp only [Den] at e1; subst e1; cases r1
    have hu0 : A.units < cLine := by omega
    cases d' with
    | ty _ => simp [dep] at h2
    | dct _ _ => simp [dep] at h2
    | obj _ => simp [dep] at h2
    | exc _ => simp [dep] at h2
    | cls _ => simp [dep] at h2
    | non => simp only [Den] at e2; subst e2; cases r2; exact ⟨SeqAt.RcAt.bool_none b', SeqAt.RcNeAt.bool_none b'⟩
    | bl b => simp only [Den] at e2; subst e2; cases r2; exact ⟨by simpa only [eqD] using SeqAt.RcAt.bool_bool b' b, by simpa only [eqD] using SeqAt.RcNeAt.bool_bool b' b⟩
    | int b => simp only [Den] at e2; subst e2; obtain ⟨t, rfl⟩ := r2; exact ⟨by simpa only [eqD] using SeqAt.RcAt.bool_int b' b t, by simpa only [eqD] using SeqAt.RcNeAt.bool_int b' b t⟩
    | str b => simp only [Den] at e2; subst e2; obtain ⟨t, rfl⟩ := r2; exact ⟨SeqAt.RcAt.bool_str b' b t, SeqAt.RcNeAt.bool_str b' b t⟩
    | tup es =>
      simp only [Den] at e2; obtain ⟨a, vs, rfl, q, r⟩ := e2; cases r2
      obtain ⟨its, rv, ht, hz⟩ := I.tuple (Same.seqT fh q)
      exact ⟨SeqAt.RcAt.bool_tuple b' ht hu0, SeqAt.RcNeAt.bool_tuple b' ht hu0⟩
    | lst es =>
      simp only [Den] at e2; obtain ⟨a, vs, rfl, q, r⟩ := e2; cases r2
      obtain ⟨its, rv, ht, hz⟩ := I.list (fh.seq q)
      exact ⟨SeqAt.RcAt.bool_list b' ht.isList hu0, SeqAt.RcNeAt.bool_list b' ht.isList hu0⟩
  | .int b', d', A, x, y, u, v, lf, hu, h2, e1, e2, r1, r2 => by
    simp only [Den] at e1; subst e1; obtain ⟨t', rfl⟩ := r1
    have hu0 : A.units < cLine := by omega
    cases d' with
    | ty _ => simp [dep] at h2
    | dct _ _ => simp [dep] at h2
    | obj _ => simp [dep] at h2
    | exc _ => simp [dep] at h2
    | cls _ => simp [dep] at h2
    | non => simp only [Den] at e2; subst e2; cases r2; exact ⟨SeqAt.RcAt.int_none b' t', SeqAt.RcNeAt.int_none b' t'⟩
    | bl b => simp only [Den] at e2; subst e2; cases r2; exact ⟨by simpa only [eqD] using SeqAt.RcAt.int_bool b' t' b, by simpa only [eqD] using SeqAt.RcNeAt.int_bool b' t' b⟩
    | int b => simp only [Den] at e2; subst e2; obtain ⟨t, rfl⟩ := r2; exact ⟨by simpa only [eqD] using SeqAt.RcAt.int_int b' t' b t, by simpa only [eqD] using SeqAt.RcNeAt.int_int b' t' b t⟩
    | str b => simp only [Den] at e2; subst e2; obtain ⟨t, rfl⟩ := r2; exact ⟨SeqAt.RcAt.int_str b' t' b t, SeqAt.RcNeAt.int_str b' t' b t⟩
    | tup es =>
      simp only [Den] at e2; obtain ⟨a, vs, rfl, q, r⟩ := e2; cases r2
      obtain ⟨its, rv, ht, hz⟩ := I.tuple (Same.seqT fh q)
      exact ⟨SeqAt.RcAt.int_tuple b' t' ht hu0, SeqAt.RcNeAt.int_tuple b' t' ht hu0⟩
    | lst es =>
      simp only [Den] at e2; obtain ⟨a, vs, rfl, q, r⟩ := e2; cases r2
      obtain ⟨its, rv, ht, hz⟩ := I.list (fh.seq q)
      exact ⟨SeqAt.RcAt.int_list b' t' ht.isList hu0, SeqAt.RcNeAt.int_list b' t' ht.isList hu0⟩
  | .str b', d', A, x, y, u, v, lf, hu, h2, e1, e2, r1, r2 => by
    simp only [Den] at e1; subst e1; obtain ⟨t', rfl⟩ := r1
    have hu0 : A.units < cLine := by omega
    cases d' with
    | ty _ => simp [dep] at h2
    | dct _ _ => simp [dep] at h2
    | obj _ => simp [dep] at h2
    | exc _ => simp [dep] at h2
    | cls _ => simp [dep] at h2
    | non => simp only [Den] at e2; subst e2; cases r2; exact ⟨SeqAt.RcAt.str_none b' t', SeqAt.RcNeAt.str_none b' t'⟩
    | bl b => simp only [Den] at e2; subst e2; cases r2; exact ⟨SeqAt.RcAt.str_bool b' t' b, SeqAt.RcNeAt.str_bool b' t' b⟩
    | int b => simp only [Den] at e2; subst e2; obtain ⟨t, rfl⟩ := r2; exact ⟨SeqAt.RcAt.str_int b' t' b t, SeqAt.RcNeAt.str_int b' t' b t⟩
    | str b => simp only [Den] at e2; subst e2; obtain ⟨t, rfl⟩ := r2; exact ⟨by simpa only [eqD] using SeqAt.RcAt.str_str b' t' b t, by simpa only [eqD] using SeqAt.RcNeAt.str_str b' t' b t⟩
    | tup es =>
      simp only [Den] at e2; obtain ⟨a, vs, rfl, q, r⟩ := e2; cases r2
      obtain ⟨its, rv, ht, hz⟩ := I.tuple (Same.seqT fh q)
      exact ⟨SeqAt.RcAt.str_tuple b' t' ht hu0, SeqAt.RcNeAt.str_tuple b' t' ht hu0⟩
    | lst es =>
      simp only [Den] at e2; obtain ⟨a, vs, rfl, q, r⟩ := e2; cases r2
      obtain ⟨its, rv, ht, hz⟩ := I.list (fh.seq q)
      exact ⟨SeqAt.RcAt.str_list b' t' ht.isList hu0, SeqAt.RcNeAt.str_list b' t' ht.isList hu0⟩
  | .ty _, d', A, x, y, u, v, lf, hu, h2, e1, e2, r1, r2 => (by cases lf)
  | .exc _, d', A, x, y, u, v, lf, hu, h2, e1, e2, r1, r2 => (by cases lf)
  | .cls _, d', A, x, y, u, v, lf, hu, h2, e1, e2, r1, r2 => (by cases lf)
  | .dct _ _, d', A, x, y, u, v, lf, hu, h2, e1, e2, r1, r2 => (by cases lf)
  | .obj _, d', A, x, y, u, v, lf, hu, h2, e1, e2, r1, r2 => (by cases lf)
  | .tup _, d', A, x, y, u, v, lf, hu, h2, e1, e2, r1, r2 => (by cases lf)
  | .lst _, d', A, x, y, u, v, lf, hu, h2, e1, e2, r1, r2 => (by cases lf)
theorem eqAt_of (I : Inv X pins σ H s) (fh : Same F H) (d d' : D) (A : Around) (x y : V) (u v : Value) (hu : A.units + dep d < cLine) (h1 : dep d < 1000) (h2 : dep d' < 1000) (e1 : Den X.K F d x) (e2 : Den X.K F d' y) (r1 : RelV x u) (r2 : RelV y v) (k : SeqAt.RcAt A s u v (eqD d d')) :
    SeqAt.EqAt A s u v (eqD d d') := by
  have hu0 : A.units < cLine := by omega
  by_cases z : u = v
  · subst z
    have : x = y := r1.inj r2
    subst this
    rw [den_inj I fh d d' x h1 h2 e1 e2]
    exact SeqAt.EqAt.same u
  · intro prog w E Q hq
    unfold eqBool
    refine wpAny_holding ?_
    refine wpAny_ite_split (fun hab => absurd (eq_of_beq hab) z) (fun _ => ?_)
    have nf : ∀ b t, u ≠ .float b t := fun b t w => by
      subst w
      cases x <;> first | (obtain ⟨_, q⟩ := r1; cases q; done) | (cases r1; done) | skip
      cases d <;> simp only [Den] at e1 <;> first | (cases e1; done) | (obtain ⟨_, _, z, _⟩ := e1; cases z; done) | (obtain ⟨_, z, _⟩ := e1; cases z; done)
    cases u <;> cases v <;> first | exact absurd rfl (nf _ _) | exact wpAny_bind (k prog w E _ (wpAny_truthy_bool hq))
theorem rcSeq (I : Inv X pins σ H s) (fh : Same F H) (ds0 : List D) (d d' : D) (A : Around) (x y : V) (u v : Value) (hl : d = .tup ds0 ∨ d = .lst ds0) (hu : A.units + dep d < cLine) (h1 : dep d < 1000) (h2 : dep d' < 1000) (e1 : Den X.K F d x) (e2 : Den X.K F d' y) (r1 : RelV x u) (r2 : RelV y v)
    (rec : ∀ (es : List D), (d' = .tup es ∨ d' = .lst es) → ∀ (vs1 vs : List V) (its1 its : List Value), DenL X.K F ds0 vs1 → DenL X.K F es vs → Vals vs1 its1 → Vals vs its → ∀ (j : Nat) (h1 : j < its1.length) (h2 : j < its.length), SeqAt.EqAt A.in1 s its1[j] its[j] (eAt ds0 es j)) :
    SeqAt.RcAt A s u v (eqD d d') ∧ SeqAt.RcNeAt A s u v (!eqD d d') := by
  cases d with
  | non => rcases hl with hl | hl <;> cases hl
  | bl _ => rcases hl with hl | hl <;> cases hl
  | int _ => rcases hl with hl | hl <;> cases hl
  | str _ => rcases hl with hl | hl <;> cases hl
  | ty _ => simp [dep] at h1
  | exc _ => simp [dep] at h1
  | cls _ => simp [dep] at h1
  | dct _ _ => simp [dep] at h1
  | obj _ => simp [dep] at h1
  | tup ds =>
    have z : ds = ds0 := by rcases hl with hl | hl <;> cases hl <;> rfl
    subst z
    simp only [Den] at e1; obtain ⟨a1, vs1, rfl, q1, g1⟩ := e1; cases r1
    obtain ⟨its1, rv1, ht1, hz1⟩ := I.tuple (Same.seqT fh q1)
    simp only [dep] at hu h1
    have hu0 : A.units < cLine := by omega
    cases d' with
    | ty _ => simp [dep] at h2
    | dct _ _ => simp [dep] at h2
    | obj _ => simp [dep] at h2
    | exc _ => simp [dep] at h2
    | cls _ => simp [dep] at h2
    | non => simp only [Den] at e2; subst e2; cases r2; exact ⟨SeqAt.RcAt.tuple_none ht1 hu0, SeqAt.RcNeAt.tuple_none ht1 hu0⟩
    | bl b => simp only [Den] at e2; subst e2; cases r2; exact ⟨SeqAt.RcAt.tuple_bool b ht1 hu0, SeqAt.RcNeAt.tuple_bool b ht1 hu0⟩
    | int b => simp only [Den] at e2; subst e2; obtain ⟨t, rfl⟩ := r2; exact ⟨SeqAt.RcAt.tuple_int b t ht1 hu0, SeqAt.RcNeAt.tuple_int b t ht1 hu0⟩
    | str b => simp only [Den] at e2; subst e2; obtain ⟨t, rfl⟩ := r2; exact ⟨SeqAt.RcAt.tuple_str b t ht1 hu0, SeqAt.RcNeAt.tuple_str b t ht1 hu0⟩
    | lst es =>
      simp only [Den] at e2; obtain ⟨a, vs, rfl, q, r⟩ := e2; cases r2
      obtain ⟨its, rv, ht, hz⟩ := I.list (fh.seq q)
      exact ⟨SeqAt.RcAt.tuple_list ht1 ht.isList hu0, SeqAt.RcNeAt.tuple_list ht1 ht.isList hu0⟩
    | tup es =>
      simp only [Den] at e2; obtain ⟨a, vs, rfl, q, r⟩ := e2; cases r2
      obtain ⟨its, rv, ht, hz⟩ := I.tuple (Same.seqT fh q)
      simp only [dep] at h2
      have he := rec es (.inl rfl) vs1 vs its1 its g1 r rv1 rv
      have l1 : its1.length = ds.length := by rw [g1.length, rv1.length]
      have l2 : its.length = es.length := by rw [r.length, rv.length]
      have k1 := SeqAt.RcAt.tuples (e := eAt ds es) ht1 ht hu0 (fun j h1 h2 => he j (by simpa using h1) (by simpa using h2))
      have k2 := SeqAt.RcNeAt.tuples (e := eAt ds es) ht1 ht hu0 (fun j h1 h2 => he j (by simpa using h1) (by simpa using h2))
      rw [List.size_toArray, List.size_toArray, l1, l2, all_eAt] at k1 k2
      exact ⟨by simpa only [eqD] using k1, by simpa only [eqD] using k2⟩
  | lst ds =>
    have z : ds = ds0 := by rcases hl with hl | hl <;> cases hl <;> rfl
    subst z
    simp only [Den] at e1; obtain ⟨a1, vs1, rfl, q1, g1⟩ := e1; cases r1
    obtain ⟨its1, rv1, ht1, hz1⟩ := I.list (fh.seq q1)
    simp only [dep] at hu h1
    have hu0 : A.units < cLine := by omega
    cases d' with
    | ty _ => simp [dep] at h2
    | dct _ _ => simp [dep] at h2
    | obj _ => simp [dep] at h2
    | exc _ => simp [dep] at h2
    | cls _ => simp [dep] at h2
    | non => simp only [Den] at e2; subst e2; cases r2; exact ⟨SeqAt.RcAt.list_none ht1.isList hu0, SeqAt.RcNeAt.list_none ht1.isList hu0⟩
    | bl b => simp only [Den] at e2; subst e2; cases r2; exact ⟨SeqAt.RcAt.list_bool b ht1.isList hu0, SeqAt.RcNeAt.list_bool b ht1.isList hu0⟩
    | int b => simp only [Den] at e2; subst e2; obtain ⟨t, rfl⟩ := r2; exact ⟨SeqAt.RcAt.list_int b t ht1.isList hu0, SeqAt.RcNeAt.list_int b t ht1.isList hu0⟩
    | str b => simp only [Den] at e2; subst e2; obtain ⟨t, rfl⟩ := r2; exact ⟨SeqAt.RcAt.list_str b t ht1.isList hu0, SeqAt.RcNeAt.list_str b t ht1.isList hu0⟩
    | tup es =>
      simp only [Den] at e2; obtain ⟨a, vs, rfl, q, r⟩ := e2; cases r2
      obtain ⟨its, rv, ht, hz⟩ := I.tuple (Same.seqT fh q)
      exact ⟨SeqAt.RcAt.list_tuple ht1.isList ht hu0, SeqAt.RcNeAt.list_tuple ht1.isList ht hu0⟩
    | lst es =>
      simp only [Den] at e2; obtain ⟨a, vs, rfl, q, r⟩ := e2; cases r2
      obtain ⟨its, rv, ht, hz⟩ := I.list (fh.seq q)
      simp only [dep] at h2
      have he := rec es (.inr rfl) vs1 vs its1 its g1 r rv1 rv
      have l1 : its1.length = ds.length := by rw [g1.length, rv1.length]
      have l2 : its.length = es.length := by rw [r.length, rv.length]
      simp only [eqD]
      rw [← all_eAt]
      by_cases hsz : ds.length = es.length
      · have k1 := SeqAt.RcAt.lists (e := eAt ds es) ht1.isList ht.isList (by simp [l1, l2, hsz]) hu0 (fun j h1 h2 => he j (by simpa using h1) (by simpa using h2))
        have k2 := SeqAt.RcNeAt.lists (e := eAt ds es) ht1.isList ht.isList (by simp [l1, l2, hsz]) hu0 (fun j h1 h2 => he j (by simpa using h1) (by simpa using h2))
        rw [List.size_toArray, l1] at k1 k2
        have e : (ds.length == es.length) = true := by simp [hsz]
        rw [e, Bool.and_true, ← hsz, Nat.min_self]
        exact ⟨k1, k2⟩
      · have e : (ds.length == es.length) = false := by simp [hsz]
        rw [e, Bool.and_false]
        have e2 : (its1.toArray.size != its.toArray.size) = true := by simp [l1, l2, hsz]
        exact ⟨SeqAt.RcAt.lists_lengths ht1.isList ht.isList e2 hu0, SeqAt.RcNeAt.lists_lengths ht1.isList ht.isList e2 hu0⟩
mutual
theorem rcAt (I : Inv X pins σ H s) (fh : Same F H) : ∀ (d d' : D) (A : Around) (x y : V) (u v : Value), A.units + dep d < cLine → dep d < 1000 → dep d' < 1000 → Den X.K F d x → Den X.K F d' y → RelV x u → RelV y v →
    SeqAt.RcAt A s u v (eqD d d') ∧ SeqAt.RcNeAt A s u v (!eqD d d')
  | .ty _, d', A, x, y, u, v, hu, h1, h2, e1, e2, r1, r2 => by simp [dep] at h1
  | .exc _, d', A, x, y, u, v, hu, h1, h2, e1, e2, r1, r2 => by simp [dep] at h1
  | .cls _, d', A, x, y, u, v, hu, h1, h2, e1, e2, r1, r2 => by simp [dep] at h1
  | .dct _ _, d', A, x, y, u, v, hu, h1, h2, e1, e2, r1, r2 => by simp [dep] at h1
  | .obj _, d', A, x, y, u, v, hu, h1, h2, e1, e2, r1, r2 => by simp [dep] at h1
  | .non, d', A, x, y, u, v, hu, h1, h2, e1, e2, r1, r2 => rcLeaf I fh _ d' A x y u v rfl hu h2 e1 e2 r1 r2
  | .bl _, d', A, x, y, u, v, hu, h1, h2, e1, e2, r1, r2 => rcLeaf I fh _ d' A x y u v rfl hu h2 e1 e2 r1 r2
  | .int _, d', A, x, y, u, v, hu, h1, h2, e1, e2, r1, r2 => rcLeaf I fh _ d' A x y u v rfl hu h2 e1 e2 r1 r2
  | .str _, d', A, x, y, u, v, hu, h1, h2, e1, e2, r1, r2 => rcLeaf I fh _ d' A x y u v rfl hu h2 e1 e2 r1 r2
  | .tup ds, d', A, x, y, u, v, hu, h1, h2, e1, e2, r1, r2 => rcSeq I fh ds _ d' A x y u v (.inl rfl) hu h1 h2 e1 e2 r1 r2 fun es z2 vs1 vs its1 its g1 r rv1 rv =>
    eqAts I fh ds es A.in1 vs1 vs its1 its (by rw [units_in1]; simp only [dep] at hu; omega) (by simp only [dep] at h1; omega) (by rcases z2 with rfl | rfl <;> (simp only [dep] at h2; omega)) g1 r rv1 rv
  | .lst ds, d', A, x, y, u, v, hu, h1, h2, e1, e2, r1, r2 => rcSeq I fh ds _ d' A x y u v (.inr rfl) hu h1 h2 e1 e2 r1 r2 fun es z2 vs1 vs its1 its g1 r rv1 rv =>
    eqAts I fh ds es A.in1 vs1 vs its1 its (by rw [units_in1]; simp only [dep] at hu; omega) (by simp only [dep] at h1; omega) (by rcases z2 with rfl | rfl <;> (simp only [dep] at h2; omega)) g1 r rv1 rv
theorem eqAts (I : Inv X pins σ H s) (fh : Same F H) : ∀ (ds es : List D) (A : Around) (xs ys : List V) (us vs : List Value), A.units + depL ds < cLine → depL ds < 1000 → depL es < 1000 → DenL X.K F ds xs → DenL X.K F es ys → Vals xs us → Vals ys vs →
    ∀ (j : Nat) (h1 : j < us.length) (h2 : j < vs.length), SeqAt.EqAt A s us[j] vs[j] (eAt ds es j)
  | [], es, A, xs, ys, us, vs, hu, h1, h2, e1, e2, r1, r2, j, hj1, hj2 => by
    simp only [DenL] at e1; subst e1; cases r1; simp at hj1
  | d :: ds, es, A, xs, ys, us, vs, hu, h1, h2, e1, e2, r1, r2, j, hj1, hj2 => by
    simp only [DenL] at e1
    obtain ⟨x, xr, rfl, ax, bx⟩ := e1
    cases r1 with
    | cons rx rrx =>
    cases es with
    | nil => simp only [DenL] at e2; subst e2; cases r2; simp at hj2
    | cons e es =>
      simp only [DenL] at e2
      obtain ⟨y, yr, rfl, ay, by'⟩ := e2
      cases r2 with
      | cons ry rry =>
      simp only [depL] at hu h1 h2
      cases j with
      | zero =>
        simp only [List.getElem_cons_zero]
        have e0 : eAt (d :: ds) (e :: es) 0 = eqD d e := by simp [eAt]
        rw [e0]
        exact eqAt_of I fh d e A x y _ _ (by omega) (by omega) (by omega) ax ay rx ry (rcAt I fh d e A x y _ _ (by omega) (by omega) (by omega) ax ay rx ry).1
      | succ j =>
        simp only [List.getElem_cons_succ]
        have e0 : eAt (d :: ds) (e :: es) (j + 1) = eAt ds es j := by simp [eAt]
        rw [e0]
        exact eqAts I fh ds es A xr yr _ _ (by omega) (by omega) (by omega) bx by' rrx rry j (by simpa using hj1) (by simpa using hj2)
end
theorem eqAt_one (I : Inv X pins σ H s) (fh : Same F H) (d d' : D) (A : Around) (x y : V) (u v : Value) (hu : A.units + dep d < cLine) (h1 : dep d < 1000) (h2 : dep d' < 1000) (e1 : Den X.K F d x) (e2 : Den X.K F d' y) (r1 : RelV x u) (r2 : RelV y v) :
    SeqAt.EqAt A s u v (eqD d d') := eqAt_of I fh d d' A x y u v hu h1 h2 e1 e2 r1 r2 (rcAt I fh d d' A x y u v hu h1 h2 e1 e2 r1 r2).1
end
end L2.L3
set_option Elab.async false
set_option linter.all false
set_option maxRecDepth 100000
set_option maxHeartbeats 4000000
namespace L2.L3
open PySem PySem.Spec PyProof.Rows
section
variable {X : Cx} {a b c e : Expr} {es : List Expr} {ta tb tc : TD} {tA tB' : TB} {ts : TDs} {pos : Pos} {rest : List Expr}
def rCatL (K : PySem.W.Frag) : R2 := fun x y H Q => ∃ l b xs zs, x = .ref l ∧ y = .ref b ∧ SqL K H l xs ∧ SqL K H b zs ∧ xs.length + zs.length ≤ sizeLine ∧ ∀ p, H p = none → Q (.ref p) (upd H p (.lst (xs ++ zs)))
theorem op_catL : OpR X (binaryOp .Add) (rCatL X.K) := by
  intro pins s σ H x y v u Q I rx ry h
  obtain ⟨l, b, xs, zs, rfl, rfl, hH, hB, hz, q⟩ := h
  cases rx
  cases ry
  obtain ⟨its, r, ⟨⟨cls, dd, data, sl⟩, n, ho, hc, hdd, hd⟩, z⟩ := I.list hH
  obtain ⟨its2, r2, ⟨⟨cls2, dd2, data2, sl2⟩, n2, ho2, hc2, hdd2, hd2⟩, z2⟩ := I.list hB
  simp only at hc hdd hd hc2 hdd2 hd2
  subst hc hdd hd hc2 hdd2 hd2
  have ea : its.toArray ++ its2.toArray = (its ++ its2).toArray := by simp
  refine concat_meets ⟨_, ho, rfl⟩ ⟨_, ho2, rfl⟩ noFill_list_add seq_list_add PySem.F.slot_list_add PySem.F.entry_list_add (PySem.F.args_list_add_2 _ _)
    (list_addW l b its.toArray its2.toArray n n2 none none sl sl2 (by rw [List.size_toArray, List.size_toArray, ← r.length, ← r2.length]; exact hz)) ⟨ho, ho2, ?_⟩
  rw [ea]
  exact ⟨.ref _, _, I.lnew (t' := s.toks) (r.append r2) (by rw [List.length_append]; omega), rfl, q _ I.fresh⟩
def rCatT0 (K : PySem.W.Frag) : R2 := fun x y H Q => ∃ a b ys, x = .ref a ∧ y = .ref b ∧ SqT K H a [] ∧ SqT K H b ys ∧ Q (.ref b) H
theorem op_catT0 : OpR X (binaryOp .Add) (rCatT0 X.K) := by
  intro pins s σ H x y v u Q I rx ry h
  obtain ⟨l, b, zs, rfl, rfl, hH, hB, q⟩ := h
  cases rx
  cases ry
  obtain ⟨its, r, ⟨⟨cls, dd, data, sl⟩, ho, hc, n, hd⟩, z⟩ := I.tuple hH
  obtain ⟨its2, r2, ⟨⟨cls2, dd2, data2, sl2⟩, ho2, hc2, n2, hd2⟩, z2⟩ := I.tuple hB
  cases r
  simp only at hc hd hc2 hd2
  subst hc hd hc2 hd2
  exact concat_meets ⟨_, ho, rfl⟩ ⟨_, ho2, rfl⟩ noFill_tuple_add seq_tuple_add PySem.F.slot_tuple_add PySem.F.entry_tuple_add (PySem.F.args_tuple_add_2 _ _)
    (tuple_addW0 l b _ _ n n2 dd dd2 sl sl2 (by simp)) ⟨ho, ho2, ⟨.ref b, H, I, rfl, q⟩⟩
def addD (x y : D) (Q : D → Prop) : Prop := match x, y with
  | .int i, .int j => Q (.int (i + j))
  | .str u, .str w => u.length + w.length ≤ sizeLine ∧ Q (.str (u ++ w))
  | .lst u, .lst w => u.length + w.length ≤ sizeLine ∧ Q (.lst (u ++ w))
  | .tup u, .tup w => u.length + w.length ≤ sizeLine ∧ Q (.tup (u ++ w))
  | _, _ => False
def rAddAll (K : PySem.W.Frag) : R2 := fun x y H Q => rI0 (fun i j => .int (i + j)) x y H Q ∨ (∃ i j, x = .str i ∧ y = .str j ∧ i.length + j.length ≤ sizeLine ∧ Q (.str (i ++ j)) H) ∨ rCatL K x y H Q ∨ rCatT K x y H Q ∨ rCatT0 K x y H Q
theorem op_addAll : OpR X (binaryOp .Add) (rAddAll X.K) := op_add.or (op_add_str.or (op_catL.or (op_catT.or op_catT0)))
theorem o3_add : Op3 X (rAddAll X.K) addD := by
  intro B σ F H env Q d d' x y Z rp h1 h2 hz hf
  unfold addD at hf
  split at hf
  · simp only [Den] at h1 h2; subst h1 h2
    exact .inl ⟨_, _, rfl, rfl, hz _ _ F _ rp (Same.refl _) den_int hf⟩
  · simp only [Den] at h1 h2; subst h1 h2
    exact .inr (.inl ⟨_, _, rfl, rfl, hf.1, hz _ _ F _ rp (Same.refl _) den_str hf.2⟩)
  · simp only [Den] at h1 h2
    obtain ⟨p, vs, rfl, q, r⟩ := h1
    obtain ⟨p', vs', rfl, q', r'⟩ := h2
    refine .inr (.inr (.inl ⟨p, p', vs, vs', rfl, rfl, rp.fh.seq q, rp.fh.seq q', by rw [← r.length, ← r'.length]; exact hf.1, fun w hw => ?_⟩))
    obtain ⟨r2, s2⟩ := rp.laid (o := .lst (vs ++ vs')) hw
    exact hz _ _ _ _ r2 s2 (den_lst (SqL.of upd_same) (DenL.mono s2 _ _ (r.append r'))) hf.2
  · simp only [Den] at h1 h2
    obtain ⟨p, vs, rfl, q, r⟩ := h1
    obtain ⟨p', vs', rfl, q', r'⟩ := h2
    cases vs with
    | nil =>
      rename_i u w
      cases u with
      | cons _ _ => simp only [DenL] at r; obtain ⟨_, _, z, _⟩ := r; cases z
      | nil =>
        exact .inr (.inr (.inr (.inr ⟨p, p', vs', rfl, rfl, Same.seqT rp.fh q, Same.seqT rp.fh q', hz _ _ F _ rp (Same.refl _) (den_tup q' r') (by simpa using hf.2)⟩)))
    | cons v0 vr =>
      refine .inr (.inr (.inr (.inl ⟨p, p', v0 :: vr, vs', rfl, rfl, Same.seqT rp.fh q, Same.seqT rp.fh q', by simp, by rw [← r.length, ← r'.length]; exact hf.1, fun w => ?_, fun w z hw => ?_⟩)))
      · subst w
        rename_i w
        have e : w = [] := by
          cases w with
          | nil => rfl
          | cons _ _ => simp only [DenL] at r'; obtain ⟨_, _, z, _⟩ := r'; cases z
        subst e
        exact hz _ _ F _ rp (Same.refl _) (den_tup q r) (by simpa using hf.2)
      · obtain ⟨r2, s2⟩ := rp.laid (o := .tup (v0 :: vr ++ vs')) hw
        exact hz _ _ _ _ r2 s2 (den_tup (SqT.of upd_same) (DenL.mono s2 _ _ (r.append r'))) hf.2
  · exact hf.elim
theorem q_add (ha : QE X a ta) (hb : QE X b tb) : QE X (.BinOp a .Add b pos) (cOp addD ta tb) := q_op op_addAll o3_add ha hb
def iiD (C : Int → Int → Prop) (g : Int → Int → D) (x y : D) (Q : D → Prop) : Prop := match x, y with
  | .int i, .int j => C i j ∧ Q (g i j)
  | _, _ => False
theorem o3_ii {C : Int → Int → Prop} {g : Int → Int → Int} : Op3 X (rI C fun i j => .int (g i j)) (iiD C fun i j => .int (g i j)) := by
  intro B σ F H env Q d d' x y Z rp h1 h2 hz hf
  unfold iiD at hf
  split at hf
  · simp only [Den] at h1 h2; subst h1 h2
    exact ⟨_, _, rfl, rfl, hf.1, hz _ _ F _ rp (Same.refl _) den_int hf.2⟩
  · exact hf.elim
theorem o3_ii0 {g : Int → Int → Int} : Op3 X (rI0 fun i j => .int (g i j)) (iiD (fun _ _ => True) fun i j => .int (g i j)) := by
  intro B σ F H env Q d d' x y Z rp h1 h2 hz hf
  unfold iiD at hf
  split at hf
  · simp only [Den] at h1 h2; subst h1 h2
    exact ⟨_, _, rfl, rfl, hz _ _ F _ rp (Same.refl _) den_int hf.2⟩
  · exact hf.elim
theorem o3_ib0 {g : Int → Int → Bool} : Op3 X (rI0 fun i j => .bl (g i j)) (iiD (fun _ _ => True) fun i j => .bl (g i j)) := by
  intro B σ F H env Q d d' x y Z rp h1 h2 hz hf
  unfold iiD at hf
  split at hf
  · simp only [Den] at h1 h2; subst h1 h2
    exact ⟨_, _, rfl, rfl, hz _ _ F _ rp (Same.refl _) den_bl hf.2⟩
  · exact hf.elim
theorem op_mulW : OpR X (binaryOp .Mult) (rI IntMulOk fun i j => .int (i * j)) := opI fun _ _ _ _ _ _ _ hc q => mul_int q hc
def DivOk (_ j : Int) : Prop := j ≠ 0 ∧ j.natAbs.log2 < 9000
theorem op_fdivW : OpR X (binaryOp .FloorDiv) (rI DivOk fun i j => .int (i.fdiv j)) := opI fun _ _ _ _ _ _ _ hc q => floordiv_int hc.1 q (.inl (PyProof.noPylong_of_log2 hc.2))
def ModOk (_ j : Int) : Prop := j ≠ 0
abbrev subD := iiD (fun _ _ => True) fun i j => .int (i - j)
abbrev mulD := iiD IntMulOk fun i j => .int (i * j)
abbrev fdivD := iiD DivOk fun i j => .int (i.fdiv j)
abbrev modD := iiD ModOk fun i j => .int (i.fmod j)
abbrev powD := iiD CPow fun i j => .int (i ^ j.toNat)
abbrev ltD := iiD (fun _ _ => True) fun i j => .bl (decide (i < j))
abbrev leD := iiD (fun _ _ => True) fun i j => .bl (decide (i ≤ j))
abbrev gtD := iiD (fun _ _ => True) fun i j => .bl (decide (j < i))
abbrev geD := iiD (fun _ _ => True) fun i j => .bl (decide (j ≤ i))
theorem q_sub (ha : QE X a ta) (hb : QE X b tb) : QE X (.BinOp a .Sub b pos) (cOp subD ta tb) := q_op op_sub o3_ii0 ha hb
theorem q_mul (ha : QE X a ta) (hb : QE X b tb) : QE X (.BinOp a .Mult b pos) (cOp mulD ta tb) := q_op op_mulW o3_ii ha hb
theorem q_fdiv (ha : QE X a ta) (hb : QE X b tb) : QE X (.BinOp a .FloorDiv b pos) (cOp fdivD ta tb) := q_op op_fdivW o3_ii ha hb
theorem q_mod (ha : QE X a ta) (hb : QE X b tb) : QE X (.BinOp a .Mod b pos) (cOp modD ta tb) := q_op (r := rI ModOk fun i j => .int (i.fmod j)) op_modN o3_ii ha hb
theorem q_pow (ha : QE X a ta) (hb : QE X b tb) : QE X (.BinOp a .Pow b pos) (cOp powD ta tb) := q_op op_pow o3_ii ha hb
theorem q_lt (ha : QE X a ta) (hb : QE X b tb) : QE X (.Compare a [.Lt] [b] pos) (cOp ltD ta tb) := q_cmp op_lt o3_ib0 ha hb (nomark _)
theorem q_gt (ha : QE X a ta) (hb : QE X b tb) : QE X (.Compare a [.Gt] [b] pos) (cOp gtD ta tb) := q_cmp op_gt o3_ib0 ha hb (nomark _)
theorem t_lt (ha : QE X a ta) (hb : QE X b tb) : QT X (.Compare a [.Lt] [b] pos) (cTest (cOp ltD ta tb)) := qt_cmp op_lt o3_ib0 ha hb (nomark _)
theorem t_le (ha : QE X a ta) (hb : QE X b tb) : QT X (.Compare a [.LtE] [b] pos) (cTest (cOp leD ta tb)) := qt_cmp op_le o3_ib0 ha hb (nomark _)
theorem t_gt (ha : QE X a ta) (hb : QE X b tb) : QT X (.Compare a [.Gt] [b] pos) (cTest (cOp gtD ta tb)) := qt_cmp op_gt o3_ib0 ha hb (nomark _)
theorem t_ge (ha : QE X a ta) (hb : QE X b tb) : QT X (.Compare a [.GtE] [b] pos) (cTest (cOp geD ta tb)) := qt_cmp op_ge o3_ib0 ha hb (nomark _)
def Un3 (X : Cx) (r : V → Hp → VK → Prop) (f : D → (D → Prop) → Prop) : Prop := ∀ (B : Base) (σ : St) (F H : Hp) (env : En) (Q : D → Prop) (d : D) (x : V) (Z : VK), Rep X.K B F H σ env → Den X.K F d x → Kont X B σ env F Q Z → f d Q → r x H Z
def cUn (f : D → (D → Prop) → Prop) (ta : TD) : TD := fun env Q => ta env fun x => f x Q
theorem q_un {op : UnaryOp} {r : V → Hp → VK → Prop} {f : D → (D → Prop) → Prop} (ho : UnR X (unaryOp op) r) (hf : Un3 X r f) (ha : QE X a ta) : QE X (.UnaryOp op a pos) (cUn f ta) := by
  refine ⟨?_⟩
  intro B σ F H env Q rp h
  refine wE_of (pe_un ho pe_w) ?_
  refine wE_mono (ha B σ F H env _ rp h) fun x H1 ⟨F1, d, r1, s1, d1, q1⟩ => ?_
  exact hf B σ F1 H1 env Q d x _ r1 d1 (fun v H' F' d' r' s' hd q => ⟨F', d', r', s1.trans s', hd, q⟩) q1
def negD (x : D) (Q : D → Prop) : Prop := match x with
  | .int i => Q (.int (-i))
  | _ => False
theorem q_neg (ha : QE X a ta) : QE X (.UnaryOp .USub a pos) (cUn negD ta) := by
  refine q_un un_neg ?_ ha
  intro B σ F H env Q d x Z rp h1 hz hf
  unfold negD at hf
  split at hf
  · simp only [Den] at h1; subst h1
    exact ⟨_, rfl, hz _ _ F _ rp (Same.refl _) den_int hf⟩
  · exact hf.elim
def rEqD (X : Cx) (neg : Bool) : R2 := fun x y H Q => ∃ (F : Hp) (d d' : D), Same F H ∧ Den X.K F d x ∧ Den X.K F d' y ∧ X.A.units + dep d < cLine ∧ dep d < 1000 ∧ dep d' < 1000 ∧ Q (.bl (if neg then !eqD d d' else eqD d d')) H
theorem op_eqD : OpR X (compareOp .Eq) (rEqD X false) := by
  intro pins s σ H x y v u Q I rx ry h
  obtain ⟨F, d, d', fh, h1, h2, hu, hd, hd', q⟩ := h
  exact (rcAt I fh d d' X.A x y v u hu hd hd' h1 h2 rx ry).1 X.prog X.w X.xe _ ⟨.bl _, H, I, rfl, q⟩
theorem op_neD : OpR X (compareOp .NotEq) (rEqD X true) := by
  intro pins s σ H x y v u Q I rx ry h
  obtain ⟨F, d, d', fh, h1, h2, hu, hd, hd', q⟩ := h
  exact (rcAt I fh d d' X.A x y v u hu hd hd' h1 h2 rx ry).2 X.prog X.w X.xe _ ⟨.bl _, H, I, rfl, q⟩
def DepOk (x y : D) : Prop := dep x ≤ 60 ∧ dep y ≤ 60
def eqF (x y : D) (Q : D → Prop) : Prop := DepOk x y ∧ Q (.bl (eqD x y))
def neF (x y : D) (Q : D → Prop) : Prop := DepOk x y ∧ Q (.bl (!eqD x y))
theorem o3_eq (hu : X.A.units + 64 < cLine) : Op3 X (rEqD X false) eqF := by
  intro B σ F H env Q d d' x y Z rp h1 h2 hz hf
  obtain ⟨⟨l1, l2⟩, q⟩ := hf
  exact ⟨F, d, d', rp.fh, h1, h2, by omega, by omega, by omega, hz _ _ F _ rp (Same.refl _) den_bl q⟩
theorem o3_ne (hu : X.A.units + 64 < cLine) : Op3 X (rEqD X true) neF := by
  intro B σ F H env Q d d' x y Z rp h1 h2 hz hf
  obtain ⟨⟨l1, l2⟩, q⟩ := hf
  exact ⟨F, d, d', rp.fh, h1, h2, by omega, by omega, by omega, hz _ _ F _ rp (Same.refl _) den_bl q⟩
theorem q_eq (hu : X.A.units + 64 < cLine) (ha : QE X a ta) (hb : QE X b tb) : QE X (.Compare a [.Eq] [b] pos) (cOp eqF ta tb) := q_cmp op_eqD (o3_eq hu) ha hb (nomark _)
theorem q_ne (hu : X.A.units + 64 < cLine) (ha : QE X a ta) (hb : QE X b tb) : QE X (.Compare a [.NotEq] [b] pos) (cOp neF ta tb) := q_cmp op_neD (o3_ne hu) ha hb (nomark _)
theorem t_eq (hu : X.A.units + 64 < cLine) (ha : QE X a ta) (hb : QE X b tb) : QT X (.Compare a [.Eq] [b] pos) (cTest (cOp eqF ta tb)) := qt_cmp op_eqD (o3_eq hu) ha hb (nomark _)
theorem t_ne (hu : X.A.units + 64 < cLine) (ha : QE X a ta) (hb : QE X b tb) : QT X (.Compare a [.NotEq] [b] pos) (cTest (cOp neF ta tb)) := qt_cmp op_neD (o3_ne hu) ha hb (nomark _)
def ixD (x y : D) (Q : D → Prop) : Prop := match x, y with
  | .lst xs, .int i => ∃ v, atI xs i = some v ∧ Q v
  | .tup xs, .int i => ∃ v, atI xs i = some v ∧ Q v
  | .str z, .int i => z.length ≤ sizeLine ∧ ∃ c, atI z.cps.toList i = some c ∧ Q (.str ⟨#[c]⟩)
  | _, _ => False
theorem DenL.atI {K : PySem.W.Frag} {F : Hp} {ds : List D} {vs : List V} {i : Int} {d : D} (r : DenL K F ds vs) (h : atI ds i = some d) : ∃ v, L2.atI vs i = some v ∧ Den K F d v := by
  unfold L2.atI at h ⊢
  rw [← r.length]
  cases e : ixN ds.length i with
  | none => rw [e] at h; cases h
  | some j =>
    rw [e] at h
    exact r.get h
theorem o3_ix : Op3 X (rIx X.K) ixD := by
  intro B σ F H env Q d d' x y Z rp h1 h2 hz hf
  unfold ixD at hf
  split at hf
  · simp only [Den] at h1 h2; subst h2
    obtain ⟨p, vs, rfl, q, r⟩ := h1
    obtain ⟨v, hv, qv⟩ := hf
    obtain ⟨w, hw, dw⟩ := r.atI hv
    exact .inl ⟨p, vs, _, w, rfl, rfl, rp.fh.seq q, hw, hz _ _ F _ rp (Same.refl _) dw qv⟩
  · simp only [Den] at h1 h2; subst h2
    obtain ⟨p, vs, rfl, q, r⟩ := h1
    obtain ⟨v, hv, qv⟩ := hf
    obtain ⟨w, hw, dw⟩ := r.atI hv
    exact .inr (.inl ⟨p, vs, _, w, rfl, rfl, Same.seqT rp.fh q, hw, hz _ _ F _ rp (Same.refl _) dw qv⟩)
  · simp only [Den] at h1 h2; subst h1 h2
    obtain ⟨hl, c, hc, qv⟩ := hf
    exact .inr (.inr ⟨_, _, c, rfl, rfl, hl, hc, hz _ _ F _ rp (Same.refl _) den_str qv⟩)
  · exact hf.elim
theorem q_ix (ha : QE X a ta) (hb : QE X b tb) (hs : PlainIx b) : QE X (.Subscript a b pos) (cOp ixD ta tb) := ⟨fun B σ F H env Q rp h => wE_of (pe_ix ix_seq pe_w pe_w hs) (two o3_ix ha hb rp kRV h)⟩
abbrev TO3 := En → (Option Int → Prop) → Prop
def cNoPart : TO3 := fun _ Q => Q none
def cPart (t : TD) : TO3 := fun env Q => t env fun x => ∃ i, x = .int i ∧ Q (some i)
def QO (X : Cx) (e : Option Expr) (t : TO3) : Prop := ∃ to : TO, PO X e to ∧ ∀ (B : Base) (σ : St) (F H : Hp) (env : En) (Q : Option Int → Prop) (Z : Option Int → Hp → Prop), Rep X.K B F H σ env → (∀ o H' F', Rep X.K B F' H' σ env → Same F F' → Q o → Z o H') → t env Q → to σ H Z
theorem qo_none : QO X none cNoPart := ⟨_, po_none, fun B σ F H env Q Z rp hz h => hz none H F rp (Same.refl _) h⟩
theorem qo_some (h : QE X e ta) : QO X (some e) (cPart ta) := by
  refine ⟨_, po_some pe_w, fun B σ F H env Q Z rp hz hq => ?_⟩
  refine wE_mono (h B σ F H env _ rp hq) fun x H1 ⟨F1, d, r1, s1, d1, i, hi, q1⟩ => ?_
  subst hi
  simp only [Den] at d1
  exact ⟨i, d1, hz _ _ F1 r1 s1 q1⟩
def cutD (xs : List D) (lo hi : Option Int) : List D := (xs.drop (HT.sIx xs.length 0 lo)).take (HT.sIx xs.length xs.length hi - HT.sIx xs.length 0 lo)
def slD (x : D) (lo hi : Option Int) (Q : D → Prop) : Prop := match x with
  | .lst xs => Q (.lst (cutD xs lo hi))
  | .tup xs => ¬ (HT.sIx xs.length 0 lo = 0 ∧ HT.sIx xs.length xs.length hi = xs.length) ∧ Q (.tup (cutD xs lo hi))
  | _ => False
def cSl (ta : TD) (tl th : TO3) : TD := fun env Q => ta env fun x => tl env fun lo => th env fun hi => slD x lo hi Q
theorem q_sl {lo hi : Option Expr} {tl th : TO3} {p2 : Pos} (ha : QE X a ta) (hl : QO X lo tl) (hh : QO X hi th) : QE X (.Subscript a (.Slice lo hi none p2) pos) (cSl ta tl th) := by
  refine ⟨?_⟩
  intro B σ F H env Q rp h
  obtain ⟨tl', pl, ql⟩ := hl
  obtain ⟨th', ph, qh⟩ := hh
  refine wE_of (pe_slice (SlR.or sl_list sl_tup) pe_w pl ph) ?_
  refine wE_mono (ha B σ F H env _ rp h) fun x H1 ⟨F1, d, r1, s1, d1, q1⟩ => ?_
  refine ql B σ F1 H1 env _ _ r1 (fun lo' H2 F2 r2 s2 q2 => ?_) q1
  refine qh B σ F2 H2 env _ _ r2 (fun hi' H3 F3 r3 s3 q3 => ?_) q2
  have d3 := Den.mono (s2.trans s3) _ _ d1
  unfold slD at q3
  split at q3
  · simp only [Den] at d3
    obtain ⟨p, vs, rfl, q, r⟩ := d3
    refine .inl ⟨p, vs, rfl, r3.fh.seq q, fun w hw => ?_⟩
    obtain ⟨r4, s4⟩ := r3.laid (o := .lst (cutV vs lo' hi')) hw
    refine ⟨_, _, r4, ((s1.trans s2).trans s3).trans s4, den_lst (SqL.of upd_same) ?_, q3⟩
    unfold cutV cutD
    rw [r.length]
    exact DenL.mono s4 _ _ ((r.drop _).take _)
  · simp only [Den] at d3
    obtain ⟨p, vs, rfl, q, r⟩ := d3
    refine .inr ⟨p, vs, rfl, Same.seqT r3.fh q, by rw [← r.length]; exact q3.1, fun w hw => ?_⟩
    obtain ⟨r4, s4⟩ := r3.laid (o := .tup (cutV vs lo' hi')) hw
    refine ⟨_, _, r4, ((s1.trans s2).trans s3).trans s4, den_tup (SqT.of upd_same) ?_, q3.2⟩
    unfold cutV cutD
    rw [r.length]
    exact DenL.mono s4 _ _ ((r.drop _).take _)
  · exact q3.elim
def Call3 (X : Cx) (r : List V → Hp → VK → Prop) (f : List D → (D → Prop) → Prop) : Prop := ∀ (B : Base) (σ : St) (F H : Hp) (env : En) (Q : D → Prop) (ds : List D) (vs : List V) (Z : VK), Rep X.K B F H σ env → DenL X.K F ds vs → Kont X B σ env F Q Z → f ds Q → r vs H Z
def cCall (f : List D → (D → Prop) → Prop) (ts : TDs) : TD := fun env Q => ts env fun xs => f xs Q
theorem args3 {r : List V → Hp → VK → Prop} {f : List D → (D → Prop) → Prop} (hf : Call3 X r f) (ha : QA X es ts) {B : Base} {σ : St} {F H : Hp} {env : En} {Q : D → Prop} (rp : Rep X.K B F H σ env) (h : cCall f ts env Q) : tCB r (wA X es) σ H (RV X B σ env F Q) := by
  refine wA_mono (ha B σ F H env _ rp h) fun vs H1 ⟨F1, ds, r1, s1, d1, q1⟩ => ?_
  exact hf B σ F1 H1 env Q ds vs _ r1 d1 (fun v H' F' d' r' s' hd q => ⟨F', d', r', s1.trans s', hd, q⟩) q1
theorem q_callB {id : String} {r : List V → Hp → VK → Prop} {f : List D → (D → Prop) → Prop} {x : Str} {p : Pos} (hc : CallR X (.builtin id) r) (hf : Call3 X r f) (hg : Gl X x) (hm : X.mg x = none) (hv : bootBuiltins x = some (.builtin id)) (ha : QA X (e :: es) ts)
    (hn : x ≠ "__name__" := by decide) (hdb : (x == ("__debug__" : Str)) = false := by decide) (he : starEach (e :: es) X.env = (false, eval e X.env) :: starEach es X.env := by exact star_of rfl) (hpl : (backTo pos (starEach es X.env)).any (·.1) = false := by rfl) :
    QE X (.Call (.Name x p) (e :: es) [] pos) (cCall f ts) := ⟨fun B σ F H env Q rp h => wE_of (pe_callB hc hg hm hv pa_w hn hdb he hpl) (args3 hf ha rp h)⟩
theorem q_callTy {T : String} {r : List V → Hp → VK → Prop} {f : List D → (D → Prop) → Prop} {x : Str} {p : Pos} (hc : CallR X (.type T) r) (hf : Call3 X r f) (hg : Gl X x) (hm : X.mg x = none) (hv : bootBuiltins x = some (.type T)) (ha : QA X (e :: es) ts)
    (hn : x ≠ "__name__" := by decide) (hdb : (x == ("__debug__" : Str)) = false := by decide) (he : starEach (e :: es) X.env = (false, eval e X.env) :: starEach es X.env := by exact star_of rfl) (hpl : (backTo pos (starEach es X.env)).any (·.1) = false := by rfl) :
    QE X (.Call (.Name x p) (e :: es) [] pos) (cCall f ts) := ⟨fun B σ F H env Q rp h => wE_of (pe_callTy hc hg hm hv pa_w hn hdb he hpl) (args3 hf ha rp h)⟩
end
end L2.L3
set_option Elab.async false
set_option linter.all false
set_option maxRecDepth 100000
set_option maxHeartbeats 4000000
namespace L2.L3
open PySem PySem.Spec PyProof.Rows
theorem boot_abs' : bootBuiltins "abs" = some (.builtin "abs") := by decide +kernel
theorem boot_all' : bootBuiltins "all" = some (.builtin "all") := by decide +kernel
theorem boot_max' : bootBuiltins "max" = some (.builtin "max") := by decide +kernel
theorem boot_min' : bootBuiltins "min" = some (.builtin "min") := by decide +kernel
theorem boot_isi' : bootBuiltins "isinstance" = some (.builtin "isinstance") := by decide +kernel
theorem boot_len' : bootBuiltins "len" = some (.builtin "len") := by decide +kernel
theorem boot_int' : bootBuiltins "int" = some (.type "int") := by decide +kernel
theorem boot_bool' : bootBuiltins "bool" = some (.type "bool") := by decide +kernel
theorem boot_str' : bootBuiltins "str" = some (.type "str") := by decide +kernel
theorem boot_list' : bootBuiltins "list" = some (.type "list") := by decide +kernel
theorem boot_tuple' : bootBuiltins "tuple" = some (.type "tuple") := by decide +kernel
section
variable {X : Cx} {a b c e : Expr} {es : List Expr} {ta tb tc : TD} {tA tB' : TB} {ts : TDs} {pos : Pos} {rest : List Expr}
def absF (ds : List D) (Q : D → Prop) : Prop := match ds with
  | [.int i] => Q (.int (if i < 0 then -i else i))
  | _ => False
theorem c3_abs : Call3 X (fun xs H Q => ∃ i, xs = [.int i] ∧ Q (.int (if i < 0 then -i else i)) H) absF := by
  intro B σ F H env Q ds vs Z rp h hz hf
  unfold absF at hf
  split at hf
  · simp only [DenL, Den] at h
    obtain ⟨v, r, rfl, rfl, rfl⟩ := h
    exact ⟨_, rfl, hz _ _ F _ rp (Same.refl _) den_int hf⟩
  · exact hf.elim
def lenF (ds : List D) (Q : D → Prop) : Prop := match ds with
  | [.lst xs] => Q (.int xs.length)
  | [.tup xs] => Q (.int xs.length)
  | [.str z] => z.length ≤ sizeLine ∧ Q (.int z.length)
  | _ => False
theorem c3_len : Call3 X (fun xs H Q => (∃ p ys, xs = [.ref p] ∧ (SqL X.K H p ys ∨ SqT X.K H p ys) ∧ Q (.int ys.length) H) ∨ ∃ z, xs = [.str z] ∧ z.length ≤ sizeLine ∧ Q (.int z.length) H) lenF := by
  intro B σ F H env Q ds vs Z rp h hz hf
  unfold lenF at hf
  split at hf
  · simp only [DenL, Den] at h
    obtain ⟨v, r, rfl, ⟨p, ys, rfl, q, r⟩, rfl⟩ := h
    refine .inl ⟨p, ys, rfl, .inl (rp.fh.seq q), hz _ _ F _ rp (Same.refl _) den_int ?_⟩
    rw [← r.length]; exact hf
  · simp only [DenL, Den] at h
    obtain ⟨v, r, rfl, ⟨p, ys, rfl, q, r⟩, rfl⟩ := h
    refine .inl ⟨p, ys, rfl, .inr (Same.seqT rp.fh q), hz _ _ F _ rp (Same.refl _) den_int ?_⟩
    rw [← r.length]; exact hf
  · simp only [DenL, Den] at h
    obtain ⟨v, r, rfl, rfl, rfl⟩ := h
    exact .inr ⟨_, rfl, hf.1, hz _ _ F _ rp (Same.refl _) den_int hf.2⟩
  · exact hf.elim
def maxF (ds : List D) (Q : D → Prop) : Prop := match ds with
  | [.int i, .int j] => Q (.int (if j > i then j else i))
  | _ => False
def minF (ds : List D) (Q : D → Prop) : Prop := match ds with
  | [.int i, .int j] => Q (.int (if j < i then j else i))
  | _ => False
theorem c3_max : Call3 X (fun xs H Q => ∃ i j, xs = [.int i, .int j] ∧ Q (.int (if j > i then j else i)) H) maxF := by
  intro B σ F H env Q ds vs Z rp h hz hf
  unfold maxF at hf
  split at hf
  · simp only [DenL, Den] at h
    obtain ⟨v, r, rfl, rfl, v', r', rfl, rfl, rfl⟩ := h
    exact ⟨_, _, rfl, hz _ _ F _ rp (Same.refl _) den_int hf⟩
  · exact hf.elim
theorem c3_min : Call3 X (fun xs H Q => ∃ i j, xs = [.int i, .int j] ∧ Q (.int (if j < i then j else i)) H) minF := by
  intro B σ F H env Q ds vs Z rp h hz hf
  unfold minF at hf
  split at hf
  · simp only [DenL, Den] at h
    obtain ⟨v, r, rfl, rfl, v', r', rfl, rfl, rfl⟩ := h
    exact ⟨_, _, rfl, hz _ _ F _ rp (Same.refl _) den_int hf⟩
  · exact hf.elim
def intF (ds : List D) (Q : D → Prop) : Prop := match ds with
  | [.int i] => Q (.int i)
  | [.bl k] => Q (.int (if k then 1 else 0))
  | _ => False
def listF (ds : List D) (Q : D → Prop) : Prop := match ds with
  | [.lst xs] => Q (.lst xs)
  | [.tup xs] => Q (.lst xs)
  | _ => False
theorem c3_list : Call3 X (fun xs H Q => ∃ p ys, xs = [.ref p] ∧ (SqL X.K H p ys ∨ SqT X.K H p ys) ∧ ∀ l, H l = none → Q (.ref l) (upd H l (.lst ys))) listF := by
  intro B σ F H env Q ds vs Z rp h hz hf
  unfold listF at hf
  split at hf
  · simp only [DenL, Den] at h
    obtain ⟨v, r, rfl, ⟨p, ys, rfl, q, r⟩, rfl⟩ := h
    refine ⟨p, ys, rfl, .inl (rp.fh.seq q), fun w hw => ?_⟩
    obtain ⟨r2, s2⟩ := rp.laid (o := .lst ys) hw
    exact hz _ _ _ _ r2 s2 (den_lst (SqL.of upd_same) (DenL.mono s2 _ _ r)) hf
  · simp only [DenL, Den] at h
    obtain ⟨v, r, rfl, ⟨p, ys, rfl, q, r⟩, rfl⟩ := h
    refine ⟨p, ys, rfl, .inr (Same.seqT rp.fh q), fun w hw => ?_⟩
    obtain ⟨r2, s2⟩ := rp.laid (o := .lst ys) hw
    exact hz _ _ _ _ r2 s2 (den_lst (SqL.of upd_same) (DenL.mono s2 _ _ r)) hf
  · exact hf.elim
def tupleF (ds : List D) (Q : D → Prop) : Prop := match ds with
  | [.lst xs] => Q (.tup xs)
  | [.tup xs] => Q (.tup xs)
  | _ => False
theorem c3_tuple : Call3 X (fun xs H Q => ∃ p ys, xs = [.ref p] ∧ ((SqL X.K H p ys ∧ ∀ l, H l = none → Q (.ref l) (upd H l (.tup ys))) ∨ (SqT X.K H p ys ∧ Q (.ref p) H))) tupleF := by
  intro B σ F H env Q ds vs Z rp h hz hf
  unfold tupleF at hf
  split at hf
  · simp only [DenL, Den] at h
    obtain ⟨v, r, rfl, ⟨p, ys, rfl, q, r⟩, rfl⟩ := h
    refine ⟨p, ys, rfl, .inl ⟨rp.fh.seq q, fun w hw => ?_⟩⟩
    obtain ⟨r2, s2⟩ := rp.laid (o := .tup ys) hw
    exact hz _ _ _ _ r2 s2 (den_tup (SqT.of upd_same) (DenL.mono s2 _ _ r)) hf
  · simp only [DenL, Den] at h
    obtain ⟨v, r, rfl, ⟨p, ys, rfl, q, r⟩, rfl⟩ := h
    exact ⟨p, ys, rfl, .inr ⟨Same.seqT rp.fh q, hz _ _ F _ rp (Same.refl _) (den_tup q r) hf⟩⟩
  · exact hf.elim
def TyV (K : PySem.W.Frag) (H : Hp) (x : V) (t : String) : Prop := match x with
  | .non => t = "NoneType"
  | .bl _ => t = "bool"
  | .int _ => t = "int"
  | .str _ => t = "str"
  | .ref a => (t = "tuple" ∧ ∃ vs, SqT K H a vs) ∨ (t = "list" ∧ ∃ vs, SqL K H a vs)
  | _ => False
theorem call_isi : CallR X (.builtin "isinstance") (fun xs H Q => ∃ x n t b, xs = [x, .ty n] ∧ TyV X.K H x t ∧ PySem.W.kitOne X.K (.type t) (.type n) = some b ∧ Q (.bl b) H) := by
  intro pins s σ H xs us Q I r h
  obtain ⟨x, n, t, b, rfl, ty, e, q⟩ := h
  obtain ⟨u, w, rfl, rx, rw'⟩ := vals2 r
  cases (show w = Value.type n from rw')
  have fin : ∀ tk, EP X pins σ Q (.bool b) { s with toks := tk } := fun tk => ⟨.bl b, H, I.tok tk, rfl, q⟩
  cases x with
  | non => cases (show t = "NoneType" from ty); cases (show u = Value.none from rx); exact PySem.W.kia_one PySem.W.kitx_none I.kIn True.intro e (fun z => nomatch z) fin
  | bl y => cases (show t = "bool" from ty); cases (show u = Value.bool y from rx); exact PySem.W.kia_one PySem.W.kitx_bool I.kIn True.intro e (fun z => nomatch z) fin
  | int i => cases (show t = "int" from ty); obtain ⟨t, q⟩ := (show ∃ t, u = Value.int i t from rx); cases q; exact PySem.W.kia_one PySem.W.kitx_int I.kIn True.intro e (fun z => nomatch z) fin
  | str i => cases (show t = "str" from ty); obtain ⟨t, q⟩ := (show ∃ t, u = Value.str i t from rx); cases q; exact PySem.W.kia_one PySem.W.kitx_str I.kIn True.intro e (fun z => nomatch z) fin
  | ref a =>
    cases (show u = Value.ref a from rx)
    rcases ty with ⟨rfl, vs, hq⟩ | ⟨rfl, vs, hq⟩
    · obtain ⟨_, _, ⟨o, h1, h2, _⟩, _⟩ := I.tuple hq
      exact PySem.W.kia_one PySem.W.kitx_tuple I.kIn ⟨o, h1, h2⟩ e (fun z => nomatch z) fin
    · obtain ⟨_, _, ⟨o, n, h1, h2, _⟩, _⟩ := I.list hq
      exact PySem.W.kia_one PySem.W.kitx_list I.kIn ⟨o, h1, h2⟩ e (fun z => nomatch z) fin
  | _ => exact False.elim ty
inductive Kd where | non | bl | int | str | tup | lst | oth
def kdD : D → Kd
  | .non => .non
  | .bl _ => .bl
  | .int _ => .int
  | .str _ => .str
  | .tup _ => .tup
  | .lst _ => .lst
  | _ => .oth
def isiK : Kd → String → Option Bool
  | .oth, _ => none
  | k, "int" => some (match k with | .int => true | .bl => true | _ => false)
  | k, "bool" => some (match k with | .bl => true | _ => false)
  | k, "str" => some (match k with | .str => true | _ => false)
  | k, "tuple" => some (match k with | .tup => true | _ => false)
  | k, "list" => some (match k with | .lst => true | _ => false)
  | _, _ => none
def isiF (ds : List D) (Q : D → Prop) : Prop := match ds with
  | [x, .ty n] => ∃ b, isiK (kdD x) n = some b ∧ Q (.bl b)
  | _ => False
theorem kit_isi (K : PySem.W.Frag) (k : Kd) (n t : String) (b : Bool) (h : isiK k n = some b)
    (ht : t = match k with | .non => "NoneType" | .bl => "bool" | .int => "int" | .str => "str" | .tup => "tuple" | .lst => "list" | .oth => "type") : PySem.W.kitOne K (.type t) (.type n) = some b := by
  subst ht
  unfold isiK at h
  split at h
  · cases h
  all_goals (cases k <;> simp at h <;> subst h <;> rfl)
theorem c3_isi : Call3 X (fun xs H Q => ∃ x n t b, xs = [x, .ty n] ∧ TyV X.K H x t ∧ PySem.W.kitOne X.K (.type t) (.type n) = some b ∧ Q (.bl b) H) isiF := by
  intro B σ F H env Q ds vs Z rp h hz hf
  unfold isiF at hf
  split at hf
  · rename_i x n
    obtain ⟨b, hb, q⟩ := hf
    simp only [DenL] at h
    obtain ⟨v, r, rfl, hd, v', r', rfl, hd', rfl⟩ := h
    simp only [Den] at hd'
    subst hd'
    have fin := hz (.bl b) H F (.bl b) rp (Same.refl _) den_bl q
    cases x with
    | non => simp only [Den] at hd; subst hd; exact ⟨_, n, "NoneType", b, rfl, rfl, kit_isi _ _ _ _ _ hb rfl, fin⟩
    | bl k => simp only [Den] at hd; subst hd; exact ⟨_, n, "bool", b, rfl, rfl, kit_isi _ _ _ _ _ hb rfl, fin⟩
    | int k => simp only [Den] at hd; subst hd; exact ⟨_, n, "int", b, rfl, rfl, kit_isi _ _ _ _ _ hb rfl, fin⟩
    | str k => simp only [Den] at hd; subst hd; exact ⟨_, n, "str", b, rfl, rfl, kit_isi _ _ _ _ _ hb rfl, fin⟩
    | tup k => simp only [Den] at hd; obtain ⟨p, vs, rfl, q', r⟩ := hd; exact ⟨_, n, "tuple", b, rfl, .inl ⟨rfl, vs, Same.seqT rp.fh q'⟩, kit_isi _ _ _ _ _ hb rfl, fin⟩
    | lst k => simp only [Den] at hd; obtain ⟨p, vs, rfl, q', r⟩ := hd; exact ⟨_, n, "list", b, rfl, .inr ⟨rfl, vs, rp.fh.seq q'⟩, kit_isi _ _ _ _ _ hb rfl, fin⟩
    | dct k _ => cases hb
    | obj k => cases hb
    | ty k => cases hb
    | exc k => cases hb
    | cls k => cases hb
  · exact hf.elim
theorem boolsAre_of : ∀ {bs : List Bool} {us : List Value}, Vals (bs.map V.bl) us → LSm.BoolsAre us bs
  | [], _, r => by rw [List.map_nil] at r; cases r; exact .nil
  | b :: bs, _, r => by
    rw [List.map_cons] at r
    cases r with
    | cons h t => cases (show _ = Value.bool b from h); exact .cons b (boolsAre_of t)
theorem kept_iter' {s : Shared} {h' : Heap} {o : Obj} (hk : ∀ b x, b ∉ [s.heap.objs.size] → (s.heap.push o).get? b = some x → h'.get? b = some x) : ∀ b x, s.heap.get? b = some x → h'.get? b = some x :=
  fun b x e => hk b x (fun hm => by rw [List.mem_singleton.mp hm] at e; exact Nat.lt_irrefl _ (Heap.lt_size e)) (Heap.get?_push_of_some _ e)
theorem call_all (hc : X.calm = true) : CallR X (.builtin "all") (fun xs H Q => ∃ (p : Addr) (bs : List Bool), xs = [.ref p] ∧ SqL X.K H p (bs.map V.bl) ∧ Q (.bl (bs.all id)) H) := by
  intro pins s σ H xs us Q I r h
  obtain ⟨p, bs, rfl, hq, q⟩ := h
  obtain ⟨u, rfl, rx⟩ := vals1 r
  cases rx
  obtain ⟨its, r', pl, hz⟩ := I.list hq
  have hb := boolsAre_of r'
  have hl := pl.isList
  have hlt : p < s.heap.objs.size := by obtain ⟨_, e, _⟩ := hl; exact Heap.lt_size e
  refine call_all_walk (wpAny_pyIter_list hl ?_)
  refine ⟨s.heap.objs.size, [s.heap.objs.size, p], [s.heap.objs.size], its.toArray.size, _, _, fun i => (bs[i]?).getD true, rfl, Walks.list (A := X.A.in1) (I.ok.hd hc) _ p (Nat.ne_of_lt hlt) its.toArray,
    ⟨⟨_, Heap.get?_push_size _ rfl, rfl, rfl⟩, hl.push _⟩, fun i v s' Q' E' hP hQ => ?_, fun h' tk hk => ?_⟩
  · obtain ⟨b, e, rfl⟩ := hb.get i v (by simpa using hP)
    simp only [e, Option.getD_some] at hQ
    exact wpAny_truthy_bool hQ
  · have e : ((List.range its.toArray.size).all fun i => (bs[i]?).getD true) = bs.all id := by
      rw [List.size_toArray, hb.length]; exact LSm.range_all bs
    rw [e]
    exact ⟨.bl _, H, I.kept (t' := tk) (kept_iter' hk), rfl, q⟩
def boolsOf : List D → Option (List Bool)
  | [] => some []
  | .bl b :: r => (boolsOf r).map (b :: ·)
  | _ => none
theorem boolsOf_map (bs : List Bool) : boolsOf (bs.map D.bl) = some bs := by
  induction bs with
  | nil => rfl
  | cons b r ih => simp [boolsOf, ih]
theorem boolsOf_den {K : PySem.W.Frag} {F : Hp} : ∀ {ds : List D} {bs : List Bool} {vs : List V}, boolsOf ds = some bs → DenL K F ds vs → vs = bs.map V.bl
  | [], bs, vs, h, r => by simp only [boolsOf] at h; cases h; simp only [DenL] at r; subst r; rfl
  | .bl b :: ds, bs, vs, h, r => by
    simp only [boolsOf] at h
    cases e : boolsOf ds with
    | none => rw [e] at h; cases h
    | some bs' =>
      rw [e] at h
      cases h
      simp only [DenL, Den] at r
      obtain ⟨v, r', rfl, rfl, r⟩ := r
      rw [boolsOf_den e r]; rfl
  | .non :: _, _, _, h, _ => by cases h
  | .int _ :: _, _, _, h, _ => by cases h
  | .str _ :: _, _, _, h, _ => by cases h
  | .tup _ :: _, _, _, h, _ => by cases h
  | .lst _ :: _, _, _, h, _ => by cases h
  | .dct _ _ :: _, _, _, h, _ => by cases h
  | .obj _ :: _, _, _, h, _ => by cases h
  | .ty _ :: _, _, _, h, _ => by cases h
  | .exc _ :: _, _, _, h, _ => by cases h
  | .cls _ :: _, _, _, h, _ => by cases h
def allF (ds : List D) (Q : D → Prop) : Prop := match ds with
  | [.lst xs] => ∃ bs, boolsOf xs = some bs ∧ Q (.bl (bs.all id))
  | _ => False
theorem c3_all : Call3 X (fun xs H Q => ∃ (p : Addr) (bs : List Bool), xs = [.ref p] ∧ SqL X.K H p (bs.map V.bl) ∧ Q (.bl (bs.all id)) H) allF := by
  intro B σ F H env Q ds vs Z rp h hz hf
  unfold allF at hf
  split at hf
  · obtain ⟨bs, hb, q⟩ := hf
    simp only [DenL, Den] at h
    obtain ⟨v, r, rfl, ⟨p, ys, rfl, q', r⟩, rfl⟩ := h
    have := boolsOf_den hb r
    subst this
    exact ⟨p, bs, rfl, rp.fh.seq q', hz _ _ F _ rp (Same.refl _) den_bl q⟩
  · exact hf.elim
end
end L2.L3
set_option Elab.async false
set_option linter.all false
set_option maxRecDepth 100000
set_option maxHeartbeats 4000000
namespace L2.L3
open PySem PySem.Spec PyProof.Rows
section
variable {K : PySem.W.Frag} {B : Base} {F H : Hp} {σ : St} {env : En}
theorem Rep.bare (r : Rep K B F H σ env) : Rep K B F H [] [] :=
  ⟨r.f0, r.fh, r.h0, r.nf, fun i x q => by simp at q, fun i x q => by simp at q, fun i j _ _ _ _ q => by simp at q, fun i x q => by simp at q, fun i j _ _ _ _ q => by simp at q⟩
end
section
variable {X : Cx} {a b c e : Expr} {es : List Expr} {ta tb tc : TD} {tA tB' : TB} {ts : TDs} {pos : Pos} {rest : List Expr} {st : Stmt} {sts : List Stmt} {t u : TS3}
def dNext : TS3 := fun D env => D.nx env
def dSeq (t u : TS3) : TS3 := fun D env => t { D with nx := u D } env
theorem qss_nil : QSs X [] dNext := ⟨fun B σ F H env D rp h => wSs_of pss_nil ⟨F, env, rp, h⟩⟩
theorem qss_one (h1 : QS X st t) : QSs X [st] t := ⟨fun B σ F H env D rp h => wSs_of (pss_one ps_w) (h1 B σ F H env D rp h)⟩
theorem qss_cons (h1 : QS X st t) (h2 : QSs X sts u) : QSs X (st :: sts) (dSeq t u) := by
  refine ⟨?_⟩
  intro B σ F H env D rp h
  refine wSs_of (pss_cons ps_w pss_w) ?_
  exact wS_mono (h1 B σ F H env _ rp h) (fun σ' H' ⟨F', env', rp', q⟩ => h2 B σ' F' H' env' D rp' q) (fun _ _ q => q) (fun _ _ q => q) (fun _ _ q => q)
def dBreak : TS3 := fun D env => D.bk env
def dCont : TS3 := fun D env => D.ct env
def dRet (te : TD) : TS3 := fun D env => te env D.rt
theorem qs_ret (he : QE X e ta) : QS X (.Return (some e) pos) (dRet ta) := by
  refine ⟨?_⟩
  intro B σ F H env D rp h
  refine wS_of (ps_ret pe_w) ?_
  exact wE_mono (he B σ F H env _ rp h) fun v H' ⟨F', d, r', s', hd, q⟩ => ⟨F', d, r'.bare, hd, q⟩
def dRetN : TS3 := fun D _ => D.rt .non
def dIf (c : TB) (t u : TS3) : TS3 := fun D env => c env fun k => if k = true then t D env else u D env
theorem qs_if {xs ys : List Stmt} (hc : QT X c tA) (ha : QSs X xs t) (hb : QSs X ys u) : QS X (.If c xs ys pos) (dIf tA t u) := by
  refine ⟨?_⟩
  intro B σ F H env D rp h
  refine wS_of (ps_if pt_w pss_w pss_w) ?_
  refine wT_mono (hc B σ F H env _ rp h) fun k H1 ⟨F1, r1, s1, q1⟩ => ?_
  cases k with
  | true => exact ha B σ F1 H1 env D r1 q1
  | false => exact hb B σ F1 H1 env D r1 q1
def dNever : TS3 := fun _ _ => False
abbrev TG3 := D → En → (En → Prop) → Prop
abbrev TGs3 := List D → En → (En → Prop) → Prop
def wG (X : Cx) (tg : Expr) : TG := fun v σ H Q => ∀ (pins : List (Addr × Obj)) (s : Shared) (u : Value), Inv X pins σ H s → RelV v u →
  wpAny (model X.prog X.w) X.A (assign tg X.env u) (fun _ s' => ∃ σ' H', Inv X pins σ' H' s' ∧ Q σ' H') X.xe s
def wGs (X : Cx) (tg : List Expr) : TGs := fun vs σ H Q => ∀ (pins : List (Addr × Obj)) (s : Shared) (us : List Value), Inv X pins σ H s → Vals vs us →
  wpAny (model X.prog X.w) X.A (assignInOrder ((assignEach tg X.env).map (·.2)) us) (fun _ s' => ∃ σ' H', Inv X pins σ' H' s' ∧ Q σ' H') X.xe s
theorem pg_w {tg : Expr} : PG X tg (wG X tg) := fun pins s σ H v u Q I r h => h pins s u I r
theorem pgs_w {tg : List Expr} : PGs X tg (wGs X tg) := fun pins s σ H v u Q I r h => h pins s u I r
theorem wG_of {tg : Expr} {g : TG} {v : V} {σ : St} {H : Hp} {Q : St → Hp → Prop} (h : PG X tg g) (q : g v σ H Q) : wG X tg v σ H Q := fun pins s u I r => h pins s σ H v u Q I r q
theorem wGs_of {tg : List Expr} {g : TGs} {v : List V} {σ : St} {H : Hp} {Q : St → Hp → Prop} (h : PGs X tg g) (q : g v σ H Q) : wGs X tg v σ H Q := fun pins s u I r => h pins s σ H v u Q I r q
theorem wG_mono {tg : Expr} {v : V} {σ : St} {H : Hp} {Q Q' : St → Hp → Prop} (h : wG X tg v σ H Q) (i : ∀ σ H, Q σ H → Q' σ H) : wG X tg v σ H Q' := fun pins s u I r => thn (h pins s u I r) fun _ _ ⟨σ', H', I', q⟩ => ⟨σ', H', I', i _ _ q⟩
theorem wGs_mono {tg : List Expr} {v : List V} {σ : St} {H : Hp} {Q Q' : St → Hp → Prop} (h : wGs X tg v σ H Q) (i : ∀ σ H, Q σ H → Q' σ H) : wGs X tg v σ H Q' := fun pins s u I r => thn (h pins s u I r) fun _ _ ⟨σ', H', I', q⟩ => ⟨σ', H', I', i _ _ q⟩
def RG (X : Cx) (B : Base) (F : Hp) (Q : En → Prop) : St → Hp → Prop := fun σ' H' => ∃ F' env', Rep X.K B F' H' σ' env' ∧ Same F F' ∧ Q env'
structure QG (X : Cx) (tg : Expr) (g : TG3) : Prop where
  of ::
  run : ∀ (B : Base) (σ : St) (F H : Hp) (env : En) (Q : En → Prop) (d : D) (v : V), Rep X.K B F H σ env → Den X.K F d v → g d env Q → wG X tg v σ H (RG X B F Q)
instance {X : Cx} {tg : Expr} {g : TG3} : CoeFun (QG X tg g) (fun _ => ∀ (B : Base) (σ : St) (F H : Hp) (env : En) (Q : En → Prop) (d : D) (v : V), Rep X.K B F H σ env → Den X.K F d v → g d env Q → wG X tg v σ H (RG X B F Q)) := ⟨QG.run⟩
structure QGs (X : Cx) (tg : List Expr) (g : TGs3) : Prop where
  of ::
  run : ∀ (B : Base) (σ : St) (F H : Hp) (env : En) (Q : En → Prop) (ds : List D) (vs : List V), Rep X.K B F H σ env → DenL X.K F ds vs → g ds env Q → wGs X tg vs σ H (RG X B F Q)
instance {X : Cx} {tg : List Expr} {g : TGs3} : CoeFun (QGs X tg g) (fun _ => ∀ (B : Base) (σ : St) (F H : Hp) (env : En) (Q : En → Prop) (ds : List D) (vs : List V), Rep X.K B F H σ env → DenL X.K F ds vs → g ds env Q → wGs X tg vs σ H (RG X B F Q)) := ⟨QGs.run⟩
def kName (i : Nat) : TG3 := fun x env Q => Q (env.set i (some (.d x)))
theorem qg_name {x : Str} (i : Nat) (hN : X.N.Nodup) (hi : X.N[i]? = some x := by rfl) (hx : Loc X.env.scope x := by first | exact Or.inl rfl | exact Or.inr rfl) (hf : X.fn x = true ∨ X.env.scope.names.lookup x = some .local := by first | exact .inl rfl | exact .inr rfl) : QG X (.Name x pos) (kName i) := by
  refine ⟨?_⟩
  intro B σ F H env Q d v rp hd h pins s u I r
  refine pg_name (i := i) hN hi hx hf pins s σ H v u _ I r ?_
  refine ⟨F, _, rp.set hd ?_, Same.refl _, h⟩
  rw [I.len]; exact (List.getElem?_eq_some_iff.mp hi).1
def kNil : TGs3 := fun xs env Q => xs = [] ∧ Q env
def kCons (g : TG3) (gs : TGs3) : TGs3 := fun xs env Q => ∃ x r, xs = x :: r ∧ g x env fun env' => gs r env' Q
theorem qgs_nil : QGs X [] kNil := by
  refine ⟨?_⟩
  intro B σ F H env Q ds vs rp hd h
  obtain ⟨rfl, q⟩ := h
  simp only [DenL] at hd
  exact wGs_of pgs_nil ⟨hd, F, env, rp, Same.refl _, q⟩
theorem qgs_cons {g : TG3} {gs : TGs3} (h1 : QG X e g) (h2 : QGs X es gs) (hs : (assignEach (e :: es) X.env).map (·.2) = assign e X.env :: (assignEach es X.env).map (·.2) := by rfl) : QGs X (e :: es) (kCons g gs) := by
  refine ⟨?_⟩
  intro B σ F H env Q ds vs rp hd h
  obtain ⟨x, r, rfl, q⟩ := h
  simp only [DenL] at hd
  obtain ⟨v, vr, rfl, a1, b1⟩ := hd
  refine wGs_of (pgs_cons pg_w pgs_w hs) ⟨v, vr, rfl, ?_⟩
  refine wG_mono (h1 B σ F H env _ x v rp a1 q) fun σ1 H1 ⟨F1, env1, r1, s1, q1⟩ => ?_
  exact wGs_mono (h2 B σ1 F1 H1 env1 Q r vr r1 (DenL.mono s1 _ _ b1) q1) fun σ2 H2 ⟨F2, env2, r2, s2, q2⟩ => ⟨F2, env2, r2, s1.trans s2, q2⟩
def kTup (n : Nat) (gs : TGs3) : TG3 := fun x env Q => ∃ xs, x = .tup xs ∧ xs.length = n ∧ gs xs env Q
theorem qg_tup {k n : Nat} {gs : TGs3} (hc : X.calm = true) (h : QGs X es gs) (hn : (assignEach es X.env).length = n := by rfl) (hst : (assignEach es X.env).findIdx? (·.1) = none := by rfl) : QG X (.Tuple es k pos) (kTup n gs) := by
  refine ⟨?_⟩
  intro B σ F H env Q d v rp hd hq
  obtain ⟨xs, rfl, hl, q⟩ := hq
  simp only [Den] at hd
  obtain ⟨p, vs, rfl, hs, r⟩ := hd
  refine wG_of (pg_tup hc pgs_w hn hst) ⟨p, vs, rfl, Same.seqT rp.fh hs, by rw [← r.length]; exact hl, ?_⟩
  exact h B σ F H env Q xs vs rp r q
def dAsg (te : TD) (g : TG3) : TS3 := fun D env => te env fun x => g x env D.nx
theorem qs_asg {tg : Expr} {g : TG3} (he : QE X e ta) (hg : QG X tg g) (hs : swapsWithSole [tg] e pos.line X.env = pure false := by rfl) (hw : swappedStores [tg] e X.env = pure none := by rfl)
    (h1 : (assignEach [tg] X.env).map (·.2) = [assign tg X.env] := by rfl) : QS X (.Assign [tg] e pos) (dAsg ta g) := by
  refine ⟨?_⟩
  intro B σ F H env D rp h
  refine wS_of (ps_asg pe_w pg_w hs hw h1) ?_
  refine wE_mono (he B σ F H env _ rp h) fun v H1 ⟨F1, d, r1, s1, d1, q1⟩ => ?_
  exact wG_mono (hg B σ F1 H1 env _ d v r1 d1 q1) fun σ2 H2 ⟨F2, env2, r2, s2, q2⟩ => ⟨F2, env2, r2, q2⟩
def dSet (i : Nat) (te : TD) : TS3 := fun D env => te env fun x => D.nx (env.set i (some (.d x)))
theorem qs_set {x : Str} {pos' : Pos} (i : Nat) (hN : X.N.Nodup) (he : QE X e ta) (hi : X.N[i]? = some x := by rfl) (hx : Loc X.env.scope x := by first | exact Or.inl rfl | exact Or.inr rfl) (hs : swapsWith e (some (.Name x pos')) pos.line X.env = pure false := by rfl)
    (hf : X.fn x = true ∨ X.env.scope.names.lookup x = some .local := by first | exact .inl rfl | exact .inr rfl) : QS X (.Assign [.Name x pos'] e pos) (dSet i ta) := by
  refine ⟨?_⟩
  intro B σ F H env D rp h pins s I
  refine ps_set (i := i) hN hi hx pe_w hs hf pins s σ H _ I ?_
  refine wE_mono (he B σ F H env _ rp h) fun v H1 ⟨F1, d, r1, s1, d1, q1⟩ => ⟨F1, _, r1.set d1 ?_, q1⟩
  rw [I.len]; exact (List.getElem?_eq_some_iff.mp hi).1
def dPar (i j : Nat) (ts : TDs) : TS3 := fun D env => ts env fun xs => ∃ x y, xs = [x, y] ∧ D.nx ((env.set i (some (.d x))).set j (some (.d y)))
theorem qs_par {x y : Str} {px py pt : Pos} {kt k2 pt2} (i j : Nat) (hc : X.calm = true) (hN : X.N.Nodup) (ha : QA X [a, b] ts) (hi : X.N[i]? = some x := by rfl) (hj : X.N[j]? = some y := by rfl) (hij : i ≠ j := by decide)
    (hx : X.env.scope.names.lookup x = some .local := by rfl) (hy : X.env.scope.names.lookup y = some .local := by rfl)
    (hw : swappedStores [.Tuple [.Name x px, .Name y py] kt pt] (.Tuple [a, b] k2 pt2) X.env = pure (some [x, y]) := by rfl)
    (hs : swapsWithSole [.Tuple [.Name x px, .Name y py] kt pt] (.Tuple [a, b] k2 pt2) pos.line X.env = pure false := by rfl) :
    QS X (.Assign [.Tuple [.Name x px, .Name y py] kt pt] (.Tuple [a, b] k2 pt2) pos) (dPar i j ts) := by
  refine ⟨?_⟩
  intro B σ F H env D rp h pins s I
  refine ps_par (i := i) (j := j) hc hN hi hj hij hx hy pa_w hw hs pins s σ H _ I ?_
  refine wA_mono (ha B σ F H env _ rp h) fun vs H1 ⟨F1, ds, r1, s1, d1, x, y, hxy, q1⟩ => ?_
  subst hxy
  simp only [DenL] at d1
  obtain ⟨v, r, rfl, a1, v', r', rfl, a2, rfl⟩ := d1
  have l1 : i < σ.length := by rw [I.len]; exact (List.getElem?_eq_some_iff.mp hi).1
  have l2 : j < (σ.set i (some v)).length := by rw [List.length_set, I.len]; exact (List.getElem?_eq_some_iff.mp hj).1
  exact ⟨v, v', rfl, F1, _, (r1.set a1 l1).set a2 l2, q1⟩
def dWhile (c : TB) (tb : TS3) : TS3 := fun D env => ∃ (I : En → Prop) (μ : En → Nat), I env ∧ ∀ env, I env → c env fun k => if k = true then tb { D with nx := fun e' => I e' ∧ μ e' < μ env, ct := fun e' => I e' ∧ μ e' < μ env, bk := D.nx } env else D.nx env
theorem qs_while {body : List Stmt} (hp : PassesOwn (model X.prog X.w) X.A X.env X.xe) (hc : QT X c tA) (hb : QSs X body t) : QS X (.While c body [] pos) (dWhile tA t) := by
  refine ⟨?_⟩
  intro B σ F H env D rp h
  obtain ⟨I, μ, i0, turn⟩ := h
  refine wS_of (ps_while hp pt_w pss_w) ?_
  refine ⟨fun m σ H => ∃ F env, Rep X.K B F H σ env ∧ I env ∧ μ env = m, ⟨_, F, env, rp, i0, rfl⟩, ?_⟩
  rintro m σ1 H1 ⟨F1, env1, r1, i1, rfl⟩
  refine wT_mono (hc B σ1 F1 H1 env1 _ r1 (turn env1 i1)) fun k H2 ⟨F2, r2, s2, q2⟩ => ?_
  cases k with
  | false => exact ⟨F2, env1, r2, q2⟩
  | true =>
    refine ⟨fun σ' H' => ∃ F' env', Rep X.K B F' H' σ' env' ∧ I env' ∧ μ env' < μ env1, fun σ' H' ⟨F', env', r', i', l⟩ => ⟨_, l, F', env', r', i', rfl⟩, ?_⟩
    exact hb B σ1 F2 H2 env1 _ r2 q2
def turns (g : TG3) (tb : TS3) (Z : Ends3) : List D → En → Prop
  | [], env => Z.nx env
  | x :: xs, env => g x env fun env' => tb { Z with nx := turns g tb Z xs, ct := turns g tb Z xs, bk := Z.nx } env'
def signsD (z : Str) : List D := z.cps.toList.map fun c => .str ⟨#[c]⟩
def itemsD : D → Option (List D)
  | .lst xs => some xs
  | .tup xs => some xs
  | .str z => some (signsD z)
  | _ => none
def Its (z : Str) : It := ⟨fun i _ => i < z.cps.size, fun i H v H' => H' = H ∧ ∃ c, z.cps[i]? = some c ∧ v = .str ⟨#[c]⟩, fun i _ => z.cps.size ≤ i⟩
theorem turn_str {P : Program} {w : World} {K : PySem.W.Frag} {tg : Expr} (it : Addr) (z : Str) (t : Tok) (nm : String) (hn : ["enumerate", "zip", "dict_itemiterator", "dict_reverseitemiterator", "odict_iterator", "itertools.zip_longest", "itertools.pairwise"].contains nm = false)
    (W : ∀ A : Around, A.handled = none → Walks P w A it [it] [it] z.cps.size (SignAt z) (fun i h => h.IsStrIter it nm z t i)) (sf : ∀ (A : Around) (i : Nat) (s : Shared) (Q : Value → Shared → Prop) (E : Value → Shared → Prop), s.heap.IsStrIter it nm z t i → Q (.ref it) s → wpAny (model P w) A (pyIter (.ref it)) Q E s)
    (dn : ∀ (A : Around) (i : Nat) (s : Shared) (Q : Option Value → Shared → Prop) (E : Value → Shared → Prop), A.handled = none → s.heap.IsStrIter it nm z t i → z.cps[i]? = none → (∀ h', Heap.ExtBut it s.heap h' → Q none { s with heap := h' }) → wpAny (model P w) A (pyNext (.ref it)) Q E s) :
    Turn P w K tg (Its z) [it] it (fun i h => h.IsStrIter it nm z t i) where
  mem := by simp
  obj := fun i h st b hb => by
    have e : b = it := by simpa using hb
    subst e
    obtain ⟨o, e, c, d⟩ := st
    exact ⟨o, e, fun v z => by rw [d] at z; cases z⟩
  keep := fun i h h' st k => by
    obtain ⟨o, e, c, d⟩ := st
    exact ⟨o, k it (by simp) o e, c, d⟩
  item := by
    intro X hP hw hK hc i pins s σ H E I hf st hg
    subst hP hw hK
    obtain ⟨f0, f1, f2, f3, f4, f5⟩ := hf it (by simp)
    refine (W X.A (I.ok.hd hc)).item i s _ _ hg st fun v h' tk hv st' kk => ?_
    obtain ⟨c, u, hc', rfl⟩ := hv
    have I1 : Inv X pins σ H { s with heap := h', toks := tk } := I.turned (fun b o hb e => kk b o (by simpa using hb) e) f0 f1 f3 f4 f5
    obtain ⟨o, e, c', d⟩ := id st'
    exact ⟨_, rfl, go_of (s := { s with heap := h', toks := tk }) e c' d hn ⟨.str ⟨#[c]⟩, H, I1, ⟨u, rfl⟩, ⟨rfl, c, hc', rfl⟩, st', fun b hb => (hf b hb).1⟩⟩
  done := by
    intro X hP hw hK hc i pins s σ H E I hf st hg
    subst hP hw hK
    obtain ⟨f0, f1, f2, f3, f4, f5⟩ := hf it (by simp)
    have hg' : z.cps.size ≤ i := hg
    exact dn X.A i s _ _ (I.ok.hd hc) st (by simp; exact hg') fun h' eb => ⟨rfl, I.turned (t' := s.toks) (fun b o hb e => eb b o hb e) f0 f1 f3 f4 f5⟩
  self := fun A i s Q E st h => sf A i s Q E st h
def iSeq (K : PySem.W.Frag) (tl : TE) : TI := fun σ H R => tl σ H fun x H1 => (∃ a, x = .ref a ∧ (((∃ xs, SqL K H1 a xs) ∧ R (Itl K a) H1) ∨ ((∃ xs, SqT K H1 a xs) ∧ R (Itt K a) H1))) ∨ ∃ z, x = .str z ∧ R (Its z) H1
theorem pi_seq {tg l : Expr} {tl : TE} (hl : PE X l tl) : PI X tg l (iSeq X.K tl) := by
  intro pins s σ H R I h
  refine thn (hl pins s σ H _ I h) fun v s1 ⟨x, H1, I1, r1, q1⟩ => ?_
  rcases q1 with ⟨a, e, q⟩ | ⟨z, e, q⟩
  rotate_left
  · subst e
    obtain ⟨t, rfl⟩ := r1
    have fin : ∀ (o : Obj) (nm : String), (∀ v, o.data ≠ .cell v) → Turn X.prog X.w X.K tg (Its z) [s1.heap.objs.size] s1.heap.objs.size (fun i h => h.IsStrIter s1.heap.objs.size nm z t i) → (s1.heap.push o).IsStrIter s1.heap.objs.size nm z t 0 →
        PIE X pins σ tg R (.ref s1.heap.objs.size) { s1 with heap := s1.heap.push o } := fun o nm hcell T st => by
      refine ⟨s1.heap.objs.size, [s1.heap.objs.size], _, _, H1, rfl, I1.kept (t' := s1.toks) fun b o e => Heap.get?_push_of_some _ e, T, st, fun b hb => ?_, q⟩
      have e : b = s1.heap.objs.size := by simpa using hb
      subst e
      exact I1.fpOk (Nat.le_refl _) (I1.hok.fresh (Nat.le_refl _))
    cases ha : z.cps.all (· < 128)
    · exact wpAny_pyIter_wide ha (fin _ "str_iterator" (fun v e => by cases e) (turn_str _ z t "str_iterator" (by decide) (fun A hA => Walks.strWide hA _ z t) (fun A i s Q E st h => wpAny_pyIter_striter_wide st h) (fun A i s Q E hh st hx h => wpAny_pyNext_wide_end hh st hx h)) ⟨_, Heap.get?_push_size _ rfl, rfl, rfl⟩)
    · exact wpAny_pyIter_ascii ha (fin _ "str_ascii_iterator" (fun v e => by cases e) (turn_str _ z t "str_ascii_iterator" (by decide) (fun A hA => Walks.strAscii hA _ z t) (fun A i s Q E st h => wpAny_pyIter_striter_ascii st h) (fun A i s Q E hh st hx h => wpAny_pyNext_ascii_end hh st hx h)) ⟨_, Heap.get?_push_size _ rfl, rfl, rfl⟩)
  subst e
  cases r1
  rcases q with ⟨⟨xs, hq⟩, q⟩ | ⟨⟨xs, hq⟩, q⟩
  · obtain ⟨its, rv, p, hz⟩ := I1.list hq
    refine wpAny_pyIter_list p.isList ?_
    refine ⟨s1.heap.objs.size, [s1.heap.objs.size], _, _, H1, rfl, I1.kept (t' := s1.toks) fun b o e => Heap.get?_push_of_some _ e, turn_list a _, ⟨_, Heap.get?_push_size _ rfl, rfl, rfl⟩, fun b hb => ?_, q⟩
    have e : b = s1.heap.objs.size := by simpa using hb
    subst e
    exact I1.fpOk (Nat.le_refl _) (I1.hok.fresh (Nat.le_refl _))
  · obtain ⟨its, rv, p, hz⟩ := I1.tuple hq
    refine wpAny_pyIter_tuple (show s1.heap.IsTuple a its.toArray from p) ?_
    refine ⟨s1.heap.objs.size, [s1.heap.objs.size], _, _, H1, rfl, I1.kept (t' := s1.toks) fun b o e => Heap.get?_push_of_some _ e, turn_tuple a _, ⟨_, Heap.get?_push_size _ rfl, rfl, rfl⟩, fun b hb => ?_, q⟩
    have e : b = s1.heap.objs.size := by simpa using hb
    subst e
    exact I1.fpOk (Nat.le_refl _) (I1.hok.fresh (Nat.le_refl _))
theorem denL_signs {K : PySem.W.Frag} {F : Hp} (z : Str) : DenL K F (signsD z) (z.cps.toList.map fun c => V.str ⟨#[c]⟩) := by
  unfold signsD
  induction z.cps.toList with
  | nil => exact denL_nil
  | cons c r ih => exact denL_cons den_str ih
def dFor (te : TD) (g : TG3) (tb : TS3) : TS3 := fun D env => te env fun x => ∃ xs, itemsD x = some xs ∧ turns g tb D xs env
theorem drop_cons {α : Type} {xs : List α} {i : Nat} {x : α} (h : xs[i]? = some x) : xs.drop i = x :: xs.drop (i + 1) := by
  obtain ⟨hl, e⟩ := List.getElem?_eq_some_iff.mp h
  rw [List.drop_eq_getElem_cons hl, e]
theorem RS.same {B : Base} {G : Hp} {D : Ends3} (s : Same B.F G) : (∀ σ H, (RS X ⟨G, B.H, B.N, B.nb⟩ D).nx σ H → (RS X B D).nx σ H) ∧ (∀ v H, (RS X ⟨G, B.H, B.N, B.nb⟩ D).rt v H → (RS X B D).rt v H) ∧
    (∀ σ H, (RS X ⟨G, B.H, B.N, B.nb⟩ D).bk σ H → (RS X B D).bk σ H) ∧ (∀ σ H, (RS X ⟨G, B.H, B.N, B.nb⟩ D).ct σ H → (RS X B D).ct σ H) :=
  ⟨fun _ _ ⟨F', env', r, q⟩ => ⟨F', env', r.back s, q⟩, fun _ _ ⟨F', d, r, hd, q⟩ => ⟨F', d, r.back s, hd, q⟩, fun _ _ ⟨F', env', r, q⟩ => ⟨F', env', r.back s, q⟩, fun _ _ ⟨F', env', r, q⟩ => ⟨F', env', r.back s, q⟩⟩
theorem qs_for {tg iter : Expr} {body : List Stmt} {g : TG3} (hp : PassesOwn (model X.prog X.w) X.A X.env X.xe) (hc : X.calm = true) (hi : QE X iter ta) (hg : QG X tg g) (hb : QSs X body t)
    (hs : ∀ x, foldedSetIterable iter X.env x = pure x := by intro _; rfl) : QS X (.For tg iter body [] pos) (dFor ta g t) := by
  refine ⟨?_⟩
  intro B σ F H env D rp h
  refine wS_of (ps_for hp hc (pi_seq pe_w) pg_w pss_w hs) ?_
  refine wE_mono (hi B σ F H env _ rp h) fun v H1 ⟨F1, d, r1, s1, d1, xs, hx, q1⟩ => ?_
  have core : ∀ (a : Addr) (vs : List V) (J : It), DenL X.K F1 xs vs → (∀ (i : Nat) (x : V) (G H' : Hp), Same F1 G → Same G H' → vs[i]? = some x → J.go i H') → (∀ (i : Nat) (x : V) (G H' : Hp) (y : V) (H'' : Hp), Same F1 G → Same G H' → vs[i]? = some x → J.yld i H' y H'' → H'' = H' ∧ y = x) →
      (∀ (G H' : Hp), Same F1 G → Same G H' → J.stop vs.length H') →
      ∃ W : Nat → Nat → St → Hp → Prop, (∃ m, W 0 m σ H1) ∧ ∀ i m σ H, W i m σ H → (J.stop i H ∧ (RS X B D).nx σ H) ∨ (J.go i H ∧ ∃ N : St → Hp → Prop, (∀ σ' H', N σ' H' → ∃ m', m' < m ∧ W (i + 1) m' σ' H') ∧
        ∀ x H', J.yld i H x H' → wG X tg x σ H' fun σ2 H2 => wSs X body { RS X B D with nx := N, ct := N, bk := (RS X B D).nx } σ2 H2) := by
    intro a vs J dl go yld stop
    have hlen := dl.length
    refine ⟨fun i m σ H => m = vs.length - i ∧ i ≤ vs.length ∧ ∃ F env, Rep X.K ⟨F1, B.H, B.N, B.nb⟩ F H σ env ∧ turns g t D (xs.drop i) env, ⟨vs.length, by simp, Nat.zero_le _, F1, env, r1.now, by simpa using q1⟩, ?_⟩
    rintro i m σ2 H2 ⟨rfl, hi2, F2, env2, r2, q2⟩
    by_cases hlt : i < vs.length
    · have hv : vs[i]? = some vs[i] := by simp [hlt]
      obtain ⟨dx, hdx, ddx⟩ := dl.getV hv
      rw [drop_cons hdx] at q2
      refine .inr ⟨go i _ F2 H2 r2.f0 r2.fh hv, fun σ' H' => ∃ F env, Rep X.K ⟨F1, B.H, B.N, B.nb⟩ F H' σ' env ∧ turns g t D (xs.drop (i + 1)) env, fun σ' H' ⟨F', env', r', q'⟩ => ⟨vs.length - (i + 1), by omega, rfl, by omega, F', env', r', q'⟩, fun y H' hy => ?_⟩
      obtain ⟨rfl, rfl⟩ := yld i _ F2 H2 y H' r2.f0 r2.fh hv hy
      have st := hg ⟨F1, B.H, B.N, B.nb⟩ σ2 F2 _ env2 _ dx _ r2 (Den.mono r2.f0 _ _ ddx) q2
      refine wG_mono st fun σ3 H3 ⟨F3, env3, r3, s3, q3⟩ => ?_
      have bd := hb ⟨F1, B.H, B.N, B.nb⟩ σ3 F3 H3 env3 _ r3 q3
      obtain ⟨z1, z2, z3, z4⟩ := RS.same (X := X) (B := B) (D := D) (r1.f0)
      exact wSs_mono bd (fun _ _ q => q) z2 z1 (fun _ _ q => q)
    · have e : i = vs.length := by omega
      subst e
      rw [List.drop_eq_nil_of_le (by omega)] at q2
      exact .inl ⟨stop F2 H2 r2.f0 r2.fh, F2, env2, r2.back r1.f0, q2⟩
  cases d with
  | lst ys =>
    simp only [itemsD] at hx; cases hx
    simp only [Den] at d1
    obtain ⟨a, vs, rfl, q, r⟩ := d1
    refine .inl ⟨a, rfl, .inl ⟨⟨vs, r1.fh.seq q⟩, core a vs (Itl X.K a) r (fun i x G H' s1 s2 hv => ⟨vs, x, s2.seq (s1.seq q), hv⟩) (fun i x G H' y H'' s1 s2 hv hy => ?_) (fun G H' s1 s2 => ⟨vs, s2.seq (s1.seq q), Nat.le_refl _⟩)⟩⟩
    obtain ⟨e1, e2⟩ := hy
    have := e2 vs (s2.seq (s1.seq q))
    rw [hv] at this
    exact ⟨e1, (Option.some.inj this).symm⟩
  | tup ys =>
    simp only [itemsD] at hx; cases hx
    simp only [Den] at d1
    obtain ⟨a, vs, rfl, q, r⟩ := d1
    refine .inl ⟨a, rfl, .inr ⟨⟨vs, Same.seqT r1.fh q⟩, core a vs (Itt X.K a) r (fun i x G H' s1 s2 hv => ⟨vs, x, Same.seqT s2 (Same.seqT s1 q), hv⟩) (fun i x G H' y H'' s1 s2 hv hy => ?_) (fun G H' s1 s2 => ⟨vs, Same.seqT s2 (Same.seqT s1 q), Nat.le_refl _⟩)⟩⟩
    obtain ⟨e1, e2⟩ := hy
    have := e2 vs (Same.seqT s2 (Same.seqT s1 q))
    rw [hv] at this
    exact ⟨e1, (Option.some.inj this).symm⟩
  | str z =>
    simp only [itemsD] at hx; cases hx
    simp only [Den] at d1
    subst d1
    refine .inr ⟨z, rfl, core 0 (z.cps.toList.map fun c => V.str ⟨#[c]⟩) (Its z) (denL_signs z) (fun i x G H' s1 s2 hv => ?_) (fun i x G H' y H'' s1 s2 hv hy => ?_) (fun G H' s1 s2 => ?_)⟩
    · have := (List.getElem?_eq_some_iff.mp hv).1
      show i < z.cps.size
      simpa using this
    · obtain ⟨e1, c, hc, rfl⟩ := hy
      rw [List.getElem?_map, Array.getElem?_toList, hc] at hv
      exact ⟨e1, Option.some.inj hv⟩
    · show z.cps.size ≤ _
      simp
  | _ => simp only [itemsD] at hx; cases hx
def intsD (lo : Int) (n : Nat) : List D := (List.range n).map fun (i : Nat) => D.int (lo + (i : Int))
def dForR (f : List D → (Int → Nat → Prop) → Prop) (ts : TDs) (g : TG3) (tb : TS3) : TS3 := fun D env => ts env fun xs => f xs fun lo n => turns g tb D (intsD lo n) env
def rng1 (xs : List D) (Q : Int → Nat → Prop) : Prop := match xs with
  | [.int j] => (-(2 ^ 62) ≤ j ∧ j < 2 ^ 62) ∧ Q 0 j.toNat
  | _ => False
def rng2 (xs : List D) (Q : Int → Nat → Prop) : Prop := match xs with
  | [.int i, .int j] => (-(2 ^ 62) ≤ i ∧ i < 2 ^ 62 ∧ -(2 ^ 62) ≤ j ∧ j < 2 ^ 62) ∧ Q i (j - i).toNat
  | _ => False
theorem for_ints {tg : Expr} {body : List Stmt} {g : TG3} (hg : QG X tg g) (hb : QSs X body t) {B : Base} {D : Ends3} {lo : Int} {n : Nat} {σ : St} {F1 H1 : Hp} {env : En} (r1 : Rep X.K B F1 H1 σ env) (q1 : turns g t D (intsD lo n) env) :
    ∃ W : Nat → Nat → St → Hp → Prop, (∃ m, W 0 m σ H1) ∧ ∀ i m σ H, W i m σ H → ((Itr lo n).stop i H ∧ (RS X B D).nx σ H) ∨ ((Itr lo n).go i H ∧ ∃ N : St → Hp → Prop, (∀ σ' H', N σ' H' → ∃ m', m' < m ∧ W (i + 1) m' σ' H') ∧
        ∀ x H', (Itr lo n).yld i H x H' → wG X tg x σ H' fun σ2 H2 => wSs X body { RS X B D with nx := N, ct := N, bk := (RS X B D).nx } σ2 H2) := by
  have hl : (intsD lo n).length = n := by simp [intsD]
  refine ⟨fun i m σ H => m = n - i ∧ i ≤ n ∧ ∃ F env, Rep X.K B F H σ env ∧ turns g t D ((intsD lo n).drop i) env, ⟨n, by simp, Nat.zero_le _, F1, env, r1, by simpa using q1⟩, ?_⟩
  rintro i m σ2 H2 ⟨rfl, hi2, F2, env2, r2, q2⟩
  by_cases hlt : i < n
  · have hdx : (intsD lo n)[i]? = some (L3.D.int (lo + (i : Int))) := by simp [intsD, hlt]
    rw [drop_cons hdx] at q2
    refine .inr ⟨hlt, fun σ' H' => ∃ F env, Rep X.K B F H' σ' env ∧ turns g t D ((intsD lo n).drop (i + 1)) env, fun σ' H' ⟨F', env', r', q'⟩ => ⟨n - (i + 1), by omega, rfl, by omega, F', env', r', q'⟩, fun y H' hy => ?_⟩
    obtain ⟨rfl, rfl⟩ := hy
    refine wG_mono (hg B σ2 F2 _ env2 _ _ _ r2 den_int q2) fun σ3 H3 ⟨F3, env3, r3, s3, q3⟩ => ?_
    exact wSs_mono (hb B σ3 F3 H3 env3 _ r3 q3) (fun _ _ q => q) (fun _ _ q => q) (fun _ _ q => q) (fun _ _ q => q)
  · have e : i = n := by omega
    subst e
    rw [List.drop_eq_nil_of_le (by omega)] at q2
    exact .inl ⟨Nat.le_refl _, F2, env2, r2, q2⟩
theorem qs_forR1 {tg : Expr} {body : List Stmt} {g : TG3} {p : Pos} {pos2 : Pos} (hp : PassesOwn (model X.prog X.w) X.A X.env X.xe) (hc : X.calm = true) (hgl : Gl X "range") (hm : X.mg "range" = none) (ha : QA X [a] ts) (hg : QG X tg g) (hb : QSs X body t)
    (hst : starEach [a] X.env = [(false, eval a X.env)] := by rfl) (hs : ∀ x, foldedSetIterable (.Call (.Name "range" p) [a] [] pos2) X.env x = pure x := by intro _; rfl) : QS X (.For tg (.Call (.Name "range" p) [a] [] pos2) body [] pos) (dForR rng1 ts g t) := by
  refine ⟨?_⟩
  intro B σ F H env D rp h
  refine wS_of (ps_for hp hc (pi_range1 hgl hm pa_w hst) pg_w pss_w hs) ?_
  refine wA_mono (ha B σ F H env _ rp h) fun vs H1 ⟨F1, ds, r1, s1, d1, q1⟩ => ?_
  dsimp only at q1; unfold rng1 at q1
  split at q1
  · simp only [DenL, Den] at d1
    obtain ⟨v, r, rfl, rfl, rfl⟩ := d1
    exact ⟨_, rfl, q1.1.1, q1.1.2, for_ints hg hb r1 q1.2⟩
  · exact q1.elim
def RF (X : Cx) (B : Base) (σ : St) (env : En) (F : Hp) (Q : List D → Prop) : VK := fun v H' => ∃ F' H1 p vs ds, v = .ref p ∧ H1 p = none ∧ H' = upd H1 p (.lst vs) ∧ Rep X.K B F' H1 σ env ∧ Same F F' ∧ DenL X.K F' ds vs ∧ Q ds
structure QF (X : Cx) (e : Expr) (t : TDs) : Prop where
  of ::
  run : ∀ (B : Base) (σ : St) (F H : Hp) (env : En) (Q : List D → Prop), Rep X.K B F H σ env → t env Q → wE X e σ H (RF X B σ env F Q)
instance {X : Cx} {e : Expr} {t : TDs} : CoeFun (QF X e t) (fun _ => ∀ (B : Base) (σ : St) (F H : Hp) (env : En) (Q : List D → Prop), Rep X.K B F H σ env → t env Q → wE X e σ H (RF X B σ env F Q)) := ⟨QF.run⟩
def cFew (ts : TDs) : TDs := fun env Q => ts env fun xs => xs.length ≤ sizeLine ∧ Q xs
theorem qf_lst (h : QA X es ts) : QF X (.List es pos) (cFew ts) := by
  refine ⟨?_⟩
  intro B σ F H env Q rp hq
  refine wE_of (pe_lst pa_w) ?_
  exact wA_mono (h B σ F H env _ rp hq) fun vs H1 ⟨F1, ds, r1, s1, d1, z, q1⟩ => ⟨by rw [← d1.length]; exact z, fun p hp => ⟨F1, H1, p, vs, ds, rfl, hp, rfl, r1, s1, d1, q1⟩⟩
def dSetOwn (i : Nat) (ts : TDs) : TS3 := fun D env => ts env fun xs => D.nx (env.set i (some (.own xs)))
theorem qs_setOwn {x : Str} {pos' : Pos} (i : Nat) (hN : X.N.Nodup) (he : QF X e ts) (hi : X.N[i]? = some x := by rfl) (hx : Loc X.env.scope x := by first | exact Or.inl rfl | exact Or.inr rfl) (hs : swapsWith e (some (.Name x pos')) pos.line X.env = pure false := by rfl)
    (hf : X.fn x = true ∨ X.env.scope.names.lookup x = some .local := by first | exact .inl rfl | exact .inr rfl) : QS X (.Assign [.Name x pos'] e pos) (dSetOwn i ts) := by
  refine ⟨?_⟩
  intro B σ F H env D rp h pins s I
  refine ps_set (i := i) hN hi hx pe_w hs hf pins s σ H _ I ?_
  refine wE_mono (he B σ F H env _ rp h) fun v H' ⟨F1, H1, p, vs, ds, e1, hp, e2, r1, s1, d1, q1⟩ => ?_
  subst e1 e2
  refine ⟨F1, _, r1.setOwn hp d1 ?_, q1⟩
  rw [I.len]; exact (List.getElem?_eq_some_iff.mp hi).1
def dAppend (i : Nat) (te : TD) : TS3 := fun D env => ∃ xs, env[i]? = some (some (.own xs)) ∧ xs.length < sizeLine ∧ te env fun x => D.nx (env.set i (some (.own (xs ++ [x]))))
theorem qs_append {x : Str} {px apos cpos : Pos} (i : Nat) (he : QE X e ta) (hN : X.N[i]? = some x := by rfl) (hv : Vis X.env.scope x := by first | exact Or.inl rfl | exact Or.inr (Or.inl rfl) | exact Or.inr (Or.inr rfl)) (hd : (x == ("__debug__" : Str)) = false := by decide) (hcd : (x == ("__classdict__" : Str)) = false := by decide)
    (hbase : attributeBase (.Name x px) "append" X.env (eval (.Name x px) X.env) = eval (.Name x px) X.env := by rfl)
    (hfew : ((backTo cpos (starEach [e] X.env)).all (fun x => !x.1) && (backToKw cpos (keywordEach [] X.env)).all (fun x => x.1.isSome)
      && decide (([e] : List Expr).length + ([] : List Keyword).length + (if ([] : List Keyword).isEmpty then 0 else 1) < 30)) = true := by rfl)
    (hline : (apos.endLine == cpos.line) = true := by rfl) (hst : starEach [e] X.env = (false, eval e X.env) :: starEach [] X.env := by exact star_of rfl) (hplain : (backTo cpos (starEach ([] : List Expr) X.env)).any (·.1) = false := by rfl)
    (hs : swapsWith (.Call (.Attribute (.Name x px) "append" apos) [e] [] cpos) none pos.line X.env = pure false := by rfl) :
    QS X (.Expr (.Call (.Attribute (.Name x px) "append" apos) [e] [] cpos) pos) (dAppend i ta) := by
  refine ⟨?_⟩
  intro B σ F H env D rp h
  refine wS_of (ps_expr (pe_bm PySem.F.plainAttrs_list PySem.F.slot_list_append PySem.F.type_list_append mt_append (pe_var hN hv hd hcd) (pa_cons pe_w pa_nil hst) hbase hfew hline hst hplain) hs) ?_
  obtain ⟨xs, hx, hl, h⟩ := h
  obtain ⟨p, vs, h1, h2, h3, h4, h5⟩ := rp.ov i xs hx
  refine ⟨.ref p, h1, .inl ⟨rfl, vs, SqL.of h2⟩, ?_⟩
  refine wE_mono (he B σ F H env _ rp h) fun y H1 ⟨F1, d, r1, s1, d1, q1⟩ => ?_
  obtain ⟨p', vs', g1, g2, g3, g4, g5⟩ := r1.ov i xs hx
  rw [h1] at g1; cases g1
  exact ⟨p, vs', y, rfl, rfl, g2, by rw [← g5.length]; exact hl, F1, _, r1.change hx h1 (g5.append (denL_cons d1 denL_nil)), q1⟩
end
end L2.L3
set_option Elab.async false
set_option linter.all false
set_option maxRecDepth 100000
set_option maxHeartbeats 4000000
namespace L2.L3
open PySem PySem.Spec PyProof.Rows
abbrev Fw := List D → (D → Prop) → Prop
def spF (K : PySem.W.Frag) (f : Fw) : Sp := fun vs H Q _ => ∃ (F : Hp) (ds : List D) (P : D → Prop), Same F H ∧ DenL K F ds vs ∧ f ds P ∧
  ∀ (d : D) (v : V) (F' H' : Hp), Same F F' → Same H H' → Same F' H' → (∀ p, H p ≠ none → F p = none → F' p = none) → Den K F' d v → P d → Q v H'
structure Known (P : Program) (w : World) (K : PySem.W.Frag) (mg : Str → Option Value) (base : Heap) (k : Nat) (x : Str) (f : Fw) : Prop where
  ex : ∃ (fa : Addr) (fd : FuncData) (ps : List Str), FnOk P w K mg base CX0 k fa fd ps (spF K f) ∧ mg x = some (.ref fa) ∧ PySem.W.keepIn K (.ref fa) = true ∧ Binds K fd ps []
def start3 (N : List Str) (ds : List D) : En := ds.map (fun d => some (Lo.d d)) ++ List.replicate (N.length - ds.length) none
section
variable {X : Cx} {e : Expr} {es : List Expr} {ts : TDs} {p pos : Pos} {x : Str} {k : Nat} {f : Fw}
theorem q_call (h : Known X.prog X.w X.K X.mg X.base k x f) (hr : Room k X.A) (ha : QA X (e :: es) ts) (hg : Gl X x := by rfl) (hdb : (x == ("__debug__" : Str)) = false := by decide)
    (he : starEach (e :: es) X.env = (false, eval e X.env) :: starEach es X.env := by exact star_of rfl) (hpl : (backTo pos (starEach es X.env)).any (·.1) = false := by rfl) : QE X (.Call (.Name x p) (e :: es) [] pos) (cCall f ts) := by
  refine ⟨?_⟩
  intro B σ F H env Q rp hq
  obtain ⟨fa, fd, ps, G, hm, hk, hb⟩ := h.ex
  refine wE_of (pe_call G hr hg hm hk hb .nil pass0 pa_w hdb he hpl) ?_
  refine wA_mono (ha B σ F H env _ rp hq) fun vs H1 ⟨F1, ds, r1, s1, d1, hf⟩ => ?_
  rw [List.append_nil]
  exact ⟨F1, ds, Q, r1.fh, d1, hf, fun d v F' H' a b c n hd q => ⟨F', d, r1.ext a c b n, s1.trans a, hd, q⟩⟩
end
theorem start3_rep {K : PySem.W.Frag} {F H : Hp} {N : List Str} {ds : List D} {vs : List V} (fh : Same F H) (hd : DenL K F ds vs) :
    Rep K ⟨F, H, fun p => H p ≠ none ∧ F p = none, fun _ h => h.1⟩ F H (start N vs) (start3 N ds) := by
  have noown : ∀ (i : Nat) ys, (start3 N ds)[i]? = some (some (.own ys)) → False := fun i ys q => by
    unfold start3 at q
    by_cases hi : i < ds.length
    · rw [List.getElem?_append_left (by simpa using hi), List.getElem?_map] at q
      rw [List.getElem?_eq_getElem hi] at q
      cases q
    · rw [List.getElem?_append_right (by simpa using hi), List.getElem?_replicate] at q
      split at q <;> cases q
  have nodic : ∀ (i : Nat) ys, (start3 N ds)[i]? = some (some (.dic ys)) → False := fun i ys q => by
    unfold start3 at q
    by_cases hi : i < ds.length
    · rw [List.getElem?_append_left (by simpa using hi), List.getElem?_map] at q
      rw [List.getElem?_eq_getElem hi] at q
      cases q
    · rw [List.getElem?_append_right (by simpa using hi), List.getElem?_replicate] at q
      split at q <;> cases q
  refine ⟨Same.refl _, fh, Same.refl _, fun p h => h.2, fun i x q => ?_, fun i ys q => (noown i ys q).elim, fun i j xs ys p _ q => (noown i xs q).elim, fun i ys q => (nodic i ys q).elim, fun i j xs ys p _ q => (nodic i xs q).elim⟩
  unfold start3 at q
  by_cases hi : i < ds.length
  · rw [List.getElem?_append_left (by simpa using hi), List.getElem?_map] at q
    rw [List.getElem?_eq_getElem hi] at q
    cases q
    obtain ⟨v, h1, h2⟩ := hd.get (List.getElem?_eq_getElem hi)
    refine ⟨v, ?_, h2⟩
    unfold start
    rw [List.getElem?_append_left (by rw [List.length_map, ← hd.length]; exact hi), List.getElem?_map, h1]
    rfl
  · rw [List.getElem?_append_right (by simpa using hi), List.getElem?_replicate] at q
    split at q <;> cases q
section
variable {P : Program} {w : World} {K : PySem.W.Frag} {mg : Str → Option Value} {base : Heap}
theorem Fun.fnok {x qual : Str} {st : Stmt} {fa : Addr} {fd : FuncData} {N ps : List Str} {k : Nat} {f : Fw} (F : Fun K x qual st fa fd) (S : FnScope N ps (defScope st))
    (hl : ∀ ds Q, f ds Q → ds.length = ps.length)
    (hbody : ∀ (cdv : Value) (A : Around) (outer : List Env) (s : Shared) (H : Hp) (E : XK), Room k (A.deeper (envOfC qual (defScope st) s.heap.objs.size fa cdv)) →
      ∃ t, QSs (cxOf CX0 P w K mg base N qual (defScope st) fa cdv A outer s H E).nox (defBody st) t ∧ ∀ ds (Q : D → Prop), f ds Q → t { nx := fun _ => Q .non, rt := Q } (start3 N ds)) :
    FnOk P w K mg base CX0 (k + 1) fa fd ps (spF K f) := by
  refine F.ok S (fun vs H Q E h => ?_) (fun cdv A outer s H vs Q E hr h => ?_)
  · obtain ⟨F0, ds, P, _, hd, hf, _⟩ := h
    rw [← hd.length]; exact hl ds _ hf
  · obtain ⟨F0, ds, P, fh, hd, hf, kk⟩ := h
    obtain ⟨t, ht, hq⟩ := hbody cdv A outer s H E hr
    refine ⟨_, pss_w, ?_⟩
    have core := ht _ (start N vs) F0 H (start3 N ds) _ (start3_rep fh hd) (hq ds P hf)
    refine wSs_mono core (fun σ' H' ⟨F', env', r, q⟩ => ?_) (fun v H' ⟨F', d', r, dd, q⟩ => ?_) (fun _ _ ⟨_, _, _, q⟩ => q) (fun _ _ ⟨_, _, _, q⟩ => q)
    · exact kk .non .non F' H' r.f0 r.h0 r.fh (fun p h1 h2 => r.nf p ⟨h1, h2⟩) den_non q
    · exact kk d' v F' H' r.f0 r.h0 r.fh (fun p h1 h2 => r.nf p ⟨h1, h2⟩) dd q
theorem Fun.known {x qual : Str} {st : Stmt} {fa : Addr} {fd : FuncData} {N ps : List Str} {k : Nat} {f : Fw} (F : Fun K x qual st fa fd) (S : FnScope N ps (defScope st)) (hmg : mg x = some (.ref fa)) (hb : Binds K fd ps [])
    (hl : ∀ ds Q, f ds Q → ds.length = ps.length)
    (hbody : ∀ (cdv : Value) (A : Around) (outer : List Env) (s : Shared) (H : Hp) (E : XK), Room k (A.deeper (envOfC qual (defScope st) s.heap.objs.size fa cdv)) →
      ∃ t, QSs (cxOf CX0 P w K mg base N qual (defScope st) fa cdv A outer s H E).nox (defBody st) t ∧ ∀ ds (Q : D → Prop), f ds Q → t { nx := fun _ => Q .non, rt := Q } (start3 N ds)) :
    Known P w K mg base (k + 1) x f := ⟨fa, fd, ps, Fun.fnok F S hl hbody, hmg, F.kp, hb⟩
def fLaw (n : Nat) : Fw := fun ds Q => ∃ ns : List Int, ds = [.lst (ns.map D.int)] ∧ ns.length ≤ n ∧ Q (.bl true)
theorem law_sp {K : PySem.W.Frag} {H : Hp} {a : Addr} {ns : List Int} {n : Nat} (hl : ns.length ≤ n) (hS : SqL K H a (ns.map V.int)) : spF K (fLaw n) [.ref a] H (fun v _ => v = .bl true) fun _ _ _ => False := by
  refine ⟨H, [.lst (ns.map D.int)], fun d => d = .bl true, Same.refl _, denL_cons (den_lst hS (denL_ints ns)) denL_nil, ⟨ns, rfl, hl, rfl⟩, fun d v F' H' _ _ _ _ hd q => ?_⟩
  subst q
  simpa only [Den] using hd
end
section
variable {X : Cx} {a b c e : Expr} {es : List Expr} {ta tb tc : TD} {ts : TDs} {pos : Pos} {st : Stmt} {sts : List Stmt} {t u : TS3}
def dFreeze (i : Nat) (t : TS3) : TS3 := fun D env => ∃ xs, env[i]? = some (some (.own xs)) ∧ t D (env.set i (some (.d (.lst xs))))
theorem qs_freeze (i : Nat) (h : QS X st t) : QS X st (dFreeze i t) := by
  refine ⟨?_⟩
  intro B σ F H env D rp hq
  obtain ⟨xs, hx, q⟩ := hq
  obtain ⟨F', s', r'⟩ := rp.freeze hx
  exact h B σ F' H _ D r' q
def cIxOwn (i : Nat) (tj : TD) : TD := fun env Q => ∃ xs, env[i]? = some (some (.own xs)) ∧ tj env fun y => ∃ j v, y = .int j ∧ atI xs j = some v ∧ Q v
theorem q_ixOwn {x : Str} {px : Pos} (i : Nat) (hb : QE X b tb) (hs : PlainIx b) (hN : X.N[i]? = some x := by rfl) (hv : Vis X.env.scope x := by first | exact Or.inl rfl | exact Or.inr (Or.inl rfl) | exact Or.inr (Or.inr rfl)) (hd : (x == ("__debug__" : Str)) = false := by decide)
    (hcd : (x == ("__classdict__" : Str)) = false := by decide) : QE X (.Subscript (.Name x px) b pos) (cIxOwn i tb) := by
  refine ⟨?_⟩
  intro B σ F H env Q rp h
  refine wE_of (pe_ix ix_list (pe_var hN hv hd hcd) pe_w hs) ?_
  obtain ⟨xs, hx, h⟩ := h
  obtain ⟨p, vs, h1, h2, h3, h4, h5⟩ := rp.ov i xs hx
  refine ⟨.ref p, h1, ?_⟩
  refine wE_mono (hb B σ F H env _ rp h) fun y H1 ⟨F1, d, r1, s1, d1, j, v, hj, hv, q1⟩ => ?_
  subst hj
  simp only [Den] at d1
  obtain ⟨p', vs', g1, g2, g3, g4, g5⟩ := r1.ov i xs hx
  rw [h1] at g1; cases g1
  obtain ⟨w, hw, dw⟩ := g5.atI hv
  exact ⟨p, vs', j, w, rfl, d1, SqL.of g2, hw, F1, v, r1, s1, dw, q1⟩
def dPut (i : Nat) (tj te : TD) : TS3 := fun D env => te env fun x => ∃ xs, env[i]? = some (some (.own xs)) ∧ tj env fun y => ∃ (j : Int) (k : Nat), y = .int j ∧ ixN xs.length j = some k ∧ D.nx (env.set i (some (.own (xs.set k x))))
theorem qs_put {x : Str} {px p2 : Pos} (i : Nat) (hb : QE X b tb) (he : QE X e ta) (hN : X.N[i]? = some x := by rfl) (hv : Vis X.env.scope x := by first | exact Or.inl rfl | exact Or.inr (Or.inl rfl) | exact Or.inr (Or.inr rfl)) (hd : (x == ("__debug__" : Str)) = false := by decide)
    (hcd : (x == ("__classdict__" : Str)) = false := by decide) (hs : swapsWithSole [.Subscript (.Name x px) b p2] e pos.line X.env = pure false := by rfl) (hw : swappedStores [.Subscript (.Name x px) b p2] e X.env = pure none := by rfl)
    (h1 : (assignEach [.Subscript (.Name x px) b p2] X.env).map (·.2) = [assign (.Subscript (.Name x px) b p2) X.env] := by rfl)
    (ha : ∀ v, assign (.Subscript (.Name x px) b p2) X.env v = (do
      let ov ← holding [v] (eval (.Name x px) X.env)
      let iv ← holding [v, ov] (eval b X.env)
      standAt p2
      holding [v, ov, iv] (setItem ov iv v)
      release [v, ov, iv] []) := by intro _; rfl) : QS X (.Assign [.Subscript (.Name x px) b p2] e pos) (dPut i tb ta) := by
  refine ⟨?_⟩
  intro B σ F H env D rp h
  refine wS_of (ps_asg pe_w (pg_sub (pe_var hN hv hd hcd) pe_w set_list ha) hs hw h1) ?_
  refine wE_mono (he B σ F H env _ rp h) fun y H1 ⟨F1, d, r1, s1, d1, xs, hx, q1⟩ => ?_
  obtain ⟨p, vs, g1, g2, g3, g4, g5⟩ := r1.ov i xs hx
  refine ⟨.ref p, g1, ?_⟩
  refine wE_mono (hb B σ F1 H1 env _ r1 q1) fun z H2 ⟨F2, d2, r2, s2, dd2, j, k, hj, hk, q2⟩ => ?_
  subst hj
  simp only [Den] at dd2
  obtain ⟨p', vs', e1, e2, e3, e4, e5⟩ := r2.ov i xs hx
  rw [g1] at e1; cases e1
  exact ⟨p, vs', j, k, rfl, dd2, e2, by rw [← e5.length]; exact hk, F2, _, r2.change hx g1 (e5.set (Den.mono s2 _ _ d1) k), q2⟩
end
end L2.L3
set_option Elab.async false
set_option linter.all false
set_option maxRecDepth 100000
set_option maxHeartbeats 4000000
namespace L2.L3
open PySem PySem.Spec PyProof.Rows
def clOf (names : List (Str × NameKind)) (cells : List (Str × Addr)) (acc : List (Str × Addr)) : List (Str × Addr) := match names with
  | [] => acc
  | (n, k) :: r => if k = .free then (match cells.lookup n with | some c => clOf r cells ((n, c) :: acc) | none => clOf r cells acc) else clOf r cells acc
theorem closureFor_from {env : Env} : ∀ (names : List (Str × NameKind)) (acc : List (Str × Addr)), (∀ y ∈ names, y.2 = .free → ∃ c, env.cells.lookup y.1 = some c) →
    (forIn names acc fun (x : Str × NameKind) r => if (x.2 == NameKind.free) = true then (do let a ← cellOf env x.1; pure (ForInStep.yield ((x.1, a) :: r))) else pure (ForInStep.yield r) : Sem (List (Str × Addr))) = pure (clOf names env.cells acc)
  | [], acc, _ => rfl
  | (n, k) :: r, acc, h => by
    rw [List.forIn_cons]
    by_cases hk : k = .free
    · subst hk
      obtain ⟨c, hc⟩ := h (n, .free) List.mem_cons_self rfl
      have hc' : env.cells.lookup n = some c := hc
      have ih := closureFor_from r ((n, c) :: acc) fun y hy => h y (List.mem_cons_of_mem _ hy)
      simp only [beq_self_eq_true, if_true, cellOf, hc', clOf]
      exact ih
    · have ih := closureFor_from r acc fun y hy => h y (List.mem_cons_of_mem _ hy)
      have hb : (k == NameKind.free) = false := by simpa using hk
      simp only [hb, Bool.false_eq_true, if_false, clOf, if_neg hk]
      exact ih
theorem closureFor_eq {scope : Scope} {env : Env} (h : ∀ y ∈ scope.names, y.2 = .free → ∃ c, env.cells.lookup y.1 = some c) : closureFor scope env = pure (clOf scope.names env.cells []) := by
  have e := closureFor_from (env := env) scope.names [] h
  have e2 : closureFor scope env = ((forIn scope.names ([] : List (Str × Addr)) fun (x : Str × NameKind) r => if (x.2 == NameKind.free) = true then (do let a ← cellOf env x.1; pure (ForInStep.yield ((x.1, a) :: r))) else pure (ForInStep.yield r)) >>= fun cs => pure cs) := rfl
  rw [e2, e]; rfl
theorem clOf_sub {cells : List (Str × Addr)} : ∀ (names : List (Str × NameKind)) (acc : List (Str × Addr)), (∀ x c, acc.lookup x = some c → cells.lookup x = some c) → ∀ x c, (clOf names cells acc).lookup x = some c → cells.lookup x = some c
  | [], acc, h, x, c, q => h x c q
  | (n, k) :: r, acc, h, x, c, q => by
    unfold clOf at q
    split at q
    · split at q
      · rename_i c' e
        refine clOf_sub r _ (fun y d w => ?_) x c q
        rw [List.lookup_cons] at w
        split at w
        · rename_i z
          have : y = n := by simpa using z
          subst this
          cases w; exact e
        · exact h y d w
      · exact clOf_sub r _ h x c q
    · exact clOf_sub r _ h x c q
theorem clOf_acc {cells : List (Str × Addr)} : ∀ (names : List (Str × NameKind)) (acc : List (Str × Addr)) (x : Str), (acc.lookup x).isSome = true → ((clOf names cells acc).lookup x).isSome = true
  | [], acc, x, q => q
  | (n, k) :: r, acc, x, q => by
    unfold clOf
    split
    · split
      · refine clOf_acc r _ x ?_
        rw [List.lookup_cons]
        split
        · rfl
        · exact q
      · exact clOf_acc r _ x q
    · exact clOf_acc r _ x q
theorem clOf_has {cells : List (Str × Addr)} : ∀ (names : List (Str × NameKind)) (acc : List (Str × Addr)) (x : Str), (x, NameKind.free) ∈ names → (cells.lookup x).isSome = true → ((clOf names cells acc).lookup x).isSome = true
  | [], acc, x, h, _ => by simp at h
  | (n, k) :: r, acc, x, h, q => by
    rcases List.mem_cons.mp h with e | h
    · cases e
      unfold clOf
      rw [if_pos rfl]
      split
      · exact clOf_acc r _ _ (by rw [List.lookup_cons]; simp)
      · rename_i e; rw [e] at q; cases q
    · unfold clOf
      split
      · split <;> exact clOf_has r _ x h q
      · exact clOf_has r _ x h q
def compCx (X : Cx) (N' : List Str) (scope : Scope) (C : Addr) (s : Shared) (H : Hp) (fp : List Addr) (pins : List (Addr × Obj)) : Cx :=
  { X with N := N', s₀ := s, H₀ := H, env := compEnvC scope (clOf scope.names X.env.cells []) C X.env, outer := X.stack, stack := X.stack, ex := fp, fn := fun _ => false, pn := X.pn ++ pins, xe := fun _ _ => False }
structure CompOk (X : Cx) (N' : List Str) (nt : Nat) (ix : List Nat) (scope : Scope) : Prop where
  kind : scope.kind = .function
  nocell : ∀ x ∈ scope.names, x.2 ≠ .cell
  names : ∀ x ∈ scope.names, x.2 = .local → scope.names.lookup x.1 = some .local
  free : ∀ x ∈ scope.names, x.2 = .free → X.env.scope.names.lookup x.1 = some .cell
  caps : ∀ (j : Nat) (i : Nat), ix[j]? = some i → ∃ x, N'[nt + j]? = some x ∧ X.N[i]? = some x ∧ (x, NameKind.free) ∈ scope.names ∧ (relabel scope X.env).names.lookup x = some .cell
  len : N'.length = nt + ix.length
section
variable {prog : Program} {w : World} {A : Around} {R : Result → Shared → Prop} {s : Shared}
theorem compLoop_gen {elt target iter : Expr} {ifs : List Expr} {scope : Scope} {pos : Pos} {it acc : Value} {env : Env} (I : Nat → Shared → Prop)
    (turn : ∀ n s, I n s → wpAny (model prog w) A (pyNext it) (fun r s₁ => match r with
      | none => R (.ok .next) s₁
      | some v => wpAny (model prog w) A (letOwnedTupleGo target it v) (fun _ s₁' => wpAny (model prog w) A (assign target env v) (fun _ s₂ =>
          wpAny (model prog w) A (forIn ifs true fun c r => if r = true then do let ok ← isTrue c env (eval c env); pure (ForInStep.yield ok) else pure (ForInStep.yield r)) (fun ok s₃ =>
            if ok = true then wpAny (model prog w) A (eval elt env) (fun x s₄ =>
              wpAny (model prog w) A (call (.builtin "list.append") [acc, x]) (fun _ s₅ => ∃ m, m < n ∧ I m s₅) (fun _ _ => False) s₄) (fun _ _ => False) s₃
            else ∃ m, m < n ∧ I m s₃) (fun _ _ => False) s₂) (fun _ _ => False) s₁') (fun _ _ => False) s₁) (fun _ _ => False) s)
    (n : Nat) (h : I n s) :
    codeAny (model prog w) A (.compLoop (.ListComp elt [⟨target, iter, ifs, 0⟩] scope pos) 0 it acc env) R s := by
  refine codeAny_loop rfl I (fun n s hI => ?_) n h
  show wpAny _ A ((compTurn (.ListComp elt [⟨target, iter, ifs, 0⟩] scope pos) 0 it acc env).onRaise (fun x => do noteFrame x env; theTreesLotGoes x)) _ _ s
  refine wpAny_noted ?_
  rw [compTurn_list]
  refine wpAny_bind (wpAny_standAt (wpAny_bind (wpAny_mono (turn n s hI) (fun r s₁ h₁ => ?_) fun _ _ h' => h'.elim)))
  cases r with
  | none => exact wpAny_pure h₁
  | some v =>
    refine wpAny_bind (wpAny_mono h₁ (fun _ s₁' h₁' => ?_) fun _ _ h' => h'.elim)
    refine wpAny_bind (wpAny_mono h₁' (fun _ s₂ h₂ => wpAny_bind (wpAny_mono h₂ (fun ok s₃ h₃ => ?_) fun _ _ h' => h'.elim)) fun _ _ h' => h'.elim)
    cases ok with
    | false => exact wpAny_pure ⟨rfl, h₃⟩
    | true =>
      exact wpAny_bind (wpAny_bind (wpAny_mono h₃ (fun x s₄ h₄ => wpAny_bind (wpAny_mono h₄ (fun _ s₅ h₅ => wpAny_pure (wpAny_pure ⟨rfl, h₅⟩)) fun _ _ h' => h'.elim)) fun _ _ h' => h'.elim))
end
def capS (nt : Nat) (ix : List Nat) (σ : St) : St := List.replicate nt none ++ ix.map fun i => (σ[i]?).join
theorem lookup_mem {α β : Type} [BEq α] [LawfulBEq α] {l : List (α × β)} {x : α} {y : β} (h : l.lookup x = some y) : (x, y) ∈ l := by
  induction l with
  | nil => simp at h
  | cons p r ih =>
    obtain ⟨a, b⟩ := p
    rw [List.lookup_cons] at h
    split at h
    · rename_i e
      have : x = a := by simpa using e
      subst this; cases h; exact List.mem_cons_self
    · exact List.mem_cons_of_mem _ (ih h)
section
variable {X : Cx} {pins : List (Addr × Obj)} {σ : St} {H : Hp} {s : Shared} {N' : List Str} {nt : Nat} {ix : List Nat} {scope : Scope}
theorem relabel_mem {x : Str} {k : NameKind} (h : (x, k) ∈ (relabel scope X.env).names) : (x, k) ∈ scope.names ∨ ((x, NameKind.free) ∈ scope.names ∧ k = .cell) := by
  unfold relabel at h
  obtain ⟨⟨n, k'⟩, hm, e⟩ := List.mem_map.mp h
  dsimp only at e
  split at e
  · rename_i hc
    cases e
    simp only [Bool.and_eq_true, beq_iff_eq] at hc
    exact .inr ⟨by rw [← hc.1.1]; exact hm, rfl⟩
  · cases e; exact .inl hm
theorem comp_start (I : Inv X pins σ H s) (O : CompOk X N' nt ix scope) {fp : List Addr} (hf : ∀ b ∈ fp, FpOk X pins H b) (hlt : ∀ b ∈ fp, b < s.heap.objs.size) {h1 : Heap} {tk : Nat}
    (hns : h1.Ns s.heap.objs.size (fun _ => none)) (hsb : ∀ b o, s.heap.get? b = some o → h1.get? b = some o) :
    Inv (compCx X N' scope s.heap.objs.size s H fp pins) [] (capS nt ix σ) H { s with heap := h1, toks := tk } := by
  have cellsAt : ∀ x c, (clOf scope.names X.env.cells []).lookup x = some c → X.env.cells.lookup x = some c := fun x c q => clOf_sub scope.names [] (fun y d w => by simp at w) x c q
  have clt : ∀ x c, X.env.cells.lookup x = some c → c < s.heap.objs.size := fun x c e => let ⟨_, q⟩ := I.cell x c e; q.lt
  refine ⟨⟨I.ok.mod, O.kind, I.ok.glob, I.ok.blt, Nat.le_refl _, fun x y c h1 h2 => I.ok.inj x y c (cellsAt _ _ h1) (cellsAt _ _ h2), fun x hx => ?_, fun x c h => (by cases h), I.ok.hd, I.ok.frames, .inl rfl, fun b hb => ⟨Nat.ne_of_lt (hlt b hb), fun x c e => (hf b hb).2.2.2.2.1 x c (cellsAt _ _ e)⟩, I.bs,
      Nat.le_trans I.ok.bsz I.sz, fun b o e hb => ?_, fun b hb z => ?_, I.stack, I.stkFree⟩,
    rfl, I.bare, Un.kept hsb, ⟨_, hns, fun j x v e1 e2 e3 => ?_⟩, fun x c e => ?_, I.hok.fresh (Nat.le_refl _), fun x c e => I.freeC x c (cellsAt _ _ e), fun p hp => ?_, I.hok.kept hsb, ?_⟩
  ·
    have hx' : ((relabel scope X.env).names.lookup x = some .cell ∨ (relabel scope X.env).names.lookup x = some .free) := hx
    have key : (x, NameKind.free) ∈ scope.names := by
      rcases hx' with h | h
      · rcases relabel_mem (lookup_mem h) with q | q
        · exact absurd rfl (O.nocell _ q)
        · exact q.1
      · rcases relabel_mem (lookup_mem h) with q | q
        · exact q
        · exact q.1
    obtain ⟨c, hc⟩ := I.ok.has x (.inl (O.free _ key rfl))
    exact Option.isSome_iff_exists.mp (clOf_has scope.names [] x key (by rw [hc]; rfl))
  · rcases (hf b hb).2.2.2.1 with z | z
    · exact I.ok.noex b o e z
    · exact absurd (Nat.lt_of_lt_of_le (Heap.lt_size (I.ok.bs b o e).1) z) (Nat.lt_irrefl _)
  · rcases List.mem_cons.mp (I.stkSub b z) with e | e
    · exact (hf b hb).2.1 e
    · exact (hf b hb).2.2.1 e
  ·
    unfold capS at e2
    by_cases hj : j < nt
    · rw [List.getElem?_append_left (by simpa using hj), List.getElem?_replicate] at e2
      split at e2 <;> cases e2
    · rw [List.getElem?_append_right (by simpa using hj), List.getElem?_map, List.length_replicate] at e2
      cases hi : ix[j - nt]? with
      | none => rw [hi] at e2; cases e2
      | some i =>
        rw [hi] at e2
        have hs : σ[i]? = some (some v) := by
          simp only [Option.map_some, Option.some.injEq] at e2
          cases q : σ[i]? with
          | none => rw [q] at e2; cases e2
          | some o => rw [q] at e2; simp only [Option.join] at e2; rw [show o = some v from e2]
        obtain ⟨y, n1, n2, n3, n4⟩ := O.caps (j - nt) i hi
        have hjj : nt + (j - nt) = j := by omega
        rw [hjj] at n1
        have e1' : N'[j]? = some x := e1
        rw [n1] at e1'; cases e1'
        obtain ⟨m, hn, hl⟩ := I.loc
        have hk : X.env.scope.names.lookup x = some .cell := O.free _ n3 rfl
        obtain ⟨u, r, l⟩ := hl i x v n2 hs (.inr (.inl hk))
        refine ⟨u, r, ?_⟩
        rcases l with ⟨k, _⟩ | ⟨_, c, ec, z⟩
        · have k' : X.env.scope.names.lookup x = some .local := k
          rw [hk] at k'; cases k'
        · have hc2 := Option.isSome_iff_exists.mp (clOf_has (cells := X.env.cells) scope.names [] x n3 (by rw [ec]; rfl))
          obtain ⟨c2, hc2⟩ := hc2
          have := cellsAt x c2 hc2
          rw [ec] at this; cases this
          exact .inr ⟨.inl n4, c, hc2, z.keeps hsb⟩
  · obtain ⟨v, z⟩ := I.cell x c (cellsAt _ _ e)
    exact ⟨v, z.keeps hsb⟩
  · rw [List.append_nil] at hp
    obtain ⟨e, n, ne, nf, d⟩ := I.pin p hp
    refine ⟨hsb _ _ e, n, Nat.ne_of_lt (Heap.lt_size e), fun z => ?_, d⟩
    rcases List.mem_cons.mp (I.stkSub p.1 z) with q | q
    · exact ne q
    · exact nf q
  · unfold capS
    show _ = N'.length
    rw [O.len, List.length_append, List.length_replicate, List.length_map]
theorem comp_end (I : Inv X pins σ H s) {fp : List Addr} (hf : ∀ b ∈ fp, FpOk X pins H b) {σ' : St} {H' : Hp} {s' : Shared} (J : Inv (compCx X N' scope s.heap.objs.size s H fp pins) [] σ' H' s') {h' : Heap} (hs : Heap.SameBut s.heap.objs.size s'.heap h') :
    Inv X pins σ H' { s' with heap := h' } := by
  have ne : ∀ b o, s.heap.get? b = some o → b ≠ s.heap.objs.size := fun b o e => Nat.ne_of_lt (Heap.lt_size e)
  have jb := J.base
  refine I.call' (ch := fp) J.os ⟨fun b o e n h1 h2 => (hs.2 b (ne b o e)).trans (jb.keep b o e n h1 h2), fun b o e n h1 h2 => ?_, jb.free, fun b o e h2 => ?_, jb.tups, jb.frzs, jb.tbls⟩ (fun b o e => ?_) J.bare fun b hb => ?_
  · obtain ⟨sl, q⟩ := jb.slot b o e n h1 h2
    exact ⟨sl, (hs.2 b (ne b o e)).trans q⟩
  · obtain ⟨o', q⟩ := jb.there b o e h2
    exact ⟨o', (hs.2 b (ne b o e)).trans q⟩
  · have jf : H' s.heap.objs.size = none := J.free
    refine (J.hok b o e).stay (fun c u hc q => (hs.2 c ?_).trans q) (fun _ q => q) fun _ _ q => q
    intro z
    subst z
    rcases hc with z | z
    · rw [← z, jf] at e; cases e
    · rw [jf] at z; cases z
  · obtain ⟨f0, f1, f2, f3, f4, f5⟩ := hf b hb
    exact ⟨f3, f1, f4, f5⟩
end
end L2.L3
set_option Elab.async false
set_option linter.all false
set_option maxRecDepth 100000
set_option maxHeartbeats 4000000
namespace L2.L3
open PySem PySem.Spec PyProof.Rows
def wIfs (X : Cx) (ifs : List Expr) : TT := fun σ H Q => ∀ (pins : List (Addr × Obj)) (s : Shared), Inv X pins σ H s →
  wpAny (model X.prog X.w) X.A (forIn ifs true fun c r => if r = true then do let ok ← isTrue c X.env (eval c X.env); pure (ForInStep.yield ok) else pure (ForInStep.yield r)) (TP X pins σ Q) (fun _ _ => False) s
def tComp (X : Cx) (N' : List Str) (nt : Nat) (ix : List Nat) (scope : Scope) (elt target : Expr) (ifs : List Expr) (wi : TI) : TE := fun σ H Q => wi σ H fun J H1 => ∀ (a C : Addr) (s : Shared) (fp : List Addr) (pins : List (Addr × Obj)), H1 a = none →
  ∃ W : Nat → Nat → St → Hp → Prop, (∃ m, W 0 m (capS nt ix σ) (upd H1 a (.lst []))) ∧ ∀ i m σ' H', W i m σ' H' → (J.stop i H' ∧ Q (.ref a) H') ∨ (J.go i H' ∧ ∀ x H2, J.yld i H' x H2 →
    wG (compCx X N' scope C s (upd H1 a (.lst [])) fp pins) target x σ' H2 fun σ2 H3 => wIfs (compCx X N' scope C s (upd H1 a (.lst [])) fp pins) ifs σ2 H3 fun ok H4 => if ok = true then
      wE (compCx X N' scope C s (upd H1 a (.lst [])) fp pins) elt σ2 H4 fun y H5 => ∃ ys, H5 a = some (.lst ys) ∧ ys.length < sizeLine ∧ ∃ m', m' < m ∧ W (i + 1) m' σ2 (upd H5 a (.lst (ys ++ [y])))
      else ∃ m', m' < m ∧ W (i + 1) m' σ2 H4)
section
variable {X : Cx} {N' : List Str} {nt : Nat} {ix : List Nat} {scope : Scope}
theorem CompOk.clos {pins : List (Addr × Obj)} {σ : St} {H : Hp} {s : Shared} (O : CompOk X N' nt ix scope) (I : Inv X pins σ H s) : closureFor scope X.env = pure (clOf scope.names X.env.cells []) :=
  closureFor_eq fun y hy hk => I.ok.has y.1 (.inl (O.free y hy hk))
theorem comp_run {elt target iter : Expr} {ifs : List Expr} {pos : Pos} {pins : List (Addr × Obj)} {σ : St} {s2 : Shared} {Q : VK} {R : It → Hp → Prop} {itv : Value} {RR : Value → Addr → Result → Shared → Prop} (hc : X.calm = true) (O : CompOk X N' nt ix scope)
    (h2 : PIE X pins σ target R itv s2)
    (hR : ∀ J H1, R J H1 → ∀ (a C : Addr) (s : Shared) (fp : List Addr) (pins : List (Addr × Obj)), H1 a = none →
      ∃ W : Nat → Nat → St → Hp → Prop, (∃ m, W 0 m (capS nt ix σ) (upd H1 a (.lst []))) ∧ ∀ i m σ' H', W i m σ' H' → (J.stop i H' ∧ Q (.ref a) H') ∨ (J.go i H' ∧ ∀ x H2, J.yld i H' x H2 →
        wG (compCx X N' scope C s (upd H1 a (.lst [])) fp pins) target x σ' H2 fun σ2 H3 => wIfs (compCx X N' scope C s (upd H1 a (.lst [])) fp pins) ifs σ2 H3 fun ok H4 => if ok = true then
          wE (compCx X N' scope C s (upd H1 a (.lst [])) fp pins) elt σ2 H4 fun y H5 => ∃ ys, H5 a = some (.lst ys) ∧ ys.length < sizeLine ∧ ∃ m', m' < m ∧ W (i + 1) m' σ2 (upd H5 a (.lst (ys ++ [y])))
          else ∃ m', m' < m ∧ W (i + 1) m' σ2 H4))
    (hRR : ∀ (a C : Addr) (H' : Hp) (s6 : Shared) (m : Str → Option Value), Q (.ref a) H' → s6.heap.Ns C m → H' C = none → C ≠ X.env.locals → X.s₀.heap.objs.size ≤ C → (∀ x c, X.env.cells.lookup x = some c → c ≠ C) → (∀ p ∈ X.pn ++ pins, p.1 ≠ C) →
      (∀ h', Heap.SameBut C s6.heap h' → Inv X pins σ H' { s6 with heap := h' }) → RR (.ref a) C (.ok .next) s6) :
    wpAny (model X.prog X.w) X.A (newList []) (fun acc s3 => wpAny (model X.prog X.w) X.A (newFunctionEnv scope X.env.globals (clOf scope.names X.env.cells []) [] X.env.qual none .none (some X.env)) (fun cenv s4 =>
      codeAny (model X.prog X.w) X.A (.compStart (.ListComp elt [⟨target, iter, ifs, 0⟩] scope pos) 0 itv acc { cenv with scope := relabel scope X.env }) (RR acc cenv.locals) s4) X.xe s3) X.xe s2 := by
  obtain ⟨it, fp, tn, J, H2, e, I2, T, st2, f2, hq0⟩ := h2
  have hq := hR J H2 hq0
  subst e
  have hlt2 : ∀ b ∈ fp, b < s2.heap.objs.size := fun b hb => let ⟨o, e, _⟩ := T.obj _ _ st2 b hb; Heap.lt_size e
  refine wpAny_newObj_type ?_
  generalize hs3 : ({ s2 with heap := s2.heap.push { cls := .type "list", dict := none, data := .seq ([] : List Value).toArray } } : Shared) = s3
  have k3 : ∀ b o, s2.heap.get? b = some o → s3.heap.get? b = some o := fun b o e => by rw [← hs3]; exact Heap.get?_push_of_some _ e
  have ha : H2 s2.heap.objs.size = none := I2.hok.fresh (Nat.le_refl _)
  have I3 : Inv X pins σ (upd H2 s2.heap.objs.size (.lst [])) s3 := by
    rw [← hs3]
    exact I2.laid (t' := s2.toks) (fun b u e => Heap.get?_push_of_some _ e) (Nat.le_refl _) ⟨Nat.zero_le _, [], 0, .nil, Heap.get?_push_size _ rfl⟩
  have f3 : ∀ b ∈ fp, FpOk X pins (upd H2 s2.heap.objs.size (.lst [])) b := fun b hb => ⟨by rw [upd_ne (Nat.ne_of_lt (hlt2 b hb))]; exact (f2 b hb).1, (f2 b hb).2⟩
  have st3 : tn 0 s3.heap := T.keep _ _ _ st2 fun b hb o e => k3 b o e
  have hlt3 : ∀ b ∈ fp, b < s3.heap.objs.size := fun b hb => let ⟨o, e, _⟩ := T.obj _ _ st3 b hb; Heap.lt_size e
  refine wpAny_newFunctionEnv O.nocell (by intro y hy; simp at hy) (fun h1 hns hsb => ?_) O.kind
  have k4 : ∀ b o, s3.heap.get? b = some o → h1.get? b = some o := fun b o e => (hsb.2 b (Nat.ne_of_lt (Heap.lt_size e))).trans (Heap.get?_push_of_some _ e)
  have I4 := comp_start (tk := s3.toks + ([] : List (Str × Value)).length) I3 O f3 hlt3 hns k4
  have st4 : tn 0 h1 := T.keep _ _ _ st3 fun b hb o e => k4 b o e
  obtain ⟨W, ⟨m0, w0⟩, turn⟩ := hq s2.heap.objs.size s3.heap.objs.size s3 fp pins ha
  have fr3 : ∀ b ∈ fp, (upd H2 s2.heap.objs.size (.lst [])) b = none := fun b hb => (f3 b hb).1
  have stat : ∀ {H' : Hp}, (∀ b ∈ fp, H' b = none) → ∀ b ∈ fp, FpOk (compCx X N' scope s3.heap.objs.size s3 (upd H2 s2.heap.objs.size (.lst [])) fp pins) [] H' b := fun {H'} hn b hb => by
    refine ⟨hn b hb, Nat.ne_of_lt (hlt3 b hb), fun z => ?_, .inl hb, fun x c e => (f3 b hb).2.2.2.2.1 x c (clOf_sub scope.names [] (fun y d w => by simp at w) x c e), fun p hp => ?_⟩
    · rcases List.mem_cons.mp (I3.stkSub b z) with q | q
      · exact (f3 b hb).2.1 q
      · exact (f3 b hb).2.2.1 q
    · rw [List.append_nil] at hp
      exact (f3 b hb).2.2.2.2.2 p hp
  generalize hX : compCx X N' scope s3.heap.objs.size s3 (upd H2 s2.heap.objs.size (.lst [])) fp pins = X' at I4 turn stat
  have eP : X'.prog = X.prog := by rw [← hX]; rfl
  have eW : X'.w = X.w := by rw [← hX]; rfl
  have eK : X'.K = X.K := by rw [← hX]; rfl
  have eA : X'.A = X.A := by rw [← hX]; rfl
  have eC : X'.calm = true := by rw [← hX]; exact hc
  have eE : X'.env = compEnvC scope (clOf scope.names X.env.cells []) s3.heap.objs.size X.env := by rw [← hX]; rfl
  have eX : X'.xe = fun _ _ => False := by rw [← hX]; rfl
  have loop : codeAny (model X.prog X.w) X.A (.compLoop (.ListComp elt [⟨target, iter, ifs, 0⟩] scope pos) 0 (.ref it) (.ref s2.heap.objs.size) (compEnvC scope (clOf scope.names X.env.cells []) s3.heap.objs.size X.env))
      (RR (.ref s2.heap.objs.size) s3.heap.objs.size) { s3 with heap := h1, toks := s3.toks + ([] : List (Str × Value)).length } := by
    refine compLoop_gen (fun n s' => ∃ i σ' H', Inv X' [] σ' H' s' ∧ tn i s'.heap ∧ (∀ b ∈ fp, H' b = none) ∧ W i n σ' H') ?_ m0 ⟨0, _, _, I4, st4, fr3, w0⟩
    rintro n s5 ⟨i, σ5, H5, I5, st5, fr5, w5⟩
    rcases turn i n σ5 H5 w5 with ⟨stop, q⟩ | ⟨go, step⟩
    · have := T.done X' eP eW eK eC i [] s5 σ5 H5 (fun _ _ => False) I5 (stat fr5) st5 stop
      rw [eA] at this
      refine thn this fun r s6 ⟨hr, I6⟩ => ?_
      subst hr
      obtain ⟨m, hm, _⟩ := id I6.loc
      rw [eE] at hm
      have fre : H5 s3.heap.objs.size = none := by have z := I6.free; rw [eE] at z; exact z
      refine hRR _ _ H5 s6 m q hm fre (Nat.ne_of_gt I3.lt) I3.sz (fun x c e z => ?_) (fun p hp z => ?_) fun h' hsb' => ?_
      · obtain ⟨v, w⟩ := I3.cell x c e
        exact absurd w.lt (by rw [z]; exact Nat.lt_irrefl _)
      · exact absurd (Heap.lt_size (I3.pin p hp).1) (by rw [z]; exact Nat.lt_irrefl _)
      · rw [← hX] at I6
        exact comp_end I3 f3 I6 hsb'
    · have := T.item X' eP eW eK eC i [] s5 σ5 H5 (fun _ _ => False) I5 (stat fr5) st5 go
      rw [eA] at this
      refine thn this fun r s6 ⟨u, hr, h6⟩ => ?_
      subst hr
      refine thn h6 fun _ s7 ⟨x, H7, I7, r7, y7, st7, fr7⟩ => ?_
      have I7' := I7.pinned (stat fr7) (T.obj _ _ st7)
      have g7 := step x H7 y7 _ s7 u I7' r7
      rw [eP, eW, eA, eE, eX] at g7
      refine thn g7 fun _ s8 ⟨σ8, H8, I8, q8⟩ => ?_
      have t8 := q8 _ s8 I8
      rw [eP, eW, eA, eE] at t8
      refine thn t8 fun ok s9 ⟨H9, I9, q9⟩ => ?_
      have back : ∀ {σz : St} {Hz : Hp} {sz : Shared} {m' : Nat}, Inv X' ([] ++ pinsAt fp s7.heap) σz Hz sz → m' < n → W (i + 1) m' σz Hz → ∃ m, m < n ∧ ∃ i σ' H', Inv X' [] σ' H' sz ∧ tn i sz.heap ∧ (∀ b ∈ fp, H' b = none) ∧ W i m σ' H' := fun {σz Hz sz m'} Iz hm wz => by
        refine ⟨m', hm, i + 1, σz, Hz, Iz.unpinned, T.keep _ _ _ st7 fun b hb o e => (Iz.pin (b, o) (List.mem_append_right _ (List.mem_append_right _ (mem_pinsAt hb e)))).1, fun b hb => ?_, wz⟩
        obtain ⟨o, e, d⟩ := T.obj _ _ st7 b hb
        exact (Iz.pin (b, o) (List.mem_append_right _ (List.mem_append_right _ (mem_pinsAt hb e)))).2.1
      cases ok with
      | false =>
        obtain ⟨m', hm, w9⟩ := q9
        exact back I9 hm w9
      | true =>
        have e9 := q9 _ s9 I9
        rw [eP, eW, eA, eE, eX] at e9
        refine thn e9 fun uy s10 ⟨y, H10, I10, r10, ys, hys, hl, m', hm, w10⟩ => ?_
        have ap := mt_append (X := X') _ s10 σ8 H10 (.ref s2.heap.objs.size) [y] (.ref s2.heap.objs.size) [uy] (fun _ H' => H' = upd H10 s2.heap.objs.size (.lst (ys ++ [y]))) I10 rfl (.cons r10 .nil) ⟨_, ys, y, rfl, rfl, hys, hl, rfl⟩
        rw [eP, eW, eA, eX] at ap
        refine thn ap fun _ s11 ⟨_, H11, I11, _, q11⟩ => ?_
        have q11' : H11 = upd H10 s2.heap.objs.size (.lst (ys ++ [y])) := q11
        subst q11'
        exact back I11 hm w10
  exact codeAny_compStart_list loop (T.self _ _ _ _ _ st4 loop)
theorem pe_comp {elt target iter : Expr} {ifs : List Expr} {pos : Pos} {wi : TI} (hc : X.calm = true) (hi : PI X target iter wi) (O : CompOk X N' nt ix scope) (hs : ∀ x, foldedSetIterable iter X.env x = pure x := by intro _; rfl) :
    PE X (.ListComp elt [⟨target, iter, ifs, 0⟩] scope pos) (tComp X N' nt ix scope elt target ifs wi) := by
  intro pins s σ H Q I h
  rw [eval_ListComp]
  refine wpAny_comprehension_free (use := none) rfl hs (O.clos I) O.kind O.names ?_
  refine thn (hi pins s σ H _ I h) fun v s1 h1 => thn h1 fun itv s2 h2 => ?_
  refine comp_run (Q := Q) (RR := fun acc C => compPost (model X.prog X.w) X.A X.xe none (EP X pins σ Q) acc C) hc O h2 (fun J H1 z => z) ?_
  intro a C H' s6 m q hm _ _ _ _ _ hI
  exact ⟨m, hm, fun h' hsb => ⟨.ref a, H', hI h' hsb, rfl, q⟩⟩
theorem ps_setComp {elt target iter : Expr} {ifs : List Expr} {pos spos py : Pos} {y : Str} {i : Nat} {wi : TI} (hc : X.calm = true) (hi : PI X target iter wi) (O : CompOk X N' nt ix scope) (hN : X.N.Nodup) (hy : X.N[i]? = some y) (hx : Loc X.env.scope y)
    (hsw : swapsWith (.ListComp elt [⟨target, iter, ifs, 0⟩] scope pos) (some (.Name y py)) spos.line X.env = pure true)
    (hf : X.fn y = true ∨ X.env.scope.names.lookup y = some .local) (hs : ∀ x, foldedSetIterable iter X.env x = pure x := by intro _; rfl) :
    PS X (.Assign [.Name y py] (.ListComp elt [⟨target, iter, ifs, 0⟩] scope pos) spos) (fun D => fun σ H => tComp X N' nt ix scope elt target ifs wi σ H fun v H' => D.nx (σ.set i (some v)) H') := by
  intro pins s σ H D I h
  rw [exec_Assign_Name_used _ _ _ _ hsw]
  refine wpAny_bind (wpAny_standAt (wpAny_bind ?_))
  show wpAny _ X.A (do let _ ← comprehension (.ListComp elt [⟨target, iter, ifs, 0⟩] scope pos) scope X.env _ (newList []) false (eval iter X.env) (some (assign (.Name y py) X.env))) _ _ s
  refine wpAny_bind (wpAny_mono (wpAny_comprehension_free (use := some (assign (.Name y py) X.env)) (Q := fun _ s' => SP X pins D .next s') rfl hs (O.clos I) O.kind O.names ?_) (fun _ s' hq => wpAny_pure (wpAny_pure hq)) fun _ _ e => e)
  refine thn (hi pins s σ H _ I h) fun v s1 h1 => thn h1 fun itv s2 h2 => ?_
  refine comp_run (Q := fun v H' => D.nx (σ.set i (some v)) H') (RR := fun acc C => compPost (model X.prog X.w) X.A X.xe (some (assign (.Name y py) X.env)) (fun _ s' => SP X pins D .next s') acc C) hc O h2 (fun J H1 z => z) ?_
  intro a C H' s6 m q hm hC n1 n2 n3 n4 hI
  have I6 : Inv X pins σ H' s6 := hI s6.heap (.refl ..)
  show wpAny _ X.A (assign (.Name y py) X.env (.ref a)) _ _ _
  refine wpAny_assign_Name (store_ok2 I6 hN hy hx (v := .ref a) rfl (fun s7 I7 hsame => ?_) hf)
  obtain ⟨b, hb, hbx⟩ := hsame
  have hne : C ≠ b := by
    rcases hbx with e | e
    · rw [e]; exact n1
    · exact Ne.symm (n3 y b e)
  refine ⟨m, hm.sameBut hb hne, fun h' hsb => ⟨_, H', ?_, q⟩⟩
  exact I7.turned (t' := s7.toks) (fun c o hc' e => (hsb.2 c hc').trans e) hC n1 (.inr n2) n3 n4
end
end L2.L3
set_option Elab.async false
set_option linter.all false
set_option maxRecDepth 100000
set_option maxHeartbeats 4000000
namespace L2.L3
open PySem PySem.Spec PyProof.Rows
def capE (nt : Nat) (ix : List Nat) (env : En) : En := List.replicate nt none ++ ix.map fun i => match env[i]? with
  | some (some (.d x)) => some (.d x)
  | _ => none
theorem capE_noown {nt : Nat} {ix : List Nat} {env : En} (i : Nat) (ys : List D) : (capE nt ix env)[i]? ≠ some (some (.own ys)) := fun q => by
  unfold capE at q
  by_cases hj : i < nt
  · rw [List.getElem?_append_left (by simpa using hj), List.getElem?_replicate] at q
    split at q <;> cases q
  · rw [List.getElem?_append_right (by simpa using hj), List.getElem?_map] at q
    cases e : ix[i - (List.replicate nt (none : Option Lo)).length]? with
    | none => rw [e] at q; cases q
    | some k =>
      rw [e] at q
      simp only [Option.map_some, Option.some.injEq] at q
      split at q <;> cases q
theorem capE_nodic {nt : Nat} {ix : List Nat} {env : En} (i : Nat) (ys : List (D × D)) : (capE nt ix env)[i]? ≠ some (some (.dic ys)) := fun q => by
  unfold capE at q
  by_cases hj : i < nt
  · rw [List.getElem?_append_left (by simpa using hj), List.getElem?_replicate] at q
    split at q <;> cases q
  · rw [List.getElem?_append_right (by simpa using hj), List.getElem?_map] at q
    cases e : ix[i - (List.replicate nt (none : Option Lo)).length]? with
    | none => rw [e] at q; cases q
    | some k =>
      rw [e] at q
      simp only [Option.map_some, Option.some.injEq] at q
      split at q <;> cases q
def Base.here (F H : Hp) : Base := ⟨F, H, fun p => H p ≠ none ∧ F p = none, fun _ h => h.1⟩
theorem cap_rep {K : PySem.W.Frag} {B : Base} {F H : Hp} {σ : St} {env : En} {nt : Nat} {ix : List Nat} {a : Addr} {o : HO} (r : Rep K B F H σ env) (ha : H a = none) : Rep K (Base.here F H) F (upd H a o) (capS nt ix σ) (capE nt ix env) := by
  refine ⟨Same.refl _, r.fh.trans (same_upd ha), same_upd ha, fun p h => h.2, fun j x q => ?_, fun j ys q => (capE_noown j ys q).elim, fun i j xs ys p _ q => (capE_noown i xs q).elim, fun j ys q => (capE_nodic j ys q).elim, fun i j xs ys p _ q => (capE_nodic i xs q).elim⟩
  unfold capE at q
  by_cases hj : j < nt
  · rw [List.getElem?_append_left (by simpa using hj), List.getElem?_replicate] at q
    split at q <;> cases q
  · rw [List.getElem?_append_right (by simpa using hj), List.getElem?_map, List.length_replicate] at q
    cases e : ix[j - nt]? with
    | none => rw [e] at q; cases q
    | some k =>
      rw [e] at q
      simp only [Option.map_some, Option.some.injEq] at q
      split at q
      · rename_i x' h'
        cases q
        obtain ⟨v, h1, h2⟩ := r.dv k x h'
        refine ⟨v, ?_, h2⟩
        unfold capS
        rw [List.getElem?_append_right (by simpa using hj), List.getElem?_map, List.length_replicate, e]
        simp only [Option.map_some, h1, Option.join]
        rfl
      · cases q
theorem Rep.here {K : PySem.W.Frag} {B : Base} {F H : Hp} {σ : St} {env : En} (r : Rep K B F H σ env) (no : ∀ (i : Nat) ys, env[i]? ≠ some (some (.own ys))) (no' : ∀ (i : Nat) ys, env[i]? ≠ some (some (.dic ys))) : Rep K (Base.here F H) F H σ env :=
  ⟨Same.refl _, r.fh, Same.refl _, fun p h => h.2, r.dv, fun i ys q => (no i ys q).elim, fun i j xs ys p _ q => (no i xs q).elim, fun i ys q => (no' i ys q).elim, fun i j xs ys p _ q => (no' i xs q).elim⟩
theorem Rep.there {K : PySem.W.Frag} {B : Base} {F H F' H' : Hp} {σ : St} {env env0 : En} (r : Rep K (Base.here F H) F' H' σ env) (f0 : Same B.F F) (h0 : Same B.H H) (nf : ∀ p, B.N p → F p = none) (he : ∀ (i : Nat) l, env0[i]? = some (some l) → env[i]? = some (some l)) (no : ∀ (i : Nat) ys, env0[i]? ≠ some (some (.own ys))) (no' : ∀ (i : Nat) ys, env0[i]? ≠ some (some (.dic ys))) : Rep K B F' H' σ env0 := by
  refine ⟨f0.trans r.f0, r.fh, h0.trans r.h0, fun p hp => ?_, fun i x q => r.dv i x (he i _ q), fun i ys q => (no i ys q).elim, fun i j xs ys p _ q => (no i xs q).elim, fun i ys q => (no' i ys q).elim, fun i j xs ys p _ q => (no' i xs q).elim⟩
  refine r.nf p ⟨fun z => ?_, nf p hp⟩
  have q := B.nb p hp
  cases w : B.H p with
  | none => exact q w
  | some o => rw [h0 _ _ w] at z; cases z
structure Steps (K : PySem.W.Frag) (J : It) (F1 : Hp) (xs : List D) : Prop where
  go : ∀ (i : Nat) (G H' : Hp), Same F1 G → Same G H' → i < xs.length → J.go i H'
  yld : ∀ (i : Nat) (G H' : Hp) (y : V) (H'' : Hp) (x : D), Same F1 G → Same G H' → xs[i]? = some x → J.yld i H' y H'' → H'' = H' ∧ Den K G x y
  stop : ∀ (G H' : Hp), Same F1 G → Same G H' → J.stop xs.length H'
theorem steps_list {K : PySem.W.Frag} {F1 : Hp} {a : Addr} {vs : List V} {xs : List D} (q : SqL K F1 a vs) (r : DenL K F1 xs vs) : Steps K (Itl K a) F1 xs where
  go := fun i G H' s1 s2 hi => by
    have : i < vs.length := by rw [← r.length]; exact hi
    exact ⟨vs, vs[i], s2.seq (s1.seq q), by simp [this]⟩
  yld := fun i G H' y H'' x s1 s2 hx hy => by
    obtain ⟨v, h1, h2⟩ := r.get hx
    obtain ⟨e1, e2⟩ := hy
    have := e2 vs (s2.seq (s1.seq q))
    rw [h1] at this; cases this
    exact ⟨e1, Den.mono s1 _ _ h2⟩
  stop := fun G H' s1 s2 => ⟨vs, s2.seq (s1.seq q), by rw [r.length]; exact Nat.le_refl _⟩
theorem steps_tup {K : PySem.W.Frag} {F1 : Hp} {a : Addr} {vs : List V} {xs : List D} (q : SqT K F1 a vs) (r : DenL K F1 xs vs) : Steps K (Itt K a) F1 xs where
  go := fun i G H' s1 s2 hi => by
    have : i < vs.length := by rw [← r.length]; exact hi
    exact ⟨vs, vs[i], Same.seqT s2 (Same.seqT s1 q), by simp [this]⟩
  yld := fun i G H' y H'' x s1 s2 hx hy => by
    obtain ⟨v, h1, h2⟩ := r.get hx
    obtain ⟨e1, e2⟩ := hy
    have := e2 vs (Same.seqT s2 (Same.seqT s1 q))
    rw [h1] at this; cases this
    exact ⟨e1, Den.mono s1 _ _ h2⟩
  stop := fun G H' s1 s2 => ⟨vs, Same.seqT s2 (Same.seqT s1 q), by rw [r.length]; exact Nat.le_refl _⟩
theorem steps_str {K : PySem.W.Frag} {F1 : Hp} {z : Str} : Steps K (Its z) F1 (signsD z) where
  go := fun i G H' s1 s2 hi => by
    show i < z.cps.size
    simpa [signsD] using hi
  yld := fun i G H' y H'' x s1 s2 hx hy => by
    obtain ⟨e1, c, hc, rfl⟩ := hy
    unfold signsD at hx
    rw [List.getElem?_map, Array.getElem?_toList, hc] at hx
    cases hx
    exact ⟨e1, den_str⟩
  stop := fun G H' s1 s2 => by
    show z.cps.size ≤ _
    simp [signsD]
theorem steps_range {K : PySem.W.Frag} {F1 : Hp} {lo : Int} {n : Nat} : Steps K (Itr lo n) F1 (intsD lo n) where
  go := fun i G H' s1 s2 hi => by
    have : i < n := by simpa [intsD] using hi
    exact this
  yld := fun i G H' y H'' x s1 s2 hx hy => by
    obtain ⟨e1, e2⟩ := hy
    have hi : i < n := by
      have := (List.getElem?_eq_some_iff.mp hx).1
      simpa [intsD] using this
    have : (intsD lo n)[i]? = some (D.int (lo + (i : Int))) := by simp [intsD, hi]
    rw [this] at hx; cases hx
    exact ⟨e1, by rw [e2]; exact den_int⟩
  stop := fun G H' s1 s2 => by
    have : (intsD lo n).length = n := by simp [intsD]
    rw [this]; exact Nat.le_refl n
def comps (tt : TB) (te : TD) (env0 : En) (Q : List D → Prop) : List D → List D → Prop
  | [], acc => Q acc
  | x :: xs, acc => tt (env0.set 0 (some (.d x))) fun ok => if ok = true then te (env0.set 0 (some (.d x))) fun y => acc.length < sizeLine ∧ comps tt te env0 Q xs (acc ++ [y]) else comps tt te env0 Q xs acc
structure QIfs (X : Cx) (ifs : List Expr) (t : TB) : Prop where
  of ::
  run : ∀ (B : Base) (σ : St) (F H : Hp) (env : En) (Q : Bool → Prop), Rep X.K B F H σ env → t env Q → wIfs X ifs σ H (RB X B σ env F Q)
instance {X : Cx} {ifs : List Expr} {t : TB} : CoeFun (QIfs X ifs t) (fun _ => ∀ (B : Base) (σ : St) (F H : Hp) (env : En) (Q : Bool → Prop), Rep X.K B F H σ env → t env Q → wIfs X ifs σ H (RB X B σ env F Q)) := ⟨QIfs.run⟩
def cTrue : TB := fun _ Q => Q true
section
variable {X : Cx}
theorem qifs_nil : QIfs X [] cTrue := ⟨fun B σ F H env Q rp h pins s I => wpAny_tests_nil ⟨H, I, F, rp, Same.refl _, h⟩⟩
theorem qifs_one {c : Expr} {t : TB} (hx : X.xe = fun _ _ => False) (h : QT X c t) : QIfs X [c] t := by
  refine ⟨fun B σ F H env Q rp hq pins s I => wpAny_tests_one ?_⟩
  have := h B σ F H env Q rp hq pins s I
  rw [hx] at this
  exact this
variable {N' : List Str} {nt : Nat} {ix : List Nat} {scope : Scope} {elt iter a b : Expr} {ifs : List Expr} {x : Str} {px pos : Pos} {tt : TB} {te ti : TD} {ts : TDs}
theorem comp_core (hN : N'.Nodup) (h0 : N'[0]? = some x) (hx : (relabel scope X.env).names.lookup x = some .local)
    (ht : ∀ C s H fp pins, QIfs (compCx X N' scope C s H fp pins) ifs tt) (he : ∀ C s H fp pins, QE (compCx X N' scope C s H fp pins) elt te)
    {B : Base} {σ : St} {F F1 H1 : Hp} {env : En} {Q : List D → Prop} {J : It} {xs : List D} (sF : Same F F1) (r1 : Rep X.K B F1 H1 σ env) (S : Steps X.K J F1 xs) (q1 : comps tt te (capE 1 ix env) Q xs []) :
    ∀ (a C : Addr) (s : Shared) (fp : List Addr) (pins : List (Addr × Obj)), H1 a = none →
      ∃ W : Nat → Nat → St → Hp → Prop, (∃ m, W 0 m (capS 1 ix σ) (upd H1 a (.lst []))) ∧ ∀ i m σ' H', W i m σ' H' → (J.stop i H' ∧ RF X B σ env F Q (.ref a) H') ∨ (J.go i H' ∧ ∀ y H2, J.yld i H' y H2 →
        wG (compCx X N' scope C s (upd H1 a (.lst [])) fp pins) (.Name x px) y σ' H2 fun σ2 H3 => wIfs (compCx X N' scope C s (upd H1 a (.lst [])) fp pins) ifs σ2 H3 fun ok H4 => if ok = true then
          wE (compCx X N' scope C s (upd H1 a (.lst [])) fp pins) elt σ2 H4 fun y H5 => ∃ ys, H5 a = some (.lst ys) ∧ ys.length < sizeLine ∧ ∃ m', m' < m ∧ W (i + 1) m' σ2 (upd H5 a (.lst (ys ++ [y])))
          else ∃ m', m' < m ∧ W (i + 1) m' σ2 H4) := by
  intro a C s fp pins ha
  have hF1a : F1 a = none := r1.fnone ha
  refine ⟨fun i m σ' H' => m = xs.length - i ∧ i ≤ xs.length ∧ ∃ (F' : Hp) (acc : List D) (ys : List V), Rep X.K (Base.here F1 H1) F' H' σ' (capE 1 ix env) ∧ H' a = some (.lst ys) ∧ F' a = none ∧ DenL X.K F' acc ys ∧ comps tt te (capE 1 ix env) Q (xs.drop i) acc,
    ⟨xs.length, by simp, Nat.zero_le _, F1, [], [], cap_rep r1 ha, upd_same, hF1a, denL_nil, by simpa using q1⟩, ?_⟩
  rintro i m σ2 H2 ⟨rfl, hi2, F2, acc, ys, r2, hys, hFa, hd, q2⟩
  have sH : Same H1 H2 := r2.h0
  by_cases hlt : i < xs.length
  · have hxi : xs[i]? = some xs[i] := by simp [hlt]
    rw [drop_cons hxi] at q2
    refine .inr ⟨S.go i F2 H2 r2.f0 r2.fh hlt, fun y H3 hy => ?_⟩
    obtain ⟨eH, dy⟩ := S.yld i F2 H2 y H3 xs[i] r2.f0 r2.fh hxi hy
    subst eH
    have r2' := r2.here capE_noown capE_nodic
    have g := qg_name (X := compCx X N' scope C s (upd H1 a (.lst [])) fp pins) (pos := px) 0 hN h0 (.inl hx) (.inr hx)
    refine wG_mono (g (Base.here F2 H3) σ2 F2 H3 (capE 1 ix env) (fun e => e = (capE 1 ix env).set 0 (some (.d xs[i]))) xs[i] y r2' dy rfl) fun σ3 H4 ⟨F4, env4, r4, s4, q4⟩ => ?_
    subst q4
    intro pins' s' I'
    refine wpAny_mono (ht C s (upd H1 a (.lst [])) fp pins (Base.here F2 H3) σ3 F4 H4 _ _ r4 q2 pins' s' I') (fun ok s5 ⟨H5, I5, F5, r5, s5', q5⟩ => ⟨H5, I5, ?_⟩) fun _ _ e => e
    have weak' : ∀ (j : Nat) l, (capE 1 ix env)[j]? = some (some l) → ((capE 1 ix env).set 0 (some (.d xs[i])))[j]? = some (some l) := fun j l hj => by
      have hj0 : j ≠ 0 := fun z => by
        subst z
        simp [capE] at hj
      rw [List.getElem?_set_ne (Ne.symm hj0)]; exact hj
    cases ok with
    | false =>
      have q5' : comps tt te (capE 1 ix env) Q (xs.drop (i + 1)) acc := q5
      refine ⟨xs.length - (i + 1), by omega, rfl, by omega, F5, acc, ys, r5.there r2.f0 sH (fun p hp => r2.nf p hp) weak' capE_noown capE_nodic, r5.h0 _ _ hys, r5.nf a ⟨by rw [hys]; simp, hFa⟩, DenL.mono r5.f0 _ _ hd, q5'⟩
    | true =>
      have q5' : te ((capE 1 ix env).set 0 (some (.d xs[i]))) fun y => acc.length < sizeLine ∧ comps tt te (capE 1 ix env) Q (xs.drop (i + 1)) (acc ++ [y]) := q5
      refine wE_mono (he C s (upd H1 a (.lst [])) fp pins (Base.here F2 H3) σ3 F5 H5 _ _ r5 q5') fun z H6 ⟨F6, d, r6, s6, d6, hl, q6⟩ => ?_
      have ha6 : H6 a = some (.lst ys) := r6.h0 _ _ hys
      have hF6 : F6 a = none := r6.nf a ⟨by rw [hys]; simp, hFa⟩
      refine ⟨ys, ha6, by rw [← hd.length]; exact hl, xs.length - (i + 1), by omega, rfl, by omega, F6, acc ++ [d], ys ++ [z], ?_, upd_same, hF6, (DenL.mono r6.f0 _ _ hd).append (denL_cons d6 denL_nil), q6⟩
      have r7 : Rep X.K (Base.here F1 H1) F6 H6 σ3 (capE 1 ix env) := r6.there r2.f0 sH (fun p hp => r2.nf p hp) weak' capE_noown capE_nodic
      refine ⟨r7.f0, fun b o hb => ?_, fun b o hb => ?_, r7.nf, r7.dv, fun j zs q => (capE_noown j zs q).elim, r7.ne, fun j zs q => (capE_nodic j zs q).elim, r7.nm⟩
      · have : b ≠ a := fun w => by subst w; rw [hF6] at hb; cases hb
        rw [upd_ne this]; exact r7.fh _ _ hb
      · have : b ≠ a := fun w => by subst w; have hb' : H1 b = some o := hb; rw [ha] at hb'; cases hb'
        rw [upd_ne this]; exact r7.h0 _ _ hb
  · have e : i = xs.length := by omega
    subst e
    rw [List.drop_eq_nil_of_le (Nat.le_refl _)] at q2
    refine .inl ⟨S.stop F2 H2 r2.f0 r2.fh, F2, fun b => if b = a then none else H2 b, a, ys, acc, rfl, if_pos rfl, ?_, ?_, sF.trans r2.f0, hd, q2⟩
    · funext b
      unfold upd
      by_cases z : b = a
      · rw [if_pos z, z]; exact hys
      · rw [if_neg z]
        show H2 b = if b = a then none else H2 b
        rw [if_neg z]
    · refine r1.ext r2.f0 (fun b o hb => ?_) (fun b o hb => ?_) fun p h1 h2 => r2.nf p ⟨h1, h2⟩
      · have : b ≠ a := fun w => by subst w; rw [hFa] at hb; cases hb
        show (if b = a then none else H2 b) = _
        rw [if_neg this]; exact r2.fh _ _ hb
      · have : b ≠ a := fun w => by subst w; rw [ha] at hb; cases hb
        show (if b = a then none else H2 b) = _
        rw [if_neg this]; exact sH _ _ hb
theorem RF.rv {B : Base} {σ : St} {env : En} {F : Hp} {Q : D → Prop} {v : V} {H : Hp} (h : RF X B σ env F (fun ds => Q (.lst ds)) v H) : RV X B σ env F Q v H := by
  obtain ⟨F', H1, p, vs, ds, rfl, hp, rfl, r, s, hd, q⟩ := h
  exact (RV.newLst r hd q p hp).weaken s
def cFresh (ts : TDs) : TD := fun env Q => ts env fun ds => Q (.lst ds)
theorem QF.e {e : Expr} {ts : TDs} (h : QF X e ts) : QE X e (cFresh ts) := ⟨fun B σ F H env Q rp hq => wE_mono (h B σ F H env _ rp hq) fun v H' z => z.rv⟩
def cComp (ix : List Nat) (ti : TD) (tt : TB) (te : TD) : TDs := fun env Q => ti env fun d => ∃ xs, itemsD d = some xs ∧ comps tt te (capE 1 ix env) Q xs []
theorem comp_seq {B : Base} {σ : St} {F H : Hp} {env : En} {P : List D → Prop} {R : It → Hp → Prop} (hi : QE X iter ti) (rp : Rep X.K B F H σ env) (h : ti env fun d => ∃ xs, itemsD d = some xs ∧ P xs)
    (hR : ∀ (J : It) (F1 H1 : Hp) (xs : List D), Rep X.K B F1 H1 σ env → Same F F1 → Steps X.K J F1 xs → P xs → R J H1) : iSeq X.K (wE X iter) σ H R := by
  refine wE_mono (hi B σ F H env _ rp h) fun v H1 ⟨F1, d, r1, s1, d1, xs, hx, q1⟩ => ?_
  cases d with
  | lst ys =>
    simp only [itemsD] at hx; cases hx
    simp only [Den] at d1
    obtain ⟨a, vs, rfl, q, r⟩ := d1
    exact .inl ⟨a, rfl, .inl ⟨⟨vs, r1.fh.seq q⟩, hR _ F1 H1 _ r1 s1 (steps_list q r) q1⟩⟩
  | tup ys =>
    simp only [itemsD] at hx; cases hx
    simp only [Den] at d1
    obtain ⟨a, vs, rfl, q, r⟩ := d1
    exact .inl ⟨a, rfl, .inr ⟨⟨vs, Same.seqT r1.fh q⟩, hR _ F1 H1 _ r1 s1 (steps_tup q r) q1⟩⟩
  | str z =>
    simp only [itemsD] at hx; cases hx
    simp only [Den] at d1
    subst d1
    exact .inr ⟨z, rfl, hR _ F1 H1 _ r1 s1 steps_str q1⟩
  | _ => simp only [itemsD] at hx; cases hx
theorem qf_comp (hc : X.calm = true) (O : CompOk X N' 1 ix scope) (hN : N'.Nodup) (h0 : N'[0]? = some x) (hx : (relabel scope X.env).names.lookup x = some .local) (hi : QE X iter ti)
    (ht : ∀ C s H fp pins, QIfs (compCx X N' scope C s H fp pins) ifs tt) (he : ∀ C s H fp pins, QE (compCx X N' scope C s H fp pins) elt te) (hs : ∀ x, foldedSetIterable iter X.env x = pure x := by intro _; rfl) :
    QF X (.ListComp elt [⟨.Name x px, iter, ifs, 0⟩] scope pos) (cComp ix ti tt te) := by
  refine ⟨?_⟩
  intro B σ F H env Q rp h
  refine wE_of (pe_comp hc (pi_seq pe_w) O hs) ?_
  exact comp_seq hi rp h fun J F1 H1 xs r1 s1 S q => comp_core hN h0 hx ht he s1 r1 S q
def cCompR (f : List D → (Int → Nat → Prop) → Prop) (ix : List Nat) (ts : TDs) (tt : TB) (te : TD) : TDs := fun env Q => ts env fun xs => f xs fun lo n => comps tt te (capE 1 ix env) Q (intsD lo n) []
end
end L2.L3
set_option Elab.async false
set_option linter.all false
set_option maxRecDepth 100000
set_option maxHeartbeats 4000000
namespace L2.L3
open PySem PySem.Spec PyProof.Rows
section
variable {X : Cx} {a b c e : Expr} {es : List Expr} {ta tb tc : TD} {tA tB' : TB} {ts : TDs} {p p2 pos : Pos} {rest : List Expr}
theorem q_abs (hm : X.mg "abs" = none) (ha : QA X [e] ts) (hg : Gl X "abs" := by rfl) (he : starEach [e] X.env = (false, eval e X.env) :: starEach [] X.env := by exact star_of rfl) : QE X (.Call (.Name "abs" p) [e] [] pos) (cCall absF ts) :=
  q_callB call_abs c3_abs hg hm boot_abs' ha (he := he)
theorem q_len (hm : X.mg "len" = none) (ha : QA X [e] ts) (hg : Gl X "len" := by rfl) (he : starEach [e] X.env = (false, eval e X.env) :: starEach [] X.env := by exact star_of rfl) : QE X (.Call (.Name "len" p) [e] [] pos) (cCall lenF ts) :=
  q_callB (call_len_seq.or call_len_str) c3_len hg hm boot_len' ha (he := he)
theorem q_max (hm : X.mg "max" = none) (ha : QA X [a, b] ts) (hg : Gl X "max" := by rfl) (hc : X.calm = true := by rfl) (he : starEach [a, b] X.env = (false, eval a X.env) :: starEach [b] X.env := by exact star_of rfl) (hpl : (backTo pos (starEach [b] X.env)).any (·.1) = false := by rfl) : QE X (.Call (.Name "max" p) [a, b] [] pos) (cCall maxF ts) :=
  q_callB (call_max2 hc) c3_max hg hm boot_max' ha (he := he) (hpl := hpl)
theorem q_min (hm : X.mg "min" = none) (ha : QA X [a, b] ts) (hg : Gl X "min" := by rfl) (hc : X.calm = true := by rfl) (he : starEach [a, b] X.env = (false, eval a X.env) :: starEach [b] X.env := by exact star_of rfl) (hpl : (backTo pos (starEach [b] X.env)).any (·.1) = false := by rfl) : QE X (.Call (.Name "min" p) [a, b] [] pos) (cCall minF ts) :=
  q_callB (call_min2 hc) c3_min hg hm boot_min' ha (he := he) (hpl := hpl)
theorem q_all (hm : X.mg "all" = none) (ha : QA X [e] ts) (hg : Gl X "all" := by rfl) (hc : X.calm = true := by rfl) (he : starEach [e] X.env = (false, eval e X.env) :: starEach [] X.env := by exact star_of rfl) : QE X (.Call (.Name "all" p) [e] [] pos) (cCall allF ts) :=
  q_callB (call_all hc) c3_all hg hm boot_all' ha (he := he)
theorem q_listOf (hm : X.mg "list" = none) (ha : QA X [e] ts) (hg : Gl X "list" := by rfl) (he : starEach [e] X.env = (false, eval e X.env) :: starEach [] X.env := by exact star_of rfl) : QE X (.Call (.Name "list" p) [e] [] pos) (cCall listF ts) :=
  q_callTy call_list_of c3_list hg hm boot_list' ha (he := he)
theorem q_tupleOf (hm : X.mg "tuple" = none) (ha : QA X [e] ts) (hg : Gl X "tuple" := by rfl) (he : starEach [e] X.env = (false, eval e X.env) :: starEach [] X.env := by exact star_of rfl) : QE X (.Call (.Name "tuple" p) [e] [] pos) (cCall tupleF ts) :=
  q_callTy call_tuple_of c3_tuple hg hm boot_tuple' ha (he := he)
def isiR (n : String) (x : D) (Q : D → Prop) : Prop := ∃ k, isiK (kdD x) n = some k ∧ Q (.bl k)
def cIsi (n : String) (ta : TD) : TD := fun env Q => ta env fun x => isiR n x Q
theorem q_isi {n : Str} {m : String} (hm : X.mg "isinstance" = none) (ht : X.mg n = none) (hb : bootBuiltins n = some (.type m)) (ha : QE X a ta) (hg : Gl X "isinstance" := by rfl) (hg2 : Gl X n := by rfl) (hn : n ≠ "__name__" := by decide) (hd : (n == ("__debug__" : Str)) = false := by decide)
    (he : starEach [a, .Name n p2] X.env = (false, eval a X.env) :: starEach [.Name n p2] X.env := by exact star_of rfl) (hpl : (backTo pos (starEach [.Name n p2] X.env)).any (·.1) = false := by rfl)
    (he2 : starEach [.Name n p2] X.env = (false, eval (.Name n p2) X.env) :: starEach [] X.env := by exact star_of rfl) : QE X (.Call (.Name "isinstance" p) [a, .Name n p2] [] pos) (cIsi m ta) := by
  have h := q_callB (p := p) (pos := pos) call_isi c3_isi hg hm boot_isi' (qa_cons ha (qa_cons (qty hg2 ht hb hn hd) qa_nil he2) he) (he := he) (hpl := hpl)
  exact ⟨fun B σ F H env Q rp hq => h B σ F H env Q rp hq⟩
variable {N' : List Str} {nt : Nat} {ix : List Nat} {scope : Scope} {elt iter : Expr} {ifs : List Expr} {x : Str} {px py spos : Pos} {tt : TB} {te ti : TD}
theorem CompOk.of (sc : Scope) (hsc : X.env.scope = sc) (kind : scope.kind = .function) (nocell : ∀ x ∈ scope.names, x.2 ≠ .cell) (names : ∀ x ∈ scope.names, x.2 = .local → scope.names.lookup x.1 = some .local)
    (free : ∀ x ∈ scope.names, x.2 = .free → sc.names.lookup x.1 = some .cell)
    (caps : ∀ (j : Nat) (i : Nat), ix[j]? = some i → ∃ x, N'[nt + j]? = some x ∧ X.N[i]? = some x ∧ (x, NameKind.free) ∈ scope.names ∧ (relabel scope X.env).names.lookup x = some .cell) (len : N'.length = nt + ix.length) : CompOk X N' nt ix scope :=
  ⟨kind, nocell, names, by rw [hsc]; exact free, caps, len⟩
end
end L2.L3
set_option Elab.async false
set_option linter.all false
set_option maxRecDepth 100000
set_option maxHeartbeats 4000000
namespace L2.L3
open PySem PySem.Spec PyProof.Rows
section
variable {K : PySem.W.Frag} {B : Base} {F H : Hp} {σ : St} {env : En} {p : Addr} {o o' : HO}
end
section
variable {X : Cx} {a b : Expr} {ta tb : TD} {pos : Pos}
def cDisp (ks : List Key) (ts : TDs) : TD := fun env Q => ts env fun xs => Q (.dct ks xs)
end
end L2.L3
set_option Elab.async false
set_option linter.all false
set_option maxRecDepth 100000
set_option maxHeartbeats 4000000
namespace L2.L3
open PySem PySem.Spec PyProof.Rows
section
variable {X : Cx} {e : Expr} {ts : TDs} {pos : Pos}
def dExtend (i : Nat) (te : TDs) : TS3 := fun D env => ∃ xs, env[i]? = some (some (.own xs)) ∧ te env fun ys => xs.length + ys.length ≤ sizeLine ∧ D.nx (env.set i (some (.own (xs ++ ys))))
end
end L2.L3
set_option Elab.async false
set_option linter.all false
set_option maxRecDepth 100000
set_option maxHeartbeats 4000000
namespace L2.L3
open PySem PySem.Spec PyProof.Rows
theorem ObjOk.at {P : Program} {w : World} {H : Hp} {h : Heap} {a : Addr} {o : HO} (x : ObjOk P w H h a o) : ∃ ob, h.get? a = some ob := by
  cases o with
  | lst xs => obtain ⟨_, _, _, _, e⟩ := x; exact ⟨_, e⟩
  | tup xs => obtain ⟨_, _, _, ob, e, _⟩ := x; exact ⟨_, e⟩
  | dK kvs => obtain ⟨_, _, _, _, o, _, _, e, _⟩ := x; exact ⟨_, e⟩
  | dT kvs => obtain ⟨_, _, _, _, o, _, _, e, _⟩ := x; exact ⟨_, e⟩
  | set S n => obtain ⟨o, _, _, _, e, _⟩ := x; exact ⟨_, e⟩
  | ins C dx fs => obtain ⟨_, _, _, e, _⟩ := x; exact ⟨_, e⟩
  | own y => exact x
  | xd fs => obtain ⟨_, ⟨_, _, _, e, _⟩, _⟩ := x; exact ⟨_, e⟩
  | rng lo hi => obtain ⟨_, _, _, e⟩ := x; exact ⟨_, e⟩
  | frz ob u => obtain ⟨e, _⟩ := x; exact ⟨_, e⟩
  | tbl ps => exact ⟨_, (show h.get? a = some _ from x)⟩
  | met f y => exact ⟨_, (show h.get? a = some _ from x)⟩
  | ext φ => obtain ⟨_, ⟨_, e⟩, _⟩ := x; exact ⟨_, e⟩
def FliesD (H : Hp) (h0 h : Heap) (a : Addr) (cls : Value) (dd : Option Addr) : Prop := h0.get? a = none ∧ H a = none ∧ ∃ oe vs, h.get? a = some oe ∧ oe.cls = cls ∧ oe.dict = dd ∧ oe.data = .fields vs ∧
  (vs[1]? = some .none ∨ ∃ T oT ts, vs[1]? = some (.ref T) ∧ h0.get? T = none ∧ H T = none ∧ T ≠ a ∧ h.get? T = some oT ∧ oT.data = .fields ts ∧ ts[3]? = some .none)
abbrev Flies (H : Hp) (h0 h : Heap) (a : Addr) (cls : Value) : Prop := FliesD H h0 h a cls none
theorem FliesD.older {H : Hp} {g h0 h : Heap} {a : Addr} {cls : Value} {dd : Option Addr} (x : FliesD H h0 h a cls dd) (k : ∀ b o, g.get? b = some o → ∃ o', h0.get? b = some o') : FliesD H g h a cls dd := by
  have none_ : ∀ b, h0.get? b = none → g.get? b = none := fun b e => by
    cases q : g.get? b with
    | none => rfl
    | some o => obtain ⟨o', e'⟩ := k b o q; rw [e] at e'; cases e'
  obtain ⟨n, f, oe, vs, he, hc, hdc, hd, z⟩ := x
  refine ⟨none_ a n, f, oe, vs, he, hc, hdc, hd, ?_⟩
  rcases z with z | ⟨T, oT, ts, h1, h2, h3⟩
  · exact .inl z
  · exact .inr ⟨T, oT, ts, h1, none_ T h2, h3⟩
def CXe (P : Program) (w : World) : CXT := fun outer H s E e s' => ∃ (a : Addr) (C : Value) (dd : Option Addr) (H' : Hp), e = .ref a ∧ s'.os = s.os ∧ AllBare s'.gens ∧ Un (frs outer) [] H H' s.heap s'.heap ∧ HOk P w H' s'.heap ∧ FliesD H' s.heap s'.heap a C dd ∧ E C dd H'
theorem entry_made {M : Model} {A : Around} {E : Value → Shared → Prop} {s : Shared} {base : Heap} {env : Env} {outer : List Env} {L x : Addr} {ox : Obj} {fs : Array Value} {hd0 : Value} {nx0 : Bool} {Q : Unit → Shared → Prop}
    (hA : A.frames = some (env :: outer)) (ff : s.heap.FunFrames base (env :: outer)) (hL : env.frame = some L) (hx : s.heap.get? x = some ox) (hdx : ox.data = .fields fs) (h2 : 1 < fs.size)
    (k : ∀ h' T oT ts, (∀ b o, s.heap.get? b = some o → b ≠ x → b ∉ frs (env :: outer) → h'.get? b = some o) → (∀ b o, s.heap.get? b = some o → b ∈ frs (env :: outer) → ∃ sl, h'.get? b = some { o with slots := sl }) →
      h'.get? x = some (ox.mapFields (·.setIfInBounds 1 (.ref T))) → s.heap.get? T = none → T ≠ x → h'.get? T = some oT → oT.data = .fields ts → ts[3]? = some .none → Q () { s with heap := h' }) :
    wpAny M A (do let a ← frameOf env; let pl ← entryPlaceOf L nx0; let b ← EntryCells.newEntry hd0 a .none (rawInt L) .none pl; setField (.ref x) 1 b) (fun _ s' => wpAny M A (setFlight (.ref x) none) Q E s') E s := by
  have xnf : x ∉ frs (env :: outer) := fun z => by
    obtain ⟨_, o, e, nf⟩ := ff.mem z
    rw [hx] at e; cases e; exact nf fs hdx
  refine wpAny_bind (wpAny_frameOf_fun hA ff hL fun g so => ?_)
  refine wpAny_bind (wpAny_entryPlaceOf fun pl ipl => ?_)
  unfold EntryCells.newEntry newFields
  refine wpAny_bind (wpAny_newObj_type ?_ (ipl.sizeOk5 _ _ _ _ _))
  have gx : g.get? x = some ox := (so.2.1 x xnf).trans hx
  generalize hno : ({ cls := .type "traceback", dict := none, data := .fields ([hd0, .ref L, .none, rawInt L, .none] ++ (if pl.isEmpty then List.replicate 6 Value.none else pl)).toArray } : Obj) = no
  have nod : no.data = .fields ([hd0, .ref L, .none, rawInt L, .none] ++ (if pl.isEmpty then List.replicate 6 Value.none else pl)).toArray := by rw [← hno]
  have nofree : no.isFreed = false := Obj.isFreed_of_fields nod
  have gx1 : (g.push no).get? x = some ox := Heap.get?_push_of_some no gx
  have gT1 : (g.push no).get? g.objs.size = some no := Heap.get?_push_size g nofree
  have Tx : g.objs.size ≠ x := fun z => absurd (Heap.lt_size gx) (by rw [z]; exact Nat.lt_irrefl _)
  refine wpAny_setField gx1 hdx h2 ?_
  have dx2 := Obj.data_mapFields hdx (·.setIfInBounds 1 (Value.ref g.objs.size))
  have gx2 := Heap.get?_update_self (Obj.mapFields (·.setIfInBounds 1 (Value.ref g.objs.size))) gx1 (Obj.isFreed_of_fields dx2)
  have gT2 : ((g.push no).update x (Obj.mapFields (·.setIfInBounds 1 (Value.ref g.objs.size)))).get? g.objs.size = some no := (Heap.get?_update_other _ _ (Ne.symm Tx)).trans gT1
  unfold setFlight
  refine wpAny_bind (wpAny_field gx2 dx2 (x := .ref g.objs.size) (by simp [h2]) ?_)
  rw [if_pos (show (Value.ref g.objs.size != Value.none) = true from by simp)]
  have sz3 : 3 < ([hd0, .ref L, .none, rawInt L, .none] ++ (if pl.isEmpty then List.replicate 6 Value.none else pl)).toArray.size := by
    simp only [List.size_toArray, List.length_append, List.length_cons, List.length_nil]; omega
  refine wpAny_setField gT2 nod sz3 ?_
  have oth : ∀ b, b ≠ x → b ≠ g.objs.size → (((g.push no).update x (Obj.mapFields (·.setIfInBounds 1 (Value.ref g.objs.size)))).update g.objs.size (Obj.mapFields (·.setIfInBounds 3 ((none : Option Addr).elim Value.none fun f => rawInt f)))).get? b = (g.push no).get? b := fun b b1 b2 => by
    rw [Heap.get?_update_other _ _ (Ne.symm b2), Heap.get?_update_other _ _ (Ne.symm b1)]
  have ne_g : ∀ b o, g.get? b = some o → b ≠ g.objs.size := fun b o e z => absurd (Heap.lt_size e) (by rw [z]; exact Nat.lt_irrefl _)
  have Tn : s.heap.get? g.objs.size = none := Heap.get?_none_of_le (by rw [so.1]; exact Nat.le_refl _)
  refine k _ g.objs.size _ _ (fun b o e b1 b2 => ?_) (fun b o e b2 => ?_) ?_ Tn Tx (Heap.get?_update_self _ gT2 (Obj.isFreed_of_fields (Obj.data_mapFields nod _))) (Obj.data_mapFields nod _) ?_
  · have e1 : g.get? b = some o := (so.2.1 b b2).trans e
    rw [oth b b1 (ne_g b o e1)]; exact Heap.get?_push_of_some no e1
  · obtain ⟨sl, e1⟩ := so.2.2 b o e
    have b1 : b ≠ x := fun z => xnf (z ▸ b2)
    exact ⟨sl, by rw [oth b b1 (ne_g b _ e1)]; exact Heap.get?_push_of_some no e1⟩
  · rw [Heap.get?_update_other _ _ Tx]; exact gx2
  · simp [Array.getElem?_setIfInBounds]
theorem dict_mapFields (o : Obj) (f : Array Value → Array Value) : (o.mapFields f).dict = o.dict := by
  obtain ⟨c, d, dt, sl⟩ := o
  cases dt <;> rfl
theorem note_fly {M : Model} {P : Program} {w : World} {A : Around} {env : Env} {outer : List Env} {base : Heap} {H0 H1 : Hp} {h0 : Heap} {s1 : Shared} {a : Addr} {C : Value} {dd : Option Addr} {L : Addr} {Q : Unit → Shared → Prop} {E : Value → Shared → Prop}
    (hfr : A.frames = some (env :: outer)) (hf : env.frame = some L) (FF : s1.heap.FunFrames base (env :: outer)) (ff : ∀ b ∈ frs (env :: outer), H1 b = none) (hok : HOk P w H1 s1.heap)
    (un : Un (frs (env :: outer)) [] H0 H1 h0 s1.heap) (Fl : FliesD H1 h0 s1.heap a C dd)
    (h : ∀ h', Un (frs (env :: outer)) [] H0 H1 h0 h' → HOk P w H1 h' → FliesD H1 h0 h' a C dd → Q () { s1 with heap := h' }) :
    wpAny M A (noteFrame (.ref a) env) (fun _ s' => wpAny M A (setFlight (.ref a) none) Q E s') E s1 := by
  obtain ⟨n0, na, oe, vs, he, hc, hdc, hd, z⟩ := Fl
  have hsz : 1 < vs.size := by
    rcases z with z | ⟨T, oT, ts, h1, _⟩
    · exact (Array.getElem?_eq_some_iff.mp z).1
    · exact (Array.getElem?_eq_some_iff.mp h1).1
  have core : ∀ (hid : List Addr) (h1 : Heap), a ∈ hid → (∀ b ∈ hid, h0.get? b = none ∧ H1 b = none) → (∀ b o, s1.heap.get? b = some o → b ∉ hid → h1.get? b = some o) → (∀ b, h1.get? b = none → s1.heap.get? b = none) →
      ∀ h' T oT ts, (∀ b o, h1.get? b = some o → b ≠ a → b ∉ frs (env :: outer) → h'.get? b = some o) → (∀ b o, h1.get? b = some o → b ∈ frs (env :: outer) → ∃ sl, h'.get? b = some { o with slots := sl }) →
      h'.get? a = some (oe.mapFields (·.setIfInBounds 1 (.ref T))) → h1.get? T = none → T ≠ a → h'.get? T = some oT → oT.data = .fields ts → ts[3]? = some .none → Q () { s1 with heap := h' } := by
    intro hid h1 ha hids hkeep hnone h' T oT ts k1 k2 k3 hTn hTa hT hdT h3
    have keepN : ∀ b o, s1.heap.get? b = some o → b ∉ hid → b ∉ frs (env :: outer) → h'.get? b = some o := fun b o e nb nf => k1 b o (hkeep b o e nb) (fun z => nb (z ▸ ha)) nf
    have frn : ∀ b ∈ frs (env :: outer), ∀ o, h0.get? b = some o → b ∉ hid := fun b _ o e z => by rw [(hids b z).1] at e; cases e
    have hs := hnone T hTn
    refine h h' ⟨fun b o e n hb hx => ?_, fun b o e n hb hx => ?_, un.free, fun b o e hx => ?_, un.tups, un.frzs, un.tbls⟩ (fun b u e => ?_) ?_
    · exact keepN b o (un.keep b o e n hb hx) (fun z => by rw [(hids b z).1] at e; cases e) hb
    · obtain ⟨s2, e2⟩ := un.slot b o e n hb hx
      obtain ⟨s3, e3⟩ := k2 b _ (hkeep b _ e2 (frn b hb o e)) hb
      exact ⟨s3, e3⟩
    · obtain ⟨o', e'⟩ := un.there b o e hx
      have nb : b ∉ hid := fun z => by rw [(hids b z).1] at e; cases e
      by_cases hb : b ∈ frs (env :: outer)
      · obtain ⟨s3, e3⟩ := k2 b o' (hkeep b o' e' nb) hb
        exact ⟨_, e3⟩
      · exact ⟨o', keepN b o' e' nb hb⟩
    · refine (hok b u e).stay (fun c v hc q => ?_) (fun _ q => q) fun _ _ q => q
      have hcn : H1 c ≠ none := by
        rcases hc with z | z
        · rw [z, e]; simp
        · rw [z]; simp
      exact keepN c v q (fun z => hcn (hids c z).2) (fun z => hcn (ff c z))
    · refine ⟨n0, na, _, _, k3, (Obj.cls_mapFields _ _).trans hc, (dict_mapFields _ _).trans hdc, Obj.data_mapFields hd _, .inr ⟨T, oT, ts, by simp [hsz], ?_, ?_, hTa, hT, hdT, h3⟩⟩
      · cases q : h0.get? T with
        | none => rfl
        | some o => obtain ⟨o', e'⟩ := un.there T o q (by simp); rw [hs] at e'; cases e'
      · cases q : H1 T with
        | none => rfl
        | some u => obtain ⟨ob, e'⟩ := ObjOk.at (hok T u q); rw [hs] at e'; cases e'
  rcases z with z | ⟨T, oT, ts, h1, hT0, hTn, hTa, hT, hdT, h3⟩
  ·
    unfold noteFrame
    simp only [hf]
    refine wpAny_bind (wpAny_field he hd z ?_)
    rw [if_neg (by decide)]
    exact entry_made hfr FF hf he hd hsz (core [a] s1.heap (by simp) (fun b hb => by rw [List.mem_singleton.mp hb]; exact ⟨n0, na⟩) (fun b o e _ => e) (fun b e => e))
  ·
    unfold noteFrame
    simp only [hf]
    refine wpAny_bind (wpAny_field he hd h1 ?_)
    rw [if_pos (show (Value.ref T != Value.none) = true from by simp)]
    refine wpAny_bind (wpAny_field hT hdT h3 ?_)
    rw [if_neg (show ¬ ((Value.none == rawInt L) = true) from by simp [rawInt])]
    refine wpAny_bind (wpAny_setField hT hdT (Array.getElem?_eq_some_iff.mp h3).1 ?_)
    have other : ∀ b, b ≠ T → (s1.heap.update T (Obj.mapFields (·.setIfInBounds 3 Value.none))).get? b = s1.heap.get? b := fun b hb => Heap.get?_update_other _ _ (Ne.symm hb)
    have noRec : ∀ b o, s1.heap.get? b = some o → (∀ vs, o.data ≠ .fields vs) → b ≠ T := fun b o hb hnf q => by
      subst q; rw [hT] at hb; cases hb; exact hnf ts hdT
    refine entry_made (s := { s1 with heap := s1.heap.update T (Obj.mapFields (·.setIfInBounds 3 Value.none)) }) hfr (FF.of_keeps fun b o hb hnf => ⟨o, (other b (noRec b o hb hnf)).trans hb, rfl⟩) hf ((other a (Ne.symm hTa)).trans he) hd hsz ?_
    refine core [a, T] _ (by simp) (fun b hb => ?_) (fun b o e nb => ?_) (fun b e => ?_)
    · rcases List.mem_cons.mp hb with z | hb
      · subst z; exact ⟨n0, na⟩
      · rw [List.mem_singleton.mp hb]; exact ⟨hT0, hTn⟩
    · rwa [other b (fun z => nb (by simp [z]))]
    · by_cases z : b = T
      · subst z
        have := Heap.get?_update_self (Obj.mapFields (·.setIfInBounds 3 Value.none)) hT (Obj.isFreed_of_fields (Obj.data_mapFields hdT _))
        rw [this] at e; cases e
      · rwa [other b z] at e
end L2.L3
set_option Elab.async false
set_option linter.all false
set_option maxRecDepth 100000
set_option maxHeartbeats 4000000
namespace L2.L3
open PySem PySem.Spec PyProof.Rows
def ThrownD (X : Cx) (pins : List (Addr × Obj)) (σ : St) (H' : Hp) (a : Addr) (C : Value) (dd : Option Addr) (s' : Shared) : Prop := ∃ (Hc : Hp) (sc : Shared), Inv X pins σ Hc sc ∧ s'.os = sc.os ∧ AllBare s'.gens ∧ Un (frs X.stack) [] Hc H' sc.heap s'.heap ∧ HOk X.prog X.w H' s'.heap ∧ FliesD H' sc.heap s'.heap a C dd
abbrev Thrown (X : Cx) (pins : List (Addr × Obj)) (σ : St) (H' : Hp) (a : Addr) (C : Value) (s' : Shared) : Prop := ThrownD X pins σ H' a C none s'
section
variable {X : Cx} {pins : List (Addr × Obj)} {σ : St} {H H' : Hp} {a : Addr} {C : Value} {dd : Option Addr} {s s' : Shared}
theorem ThrownD.inv (t : ThrownD X pins σ H' a C dd s') : Inv X pins σ H' s' := by
  obtain ⟨Hc, sc, I, os, bare, un, hok, fl⟩ := t
  exact I.call' os un hok bare fun b z => absurd z (by simp)
theorem ThrownD.wish (t : ThrownD X pins σ H' a C dd s') (E : Value → Shared → Prop) : ThrownD (X.wish E) pins σ H' a C dd s' := by
  obtain ⟨Hc, sc, I, r⟩ := t
  exact ⟨Hc, sc, I.wish E, r⟩
theorem ThrownD.unwish {E : Value → Shared → Prop} (t : ThrownD (X.wish E) pins σ H' a C dd s') : ThrownD X pins σ H' a C dd s' := by
  obtain ⟨Hc, sc, I, r⟩ := t
  exact ⟨Hc, sc, I.unwish, r⟩
theorem Thrown.made {vs : List Value} {h' : Heap} {e : Addr} (I : Inv X pins σ H s) (m : Heap.MadeExcOf s.heap h' e C vs) : Thrown X pins σ H e C { s with heap := h' } := by
  obtain ⟨t, ht, _⟩ := m.there
  have hn : H e = none := by
    cases q : H e with
    | none => rfl
    | some u => obtain ⟨ob, z⟩ := ObjOk.at (I.hok e u q); rw [m.new] at z; cases z
  exact ⟨H, s, I, rfl, I.bare, Un.kept m.keeps, I.hok.kept m.keeps, m.new, hn, _, _, ht, rfl, rfl, rfl, .inl rfl⟩
theorem ThrownD.note {Q : Unit → Shared → Prop} {E : Value → Shared → Prop} (t : ThrownD X pins σ H' a C dd s') (hst : X.stack = X.env :: X.outer) (hf : X.env.frame = some X.env.locals)
    (h : ∀ s'', ThrownD X pins σ H' a C dd s'' → Q () s'') : wpAny (model X.prog X.w) X.A (noteFrame (.ref a) X.env) (fun _ s => wpAny (model X.prog X.w) X.A (setFlight (.ref a) none) Q E s) E s' := by
  have I' := t.inv
  obtain ⟨Hc, sc, I, os, bare, un, hok, fl⟩ := t
  have hfr := I'.ok.frames
  have FF := I'.stack
  have ff := I'.stkFree
  rw [hst] at hfr FF ff un
  refine note_fly hfr hf FF ff hok un fl fun h' un' hok' fl' => h _ ⟨Hc, sc, I, os, bare, by rw [hst]; exact un', hok', fl'⟩
theorem ThrownD.leave {P : Program} {w : World} {K : PySem.W.Frag} {mg : Str → Option Value} {base : Heap} {N : List Str} {qual : Str} {scope : Scope} {f : Addr} {cd : Value} {A : Around} {outer : List Env} {s0 : Shared} {H0 : Hp} {E : XK}
    (t : ThrownD (cxOf (CXe P w) P w K mg base N qual scope f cd A outer s0 H0 E) pins σ H' a C dd s') (q : E C dd H') : (cxOf (CXe P w) P w K mg base N qual scope f cd A outer s0 H0 E).xe (.ref a) s' := by
  show wpAny (model P w) _ (leaving _ (.ref a)) _ _ s'
  unfold leaving
  refine wpAny_bind (t.note rfl rfl fun s'' t'' => ?_)
  have I := t''.inv
  obtain ⟨Hc, sc, Ic, os, bare, un, hok, fl⟩ := t''
  refine ⟨a, C, dd, H', rfl, I.os, I.bare, I.base, I.hok, fl.older fun b o e => ?_, q⟩
  exact Ic.base.there b o e (by show b ∉ ([] : List Addr); simp)
end
structure Ends4 extends Ends3 where
  xc : Str → Prop
abbrev TS4 := Ends4 → En → Prop
def XZ (X : Cx) (B : Base) (xc : Str → Prop) : Value → Shared → Prop := fun ex s' => ∃ (pins : List (Addr × Obj)) (a : Addr) (c : Str) (C : Value) (σ' : St) (H' F' : Hp) (env' : En), ex = .ref a ∧ Thrown X pins σ' H' a C s' ∧ Rep X.K B F' H' σ' env' ∧ X.mg c = some C ∧ xc c
section
variable {X : Cx} {c e : Expr} {es : List Expr} {st : Stmt} {sts xs ys : List Stmt} {t u : TS3} {p q : TS4} {tc : TB} {te : TD} {ts : TDs} {pos : Pos}
theorem SP.rewish {E E' : Value → Shared → Prop} {pins : List (Addr × Obj)} {D : Ends} {f : Flow} {s' : Shared} (h : SP (X.wish E) pins D f s') : SP (X.wish E') pins D f s' := by
  cases f with
  | next => obtain ⟨σ', H', I, q⟩ := h; exact ⟨σ', H', I.unwish.wish _, q⟩
  | brk => obtain ⟨σ', H', I, q⟩ := h; exact ⟨σ', H', I.unwish.wish _, q⟩
  | cont => obtain ⟨σ', H', I, q⟩ := h; exact ⟨σ', H', I.unwish.wish _, q⟩
  | ret u => obtain ⟨v, σ', H', I, r, q⟩ := h; exact ⟨v, σ', H', I.unwish.wish _, r, q⟩
theorem wS_nox {E : Value → Shared → Prop} {D : Ends} {σ : St} {H : Hp} (h : wS X.nox st D σ H) : wS (X.wish E) st D σ H := fun pins s I =>
  wpAny_mono (h pins s (I.unwish.wish _)) (fun _ _ q => SP.rewish q) fun _ _ z => False.elim z
theorem wSs_nox {E : Value → Shared → Prop} {D : Ends} {σ : St} {H : Hp} (h : wSs X.nox sts D σ H) : wSs (X.wish E) sts D σ H := fun pins s I =>
  wpAny_mono (h pins s (I.unwish.wish _)) (fun _ _ q => SP.rewish q) fun _ _ z => False.elim z
theorem wT_nox {E : Value → Shared → Prop} {Q : Bool → Hp → Prop} {σ : St} {H : Hp} (h : wT X.nox c σ H Q) : wT (X.wish E) c σ H Q := fun pins s I =>
  wpAny_mono (h pins s (I.unwish.wish _)) (fun _ _ ⟨H', I', q⟩ => ⟨H', I'.unwish.wish _, q⟩) fun _ _ z => False.elim z
theorem wA_nox {E : Value → Shared → Prop} {Q : List V → Hp → Prop} {σ : St} {H : Hp} (h : wA X.nox es σ H Q) : wA (X.wish E) es σ H Q := fun pos pins s I =>
  wpAny_mono (h pos pins s (I.unwish.wish _)) (fun _ _ ⟨v, H', I', r, q⟩ => ⟨v, H', I'.unwish.wish _, r, q⟩) fun _ _ z => False.elim z
def zUp (t : TS3) : TS4 := fun D env => t D.toEnds3 env
def zSeq (t u : TS4) : TS4 := fun D env => t { D with nx := u D } env
def zIf (c : TB) (t u : TS4) : TS4 := fun D env => c env fun k => if k = true then t D env else u D env
def zRaise (cx : Str) (ts : TDs) : TS4 := fun D env => ts env fun xs => xs.length ≤ sizeLine ∧ D.xc cx
end
end L2.L3
set_option Elab.async false
set_option linter.all false
set_option maxRecDepth 100000
set_option maxHeartbeats 4000000
namespace L2.L3
open PySem PySem.Spec PyProof.Rows
abbrev FwX := List D → (D → Prop) → (Str → Prop) → Prop
section
variable {P : Program} {w : World} {K : PySem.W.Frag} {mg : Str → Option Value} {base : Heap}
end
abbrev TX := En → (D → Prop) → (Str → Prop) → Prop
def XX (X : Cx) (pins : List (Addr × Obj)) (σ : St) (B : Base) (env : En) (R : Str → Prop) : Value → Shared → Prop := fun ex s' => ∃ (a : Addr) (c : Str) (C : Value) (H' F' : Hp), ex = .ref a ∧ Thrown X pins σ H' a C s' ∧ Rep X.K B F' H' σ env ∧ X.mg c = some C ∧ R c
structure QX (X : Cx) (e : Expr) (t : TX) : Prop where
  of ::
  run : ∀ (B : Base) (σ : St) (F H : Hp) (env : En) (Q : D → Prop) (R : Str → Prop), Rep X.K B F H σ env → t env Q R → ∀ (pins : List (Addr × Obj)) (s : Shared), Inv X pins σ H s →
    wpAny (model X.prog X.w) X.A (eval e X.env) (EP X pins σ (RV X B σ env F Q)) (XX X pins σ B env R) s
def cCallX (f : FwX) (ts : TDs) : TX := fun env Q R => ts env fun xs => f xs Q R
section
variable {X : Cx} {e : Expr} {es : List Expr} {ts : TDs} {tx : TX} {p pos : Pos} {x : Str} {k : Nat} {f : FwX}
theorem QX.w (h : QX X e tx) {B : Base} {σ : St} {F H : Hp} {env : En} {Q : D → Prop} {R : Str → Prop} (rp : Rep X.K B F H σ env) (hq : tx env Q R) : wE (X.wish (XZ X B R)) e σ H (RV X B σ env F Q) := fun pins s I =>
  wpAny_mono (h.run B σ F H env Q R rp hq pins s I.unwish) (fun _ _ ⟨v, H', I', r, q⟩ => ⟨v, H', I'.wish _, r, q⟩) fun ex s' ⟨a, c, C, H', F', e, t, r, m, x⟩ => ⟨pins, a, c, C, σ, H', F', env, e, t, r, m, x⟩
def zRet (tx : TX) : TS4 := fun D env => tx env D.rt D.xc
def zSet (i : Nat) (tx : TX) : TS4 := fun D env => tx env (fun x => D.nx (env.set i (some (.d x)))) D.xc
def zExpr (tx : TX) : TS4 := fun D env => tx env (fun _ => D.nx env) D.xc
end
section
variable {X : Cx} {pins : List (Addr × Obj)} {σ : St} {H H' : Hp} {a : Addr} {s s' : Shared}
theorem Flies.ext {a C : Addr} {h : Heap} {H : Hp} {h0 : Heap} (f : Flies H h0 h a (.ref C)) : excAt a C h := by
  obtain ⟨_, _, oe, vs, he, hc, hdc, hdt, _⟩ := f
  exact ⟨oe, vs, he, hc, hdc, hdt⟩
end
end L2.L3
set_option Elab.async false
set_option linter.all false
set_option maxRecDepth 100000
set_option maxHeartbeats 4000000
namespace L2.L3
open PySem PySem.Spec PyProof.Rows
section
variable {X : Cx} {pins : List (Addr × Obj)} {σ : St} {H H' : Hp} {a C : Addr} {s s' : Shared}
theorem ThrownD.land {M : Model} {A : Around} {C : Value} {dd : Option Addr} {Q : Unit → Shared → Prop} {E : Value → Shared → Prop} (t : ThrownD X pins σ H' a C dd s') (h : ∀ s'', ThrownD X pins σ H' a C dd s'' → Q () s'') : wpAny M A (setFlight (.ref a) none) Q E s' := by
  obtain ⟨Hc, sc, I, os, bare, un, hok, n0, na, oe, vs, he, hc, hdc, hd, z⟩ := t
  rcases z with z | ⟨T, oT, ts, h1, hT0, hTn, hTa, hT, hdT, h3⟩
  · unfold setFlight
    refine wpAny_bind (wpAny_field he hd z ?_)
    rw [if_neg (by decide)]
    exact wpAny_pure (h _ ⟨Hc, sc, I, os, bare, un, hok, n0, na, oe, vs, he, hc, hdc, hd, .inl z⟩)
  · refine wpAny_setFlight_none he hd h1 hT hdT (Array.getElem?_eq_some_iff.mp h3).1 (h _ ?_)
    have other : ∀ b, b ≠ T → (s'.heap.update T (Obj.mapFields (·.setIfInBounds 3 Value.none))).get? b = s'.heap.get? b := fun b hb => Heap.get?_update_other _ _ (Ne.symm hb)
    have old : ∀ b o, sc.heap.get? b = some o → b ≠ T := fun b o e z => by subst z; rw [hT0] at e; cases e
    have trk : ∀ b u, H' b = some u → b ≠ T := fun b u e z => by subst z; rw [hTn] at e; cases e
    refine ⟨Hc, sc, I, os, bare, ⟨fun b o e n hb hx => (other b (old b o e)).trans (un.keep b o e n hb hx), fun b o e n hb hx => ?_, un.free, fun b o e hx => ?_, un.tups, un.frzs, un.tbls⟩, fun b u e => ?_, n0, na, oe, vs, (other a (Ne.symm hTa)).trans he, hc, hdc, hd, .inr ⟨T, _, _, h1, hT0, hTn, hTa, Heap.get?_update_self _ hT (Obj.isFreed_of_fields (Obj.data_mapFields hdT _)), Obj.data_mapFields hdT _, ?_⟩⟩
    · obtain ⟨sl, q⟩ := un.slot b o e n hb hx
      exact ⟨sl, (other b (old b o e)).trans q⟩
    · obtain ⟨o', q⟩ := un.there b o e hx
      exact ⟨o', (other b (old b o e)).trans q⟩
    · refine (hok b u e).stay (fun c v hc q => ?_) (fun _ q => q) fun _ _ q => q
      refine (other c ?_).trans q
      rcases hc with z | z
      · subst z; exact trk c u e
      · exact trk c _ z
    · have := (Array.getElem?_eq_some_iff.mp h3).1
      simp [Array.getElem?_setIfInBounds, this]
theorem Inv.goes {h' : Heap} {m' : Str → Option Value} {t' : Nat} (I : Inv X pins σ H s) (hn : h'.Ns X.env.locals m') (hs : Heap.SameBut X.env.locals s.heap h') : Inv X pins (σ.map fun _ => none) H { s with heap := h', toks := t' } := by
  have lo : ∀ b o, X.s₀.heap.get? b = some o → b ≠ X.env.locals := fun b o e => Nat.ne_of_lt (Nat.lt_of_lt_of_le (Heap.lt_size e) I.ok.above)
  refine ⟨I.ok, I.os, I.bare, ⟨fun b o e n hb hx => (hs.2 b (lo b o e)).trans (I.base.keep b o e n hb hx), fun b o e n hb hx => ?_, I.base.free, fun b o e hx => ?_, I.base.tups, I.base.frzs, I.base.tbls⟩, ⟨m', hn, fun i x v e1 e2 => ?_⟩, fun y c e => ?_, I.free, I.freeC, fun p hp => ?_, fun b ob e => ?_, by simpa using I.len⟩
  · obtain ⟨sl, e1⟩ := I.base.slot b o e n hb hx
    exact ⟨sl, (hs.2 b (lo b o e)).trans e1⟩
  · obtain ⟨o', e1⟩ := I.base.there b o e hx
    exact ⟨o', (hs.2 b (lo b o e)).trans e1⟩
  · rw [List.getElem?_map] at e2
    cases q : σ[i]? with
    | none => rw [q] at e2; cases e2
    | some u => rw [q] at e2; cases e2
  · obtain ⟨w', z⟩ := I.cell y c e
    exact ⟨w', z.sameBut hs (I.cne y c e)⟩
  · obtain ⟨e, n, ne, nf, d⟩ := I.pin p hp
    exact ⟨(hs.2 p.1 ne).trans e, n, ne, nf, d⟩
  · refine (I.hok b ob e).stay (fun c w' hc q => (hs.2 c ?_).trans q) (fun _ q => q) fun _ _ q => q
    have hfree := I.free
    rintro rfl
    rcases hc with z | hc
    · rw [← z, hfree] at e; cases e
    · rw [hfree] at hc; cases hc
end
abbrev Cx.hand (X : Cx) (a : Addr) : Cx := { X with A := X.A.mark (some (.ref a)), calm := false, xe := fun _ _ => False }
theorem Inv.hand {X : Cx} {pins : List (Addr × Obj)} {σ : St} {H : Hp} {s : Shared} (I : Inv X pins σ H s) (a : Addr) : Inv (Cx.hand X a) pins σ H s :=
  ⟨⟨I.ok.mod, I.ok.kind, I.ok.glob, I.ok.blt, I.ok.above, I.ok.inj, I.ok.has, I.ok.cab, (fun z => by cases z), I.ok.frames, I.ok.stk, I.ok.exf, I.ok.bs, I.ok.bsz, I.ok.noex, I.ok.exfs, I.ok.funs, I.ok.frf⟩, I.os, I.bare, I.base, I.loc, I.cell, I.free, I.freeC, I.pin, I.hok, I.len⟩
theorem Inv.unhand {X : Cx} {a : Addr} {pins : List (Addr × Obj)} {σ : St} {H : Hp} {s : Shared} (ok : X.Ok) (I : Inv (Cx.hand X a) pins σ H s) : Inv X pins σ H s :=
  ⟨ok, I.os, I.bare, I.base, I.loc, I.cell, I.free, I.freeC, I.pin, I.hok, I.len⟩
def dTry (i : Nat) (cls : Str) (tx : TX) (tb : TS3) : TS3 := fun D env => tx env (fun _ => D.nx env) fun c => c = cls ∧ tb { nx := fun _ => False, rt := D.rt } (env.set i (some (.d (.exc cls))))
section
variable {X : Cx} {e : Expr} {tx : TX} {cls n : Str} {C : Addr} {np epos hpos pos : Pos} {b0 : Stmt} {body : List Stmt} {tb : TS3}
end
structure XcOk (K : PySem.W.Frag) (C : Addr) : Prop where
  ga : PySem.W.findIn K (.ref C) "__getattribute__" = some (some (.builtin "BaseException.__getattribute__"))
  hk : PySem.W.findIn K (.ref C) "__getattr__" = some none
  dct : PySem.W.hasDictIn K C = true
  fnd : PySem.W.findIn K (.ref C) "__class__" = some (some (.builtin "object.__class__"))
  gt : PySem.W.specialIn K (.builtin "object.__class__") "__get__" = some (some (.builtin "getset_descriptor.__get__"))
  tk : PySem.W.takesIn K (.builtin "object.__class__") = some true
  mro : PySem.W.mroIn K C (.type "object") = some true
  sub : PySem.W.subIn K (.ref C) (.type "BaseException") = some true
section
variable {prog : Program} {w : World} {A : Around} {E : Value → Shared → Prop} {K : PySem.W.Frag} {x C : Addr} {ox : Obj} {h : Heap} {g : Array GenState} {d : Drawn} {t : Nat} {os : OsState}
end
theorem exc_cls {K : PySem.W.Frag} {C : Addr} (h : PySem.W.hasDictIn K C = true) : ∃ c d cd sl, K.lookup C = some ⟨c, d, .cls cd, sl⟩ := by
  obtain ⟨_, q, _⟩ := PySem.W.any_some h
  unfold PySem.W.clsIn at q
  split at q
  · exact ⟨_, _, _, _, ‹_›⟩
  · cases q
theorem qcls {X : Cx} {c : Str} {p : Pos} {C : Addr} (ac : PySem.W.nsIn X.K mainGlobals c = some (some (.ref C))) (hg : Gl X c := by rfl) (hdb : (c == ("__debug__" : Str)) = false := by decide) : QE X (.Name c p) (cC (.cls c)) := by
  refine ⟨fun B σ F H env Q rp hq pins s I => ?_⟩
  refine ld_glob I hg (PySem.W.mg_of I.ok.mod.kin I.ok.mod.glob ac) ?_ hdb
  exact ⟨.ref C, H, I, rfl, F, .cls c, rp, Same.refl _, by simp only [Den]; exact ⟨C, rfl, ac⟩, hq⟩
inductive ClsL (K : PySem.W.Frag) : List D → List Value → Prop where
  | nil : ClsL K [] []
  | cons {c : Str} {C : Addr} {ds : List D} {vs : List Value} (h : PySem.W.nsIn K mainGlobals c = some (some (.ref C))) (r : ClsL K ds vs) : ClsL K (.cls c :: ds) (.ref C :: vs)
inductive KitD (K : PySem.W.Frag) (C : Addr) : D → Bool → Prop where
  | ty {n : String} {b : Bool} (e : PySem.W.kitOne K (.ref C) (.type n) = some b) : KitD K C (.ty n) b
  | cls {d : Str} {C' : Addr} {b : Bool} (h : PySem.W.nsIn K mainGlobals d = some (some (.ref C'))) (e : PySem.W.kitOne K (.ref C) (.ref C') = some b) : KitD K C (.cls d) b
  | tup {ds : List D} {vs : List Value} {b : Bool} (h : ClsL K ds vs) (e : PySem.W.kitAny K (.ref C) vs = some b) : KitD K C (.tup ds) b
theorem ClsL.vals {K : PySem.W.Frag} {F : Hp} : ∀ {ds : List D} {vs : List Value} {xs : List V} {us : List Value}, ClsL K ds vs → DenL K F ds xs → Vals xs us → us = vs
  | _, _, xs, us, .nil, h, r => by
    simp only [DenL] at h; subst h
    cases r; rfl
  | _, _, xs, us, .cons hc rr, h, r => by
    simp only [DenL] at h
    obtain ⟨v, rs, rfl, hd, hr⟩ := h
    simp only [Den] at hd
    obtain ⟨C', rfl, e⟩ := hd
    rw [hc] at e
    cases e
    cases r with
    | cons q1 q2 =>
      have e1 := (show _ = Value.ref _ from q1)
      rw [e1, ClsL.vals rr hr q2]
def isxF (c : Str) (y : D) (b : Bool) (ds : List D) (Q : D → Prop) : Prop := ds = [.exc c, y] ∧ Q (.bl b)
section
variable {X : Cx} {C : Addr} {b : Bool} {c : Str} {y : D} {a e2 : Expr} {ts : TDs} {p pos : Pos}
end
end L2.L3
set_option Elab.async false
set_option linter.all false
set_option maxRecDepth 100000
set_option maxHeartbeats 4000000
namespace L2.L3
open PySem PySem.Spec PyProof.Rows
def isD (x y : D) (Q : D → Prop) : Prop := match x, y with
  | .bl a, .bl b => Q (.bl (a == b))
  | _, _ => False
def isnD (x y : D) (Q : D → Prop) : Prop := match x, y with
  | .bl a, .bl b => Q (.bl (a != b))
  | _, _ => False
theorem isD_bb {a b : Bool} {Q : D → Prop} : isD (.bl a) (.bl b) Q = Q (.bl (a == b)) := rfl
theorem isnD_bb {a b : Bool} {Q : D → Prop} : isnD (.bl a) (.bl b) Q = Q (.bl (a != b)) := rfl
section
variable {X : Cx} {a b e : Expr} {ta tb : TD} {ts : TDs} {pos : Pos}
end
theorem boot_VE : bootBuiltins "ValueError" = some (.type "ValueError") := by decide +kernel
end L2.L3
set_option Elab.async false
set_option linter.all false
set_option maxRecDepth 100000
set_option maxHeartbeats 4000000
namespace L2.L3
open PySem PySem.Spec PyProof.Rows
section
variable {X : Cx} {e : Expr} {ts : TDs} {p pos : Pos}
def listOfR (ds : List D) (Q : List D → Prop) : Prop := match ds with
  | [.lst xs] => Q xs
  | [.tup xs] => Q xs
  | _ => False
theorem listOfR_l {xs : List D} {Q : List D → Prop} : listOfR [.lst xs] Q = Q xs := rfl
theorem listOfR_t {xs : List D} {Q : List D → Prop} : listOfR [.tup xs] Q = Q xs := rfl
def cListOf (ts : TDs) : TDs := fun env Q => ts env fun ds => listOfR ds Q
theorem qf_listOf (hm : X.mg "list" = none) (ha : QA X [e] ts) (hg : Gl X "list" := by rfl) (he : starEach [e] X.env = (false, eval e X.env) :: starEach [] X.env := by exact star_of rfl) (hpl : (backTo pos (starEach ([] : List Expr) X.env)).any (·.1) = false := by rfl) :
    QF X (.Call (.Name "list" p) [e] [] pos) (cListOf ts) := by
  refine ⟨fun B σ F H env Q rp h => wE_of (pe_callTy call_list_of hg hm boot_list' pa_w (by decide) (by decide) he hpl) ?_⟩
  refine wA_mono (ha B σ F H env _ rp h) fun vs H1 ⟨F1, ds, r1, s1, d1, q1⟩ => ?_
  replace q1 : listOfR ds Q := q1
  unfold listOfR at q1
  split at q1
  · simp only [DenL, Den] at d1
    obtain ⟨v, r, rfl, ⟨p, ys, rfl, q, r⟩, rfl⟩ := d1
    exact ⟨p, ys, rfl, .inl (r1.fh.seq q), fun w hw => ⟨F1, H1, w, ys, _, rfl, hw, rfl, r1, s1, r, q1⟩⟩
  · simp only [DenL, Den] at d1
    obtain ⟨v, r, rfl, ⟨p, ys, rfl, q, r⟩, rfl⟩ := d1
    exact ⟨p, ys, rfl, .inr (Same.seqT r1.fh q), fun w hw => ⟨F1, H1, w, ys, _, rfl, hw, rfl, r1, s1, r, q1⟩⟩
  · exact q1.elim
end
section
variable {X : Cx} {N' : List Str} {ix : List Nat} {scope : Scope} {elt iter : Expr} {ifs : List Expr} {x : Str} {px py pos spos : Pos} {tt : TB} {te ti : TD}
end
section
variable {X : Cx} {es : List Expr} {pos : Pos}
def kLst (n : Nat) (gs : TGs3) : TG3 := fun x env Q => ∃ xs, x = .lst xs ∧ xs.length = n ∧ gs xs env Q
end
end L2.L3
set_option Elab.async false
set_option linter.all false
set_option maxRecDepth 100000
set_option maxHeartbeats 4000000
namespace L2.L3
open PySem PySem.Spec PyProof.Rows
section
variable {X : Cx} {a b c e : Expr} {ta tb tc : TD} {ts : TDs} {pos : Pos}
def cChain (f f' : D → D → (D → Prop) → Prop) (ta tb tc : TD) : TD := fun env Q => ta env fun x => tb env fun y => f x y fun z => ∃ k, z = .bl k ∧ (if k = true then tc env fun w => f' y w Q else Q (.bl false))
theorem chain3 {r r' : R2} {f f' : D → D → (D → Prop) → Prop} (hf : Op3 X r f) (hf' : Op3 X r' f') (ha : QE X a ta) (hb : QE X b tb) (hc : QE X c tc) {B : Base} {σ : St} {F H : Hp} {env : En} {Q : D → Prop} {Z : VK} (rp : Rep X.K B F H σ env) (hz : Kont X B σ env F Q Z) (h : cChain f f' ta tb tc env Q) :
    tChain r r' (wE X a) (wE X b) (wE X c) σ H Z := by
  refine wE_mono (ha B σ F H env _ rp h) fun x H1 ⟨F1, d, r1, s1, d1, q1⟩ => ?_
  refine wE_mono (hb B σ F1 H1 env _ r1 q1) fun y H2 ⟨F2, d', r2, s2, d2, q2⟩ => ?_
  refine hf B σ F2 H2 env _ d d' x y _ r2 (Den.mono s2 _ _ d1) d2 (fun v H3 F3 d3 r3 s3 hd3 q3 => ?_) q2
  obtain ⟨k, rfl, q3⟩ := q3
  refine ⟨k, den_bl_inv hd3, ?_⟩
  cases k with
  | true =>
    rw [if_pos rfl] at q3 ⊢
    refine wE_mono (hc B σ F3 H3 env _ r3 q3) fun w H4 ⟨F4, d4, r4, s4, d4', q4⟩ => ?_
    exact hf' B σ F4 H4 env Q d' d4 y w Z r4 (Den.mono (s3.trans s4) _ _ d2) d4' (fun v H5 F5 d5 r5 s5 hd q => hz v H5 F5 d5 r5 ((((s1.trans s2).trans s3).trans s4).trans s5) hd q) q4
  | false =>
    rw [if_neg (by decide)] at q3 ⊢
    exact hz _ H3 F3 _ r3 ((s1.trans s2).trans s3) den_bl q3
theorem t_chain {op op' : CmpOp} {r r' : R2} {f f' : D → D → (D → Prop) → Prop} (ho : OpR X (compareOp op) r) (hf : Op3 X r f) (ho' : OpR X (compareOp op') r') (hf' : Op3 X r' f') (ha : QE X a ta) (hb : QE X b tb) (hc : QE X c tc)
    (hm : lastMarks [op, op'] [b, c] = false := by with_unfolding_all rfl) : QT X (.Compare a [op, op'] [b, c] pos) (cTest (cChain f f' ta tb tc)) := by
  refine ⟨fun B σ F H env Q rp h => wT_of (pt_chain ho ho' pe_w pe_w pe_w hm) ?_⟩
  show tChain r r' (wE X a) (wE X b) (wE X c) σ H fun x H' => ∃ k, x = .bl k ∧ RB X B σ env F Q k H'
  refine chain3 hf hf' ha hb hc rp (fun v H' F' d r' s' hd q => ?_) h
  obtain ⟨k, rfl, q⟩ := q
  exact ⟨k, den_bl_inv hd, F', r', s', q⟩
theorem t_lele (ha : QE X a ta) (hb : QE X b tb) (hc : QE X c tc) (hm : lastMarks [.LtE, .LtE] [b, c] = false := by with_unfolding_all rfl) : QT X (.Compare a [.LtE, .LtE] [b, c] pos) (cTest (cChain leD leD ta tb tc)) := t_chain op_le o3_ib0 op_le o3_ib0 ha hb hc hm
theorem t_lelt (ha : QE X a ta) (hb : QE X b tb) (hc : QE X c tc) (hm : lastMarks [.LtE, .Lt] [b, c] = false := by with_unfolding_all rfl) : QT X (.Compare a [.LtE, .Lt] [b, c] pos) (cTest (cChain leD ltD ta tb tc)) := t_chain op_le o3_ib0 op_lt o3_ib0 ha hb hc hm
theorem qgi {x : Str} {n : Int} {t : Tok} {p : Pos} (ac : PySem.W.nsIn X.K mainGlobals x = some (some (.int n t))) (hg : Gl X x := by rfl) (hdb : (x == ("__debug__" : Str)) = false := by decide) : QE X (.Name x p) (cC (.int n)) := by
  refine ⟨fun B σ F H env Q rp hq pins s I => ?_⟩
  refine ld_glob I hg (PySem.W.mg_of I.ok.mod.kin I.ok.mod.glob ac) ?_ hdb
  exact ⟨.int n, H, I, ⟨t, rfl⟩, F, .int n, rp, Same.refl _, den_int, hq⟩
end
end L2.L3
set_option Elab.async false
set_option linter.all false
set_option maxRecDepth 100000
set_option maxHeartbeats 4000000
namespace L2.L3
open PySem PySem.Spec PyProof.Rows
section
variable {X : Cx} {p pos : Pos}
def cLenOwn (i : Nat) : TD := fun env Q => ∃ xs, env[i]? = some (some (.own xs)) ∧ Q (.int xs.length)
theorem q_lenOwn {x : Str} {px : Pos} (i : Nat) (hm : X.mg "len" = none) (hg : Gl X "len" := by rfl) (hN : X.N[i]? = some x := by rfl) (hv : Vis X.env.scope x := by first | exact Or.inl rfl | exact Or.inr (Or.inl rfl) | exact Or.inr (Or.inr rfl)) (hd : (x == ("__debug__" : Str)) = false := by decide)
    (hcd : (x == ("__classdict__" : Str)) = false := by decide) (he : starEach [.Name x px] X.env = (false, eval (.Name x px) X.env) :: starEach [] X.env := by exact star_of rfl) (hpl : (backTo pos (starEach ([] : List Expr) X.env)).any (·.1) = false := by rfl) :
    QE X (.Call (.Name "len" p) [.Name x px] [] pos) (cLenOwn i) := by
  refine ⟨fun B σ F H env Q rp h => wE_of (pe_callB call_len_seq hg hm boot_len' (pa_cons (pe_var hN hv hd hcd) pa_nil he) (by decide) (by decide) he hpl) ?_⟩
  obtain ⟨xs, hx, q⟩ := h
  obtain ⟨p, vs, h1, h2, h3, h4, h5⟩ := rp.ov i xs hx
  refine ⟨.ref p, h1, p, vs, rfl, .inl (SqL.of h2), F, .int xs.length, rp, Same.refl _, ?_, q⟩
  rw [h5.length]; exact den_int
theorem qgt {x : Str} {a : Addr} {sl : Array (Option Value)} {its : Array Value} {n : Nat} {ns : List Int} {pp : Pos} (ac : PySem.W.nsIn X.K mainGlobals x = some (some (.ref a))) (hl : X.K.lookup a = some ⟨.type "tuple", none, .seq its n, sl⟩) (hs : its.size ≤ sizeLine) (hv : Vals (ns.map V.int) its.toList)
    (hg : Gl X x := by rfl) (hdb : (x == ("__debug__" : Str)) = false := by decide) : QE X (.Name x pp) (cC (.tup (ns.map D.int))) := by
  refine ⟨fun B σ F H env Q rp hq pins s I => ?_⟩
  refine ld_glob I hg (PySem.W.mg_of I.ok.mod.kin I.ok.mod.glob ac) ?_ hdb
  exact ⟨.ref a, H, I, rfl, F, _, rp, Same.refl _, den_tup (.inr ⟨_, its, n, hl, rfl, rfl, hs, hv, rfl⟩) (denL_ints ns), hq⟩
end
end L2.L3
set_option Elab.async false
set_option linter.all false
set_option maxRecDepth 100000
set_option maxHeartbeats 4000000
namespace L2.L3
open PySem PySem.Spec PyProof.Rows
section
variable {X : Cx} {N' : List Str} {ix : List Nat} {scope : Scope} {elt a : Expr} {ifs : List Expr} {x : Str} {px py pos spos p pos2 : Pos} {tt : TB} {te ta : TD} {ts : TDs}
end
section
variable {X : Cx} {a e : Expr} {ta te : TD} {pos p2 : Pos}
end
end L2.L3
set_option Elab.async false
set_option linter.all false
set_option maxRecDepth 100000
set_option maxHeartbeats 4000000
namespace L2.L3
open PySem PySem.Spec PyProof.Rows
section
variable {X : Cx} {b : Expr} {tb : TD} {x : Str} {tab : List (Str × Str)} {a : Addr} {es : Array DictEntry} {n : Nat} {p pos : Pos}
def cInG (tab : List (Str × Str)) (tb : TD) : TD := fun env Q => tb env fun y => ∃ z, y = .str z ∧ Q (.bl (tab.lookup z).isSome)
def cIxG (tab : List (Str × Str)) (tb : TD) : TD := fun env Q => tb env fun y => ∃ z v, y = .str z ∧ tab.lookup z = some v ∧ Q (.str v)
end
end L2.L3
set_option Elab.async false
set_option linter.all false
set_option maxRecDepth 100000
set_option maxHeartbeats 4000000
namespace L2.L3
open PySem PySem.Spec PyProof.Rows
section
variable {X : Cx} {e : Expr} {ts : TDs} {p pos : Pos}
def cOwnT (i : Nat) : TB := fun env Q => ∃ xs, env[i]? = some (some (.own xs)) ∧ Q (!xs.isEmpty)
def dPop (i : Nat) : TS3 := fun D env => ∃ xs, env[i]? = some (some (.own xs)) ∧ xs ≠ [] ∧ D.nx (env.set i (some (.own xs.dropLast)))
def cListS (ts : TDs) : TDs := fun env Q => ts env fun ds => ∃ z, ds = [.str z] ∧ z.length ≤ sizeLine ∧ Q (signsD z)
end
end L2.L3
set_option Elab.async false
set_option linter.all false
set_option maxRecDepth 100000
set_option maxHeartbeats 4000000
namespace L2.L3
open PySem
section
variable {Q : D → Prop} {i j : Int} {xs ys : List D} {z z' : Str} {C : Int → Int → Prop} {g : Int → Int → D} {k : Bool}
theorem ii_eq : iiD C g (.int i) (.int j) Q = (C i j ∧ Q (g i j)) := rfl
theorem addD_ii : addD (.int i) (.int j) Q = Q (.int (i + j)) := rfl
theorem addD_ll : addD (.lst xs) (.lst ys) Q = (xs.length + ys.length ≤ sizeLine ∧ Q (.lst (xs ++ ys))) := rfl
theorem addD_tt : addD (.tup xs) (.tup ys) Q = (xs.length + ys.length ≤ sizeLine ∧ Q (.tup (xs ++ ys))) := rfl
theorem addD_ss : addD (.str z) (.str z') Q = (z.length + z'.length ≤ sizeLine ∧ Q (.str (z ++ z'))) := rfl
theorem negD_i : negD (.int i) Q = Q (.int (-i)) := rfl
theorem eqF_ii : eqF (.int i) (.int j) Q = Q (.bl (decide (i = j))) := by
  unfold eqF DepOk; simp only [dep, eqD, Nat.zero_le, and_self, true_and]; rw [Bool.beq_eq_decide_eq]
theorem neF_ii : neF (.int i) (.int j) Q = Q (.bl (!decide (i = j))) := by
  unfold neF DepOk; simp only [dep, eqD, Nat.zero_le, and_self, true_and]; rw [Bool.beq_eq_decide_eq]
theorem eqF_ss : eqF (.str z) (.str z') Q = Q (.bl (z == z')) := by
  unfold eqF DepOk; simp only [dep, eqD, Nat.zero_le, and_self, true_and]
theorem eqF_bb {k' : Bool} : eqF (.bl k) (.bl k') Q = Q (.bl (k == k')) := by
  unfold eqF DepOk; simp only [dep, eqD, Nat.zero_le, and_self, true_and]
theorem absF_i : absF [.int i] Q = Q (.int i.natAbs) := by
  show Q _ = Q _
  congr 2
  split <;> omega
theorem lenF_l : lenF [.lst xs] Q = Q (.int xs.length) := rfl
theorem lenF_t : lenF [.tup xs] Q = Q (.int xs.length) := rfl
theorem lenF_s : lenF [.str z] Q = (z.length ≤ sizeLine ∧ Q (.int z.length)) := rfl
theorem maxF_ii : maxF [.int i, .int j] Q = Q (.int (max i j)) := by
  show Q _ = Q _
  congr 2
  split <;> omega
theorem minF_ii : minF [.int i, .int j] Q = Q (.int (min i j)) := by
  show Q _ = Q _
  congr 2
  split <;> omega
theorem intF_i : intF [.int i] Q = Q (.int i) := rfl
theorem intF_b : intF [.bl k] Q = Q (.int (if k then 1 else 0)) := rfl
theorem listF_l : listF [.lst xs] Q = Q (.lst xs) := rfl
theorem listF_t : listF [.tup xs] Q = Q (.lst xs) := rfl
theorem tupleF_l : tupleF [.lst xs] Q = Q (.tup xs) := rfl
theorem tupleF_t : tupleF [.tup xs] Q = Q (.tup xs) := rfl
theorem itemsD_l : itemsD (.lst xs) = some xs := rfl
theorem itemsD_t : itemsD (.tup xs) = some xs := rfl
theorem slD_l {lo hi : Option Int} : slD (.lst xs) lo hi Q = Q (.lst (cutD xs lo hi)) := rfl
theorem rng1_i {R : Int → Nat → Prop} : rng1 [.int j] R = ((-(2 ^ 62) ≤ j ∧ j < 2 ^ 62) ∧ R 0 j.toNat) := rfl
theorem rng2_i {R : Int → Nat → Prop} : rng2 [.int i, .int j] R = ((-(2 ^ 62) ≤ i ∧ i < 2 ^ 62 ∧ -(2 ^ 62) ≤ j ∧ j < 2 ^ 62) ∧ R i (j - i).toNat) := rfl
def Pl (x : D) : Prop := kdD x ≠ .oth
def isInt : D → Bool | .int _ => true | .bl _ => true | _ => false
def isBl : D → Bool | .bl _ => true | _ => false
def isStr : D → Bool | .str _ => true | _ => false
def isTup : D → Bool | .tup _ => true | _ => false
theorem isi_int {x : D} (h : Pl x) (q : Q (.bl (isInt x))) : isiR "int" x Q := by cases x <;> first | exact ⟨_, rfl, q⟩ | exact absurd rfl h
theorem isi_bl {x : D} (h : Pl x) (q : Q (.bl (isBl x))) : isiR "bool" x Q := by cases x <;> first | exact ⟨_, rfl, q⟩ | exact absurd rfl h
theorem isi_str {x : D} (h : Pl x) (q : Q (.bl (isStr x))) : isiR "str" x Q := by cases x <;> first | exact ⟨_, rfl, q⟩ | exact absurd rfl h
theorem isi_tup {x : D} (h : Pl x) (q : Q (.bl (isTup x))) : isiR "tuple" x Q := by cases x <;> first | exact ⟨_, rfl, q⟩ | exact absurd rfl h
end
def two2 (xs : List D) (R : D → D → Prop) : Prop := match xs with | [x, y] => R x y | _ => False
theorem two2_eq {x y : D} {R : D → D → Prop} : two2 [x, y] R = R x y := rfl
theorem dPar_eq (i j : Nat) (ts : TDs) (Z : Ends3) (env : En) : dPar i j ts Z env = ts env fun xs => two2 xs fun x y => Z.nx ((env.set i (some (.d x))).set j (some (.d y))) := by
  unfold dPar two2
  congr 1; funext xs; apply propext
  constructor
  · rintro ⟨x, y, rfl, h⟩; exact h
  · intro h; split at h
    · exact ⟨_, _, rfl, h⟩
    · exact h.elim
def cons1 (xs : List D) (R : D → List D → Prop) : Prop := match xs with | x :: r => R x r | _ => False
theorem cons1_eq {x : D} {r : List D} {R : D → List D → Prop} : cons1 (x :: r) R = R x r := rfl
theorem kCons_eq (g : TG3) (gs : TGs3) (xs : List D) (env : En) (Q : En → Prop) : kCons g gs xs env Q = cons1 xs fun x r => g x env fun env' => gs r env' Q := by
  unfold kCons cons1
  apply propext
  constructor
  · rintro ⟨x, y, rfl, h⟩; exact h
  · intro h; split at h
    · exact ⟨_, _, rfl, h⟩
    · exact h.elim
theorem turns_of {g : TG3} {tb : TS3} {Z : Ends3} {xs : List D} (I : Nat → En → Prop)
    (step : ∀ (i : Nat) (x : D) (env : En) (N : En → Prop), xs[i]? = some x → I i env → (∀ e, I (i + 1) e → N e) → g x env fun e => tb { Z with nx := N, ct := N, bk := Z.nx } e)
    (done : ∀ env, I xs.length env → Z.nx env) {env : En} (h0 : I 0 env) : turns g tb Z xs env := by
  have go : ∀ (n k : Nat) (env : En), k + n = xs.length → I k env → turns g tb Z (xs.drop k) env := by
    intro n
    induction n with
    | zero =>
      intro k env hk h
      rw [List.drop_eq_nil_of_le (by omega)]
      exact done env (by rw [← hk]; exact h)
    | succ n ih =>
      intro k env hk h
      have hx : xs[k]? = some (xs[k]'(by omega)) := by simp
      rw [drop_cons hx]
      exact step k _ env _ hx h fun e he => ih (k + 1) e (by omega) he
  simpa using go xs.length 0 env (by omega) h0
theorem comps_map {te : TD} {env0 : En} {Q : List D → Prop} (f : D → D) : ∀ (xs acc : List D), (∀ x ∈ xs, ∀ N : D → Prop, N (f x) → te (env0.set 0 (some (.d x))) N) → acc.length + xs.length ≤ sizeLine → Q (acc ++ xs.map f) → comps cTrue te env0 Q xs acc
  | [], acc, _, _, q => by simpa [comps] using q
  | x :: xs, acc, h, hl, q => by
    simp only [comps, cTrue, if_true]
    refine h x List.mem_cons_self _ ⟨by simp at hl; omega, comps_map f xs _ (fun y hy => h y (List.mem_cons_of_mem _ hy)) (by simp at hl ⊢; omega) (by simpa using q)⟩
theorem comps_filter {tt : TB} {te : TD} {env0 : En} {Q : List D → Prop} (t : D → Bool) (f : D → D) : ∀ (xs acc : List D), (∀ x ∈ xs, ∀ N : Bool → Prop, N (t x) → tt (env0.set 0 (some (.d x))) N) → (∀ x ∈ xs, t x = true → ∀ N : D → Prop, N (f x) → te (env0.set 0 (some (.d x))) N) → acc.length + xs.length ≤ sizeLine → Q (acc ++ (xs.filter t).map f) → comps tt te env0 Q xs acc
  | [], acc, _, _, _, q => by simpa [comps] using q
  | x :: xs, acc, ht, h, hl, q => by
    refine ht x List.mem_cons_self _ ?_
    cases hx : t x with
    | false =>
      rw [if_neg (by decide)]
      refine comps_filter t f xs acc (fun y hy => ht y (List.mem_cons_of_mem _ hy)) (fun y hy => h y (List.mem_cons_of_mem _ hy)) (by simp at hl; omega) (by simpa [List.filter_cons, hx] using q)
    | true =>
      rw [if_pos rfl]
      refine h x List.mem_cons_self hx _ ⟨by simp at hl; omega, comps_filter t f xs _ (fun y hy => ht y (List.mem_cons_of_mem _ hy)) (fun y hy => h y (List.mem_cons_of_mem _ hy)) (by simp at hl ⊢; omega) (by simpa [List.filter_cons, hx] using q)⟩
theorem atI_nat {α : Type} {xs : List α} {i : Int} (h0 : 0 ≤ i) (h1 : i < xs.length) : atI xs i = xs[i.toNat]? := by
  unfold L2.atI ixN
  rw [if_pos h0, if_pos h1]; rfl
theorem ix_mem {Q : D → Prop} {xs : List D} {i : Int} (h0 : 0 ≤ i) (h1 : i < xs.length) (q : ∀ v, v ∈ xs → Q v) : ixD (.lst xs) (.int i) Q := by
  have hl : i.toNat < xs.length := by omega
  exact ⟨xs[i.toNat], by rw [atI_nat h0 h1]; simp, q _ (List.getElem_mem hl)⟩
theorem fmod_range {a b : Int} (h : 0 < b) : 0 ≤ a.fmod b ∧ a.fmod b < b := ⟨Int.fmod_nonneg_of_pos a h, Int.fmod_lt_of_pos a h⟩
theorem ixr {Q : D → Prop} {xs : List D} {c k : Int} (q : ∀ v, v ∈ xs → Q v) (hk : (xs.length : Int) = k) (hp : 0 < k) : ixD (.lst xs) (.int (c.fmod k)) Q := by
  have f := fmod_range (a := c) hp
  exact ix_mem f.1 (by rw [hk]; exact f.2) q
def Bits (n : Nat) (a : Int) : Prop := a.natAbs < 2 ^ n
theorem bits_le {n m : Nat} {a : Int} (h : Bits n a) (hm : n ≤ m) : Bits m a := Nat.lt_of_lt_of_le h (Nat.pow_le_pow_right (by decide) hm)
theorem intBits_of {n : Nat} {a : Int} (h : Bits n a) : Builtin.Int.intBits a ≤ n := by
  unfold Builtin.Int.intBits
  by_cases e : a = 0
  · subst e; simp
  · rw [if_neg (by simpa using e)]
    have : a.natAbs ≠ 0 := by omega
    exact (Nat.log2_lt this).mpr h
theorem mul_ok {n m : Nat} {a b : Int} (ha : Bits n a) (hb : Bits m b) (h : n + m ≤ 1000000) : IntMulOk a b := by
  have h1 := intBits_of ha
  have h2 := intBits_of hb
  unfold IntMulOk Builtin.Int.intTooBig
  have : ¬ ((Builtin.Int.intBits a : Int) + (Builtin.Int.intBits b : Int) > (bitsLine : Int)) := by
    have : (1000000 : Int) ≤ (bitsLine : Int) := by decide
    omega
  simp only [Bool.and_eq_true, decide_eq_true_eq]
  rintro ⟨_, h3⟩
  exact this h3
theorem bits_add {n m : Nat} {a b : Int} (ha : Bits n a) (hb : Bits m b) : Bits (max n m + 1) (a + b) := by
  unfold Bits at *
  have h1 : (2:Nat) ^ n ≤ 2 ^ max n m := Nat.pow_le_pow_right (by decide) (Nat.le_max_left _ _)
  have h2 : (2:Nat) ^ m ≤ 2 ^ max n m := Nat.pow_le_pow_right (by decide) (Nat.le_max_right _ _)
  rw [Nat.pow_succ]
  omega
theorem bits_neg {n : Nat} {a : Int} (ha : Bits n a) : Bits n (-a) := by unfold Bits at *; rwa [Int.natAbs_neg]
theorem div_ok {n : Nat} {a b : Int} (hb : Bits n b) (h0 : b ≠ 0) (hn : n ≤ 9000) : DivOk a b := by
  refine ⟨h0, ?_⟩
  have : b.natAbs ≠ 0 := by omega
  exact Nat.lt_of_lt_of_le ((Nat.log2_lt this).mpr hb) hn
theorem mul_ok_l {a b : Int} (h1 : -(2 ^ 64) < a) (h2 : a < 2 ^ 64) : IntMulOk a b := .of_left (intBits_le_64 h1 h2)
theorem mul_ok_r {a b : Int} (h1 : -(2 ^ 64) < b) (h2 : b < 2 ^ 64) : IntMulOk a b := .of_right (intBits_le_64 h1 h2)
theorem divL {c : Int} (j : Int) (h : j ≠ 0 ∧ j.natAbs < 2 ^ 256) : DivOk c j := div_ok (n := 256) h.2 h.1 (by decide)
theorem powL (i j : Int) (h : 0 ≤ j ∧ j ≤ 1000000 ∧ i.natAbs < 2 ^ 64) : CPow i j := h
theorem modL {c : Int} (j : Int) (h : j ≠ 0) : ModOk c j := h
theorem bitsL (n : Nat) (a : Int) (h : a.natAbs < 2 ^ n) : Bits n a := h
def Digs (m : Nat) (b : Int) (d : D) : Prop := ∃ xs : List Int, d = .lst (xs.map D.int) ∧ xs.length = m ∧ ∀ x ∈ xs, 0 ≤ x ∧ x < b
theorem dig_at {m : Nat} {b : Int} {d : D} (h : Digs m b d) {i : Int} {Q : D → Prop} (h0 : 0 ≤ i) (h1 : i < m) (q : ∀ x : Int, 0 ≤ x → x < b → Q (.int x)) : ixD d (.int i) Q := by
  obtain ⟨xs, rfl, hl, hb⟩ := h
  refine ix_mem h0 (by simpa [hl] using h1) fun v hv => ?_
  obtain ⟨x, hx, rfl⟩ := List.mem_map.mp hv
  exact q x (hb x hx).1 (hb x hx).2
theorem cutD_map (ns : List Int) (lo hi : Option Int) : cutD (ns.map D.int) lo hi = ((ns.drop (HT.sIx ns.length 0 lo)).take (HT.sIx ns.length ns.length hi - HT.sIx ns.length 0 lo)).map D.int := by
  unfold cutD; rw [List.length_map, List.map_take, List.map_drop]
theorem cutD_len (xs : List D) (lo hi : Option Int) : (cutD xs lo hi).length ≤ xs.length := by
  unfold cutD; rw [List.length_take, List.length_drop]; omega
theorem cutD_mem {xs : List D} {lo hi : Option Int} {v : D} (h : v ∈ cutD xs lo hi) : v ∈ xs := by
  unfold cutD at h; exact List.mem_of_mem_drop (List.mem_of_mem_take h)
end L2.L3
local macro_rules | `(tactic| simp_all_arith only [$ls,*]) => `(tactic| simp only [$ls,*, L2.L3.dSeq, L2.L3.dIf, L2.L3.dRet, L2.L3.dRetN, L2.L3.dNext, L2.L3.dBreak, L2.L3.dCont, L2.L3.dNever, L2.L3.dSet, L2.L3.dAsg, L2.L3.dPar_eq, L2.L3.two2_eq, L2.L3.dFor, L2.L3.dForR, L2.L3.dSetOwn, L2.L3.dAppend, L2.L3.dExtend, L2.L3.dFreeze, L2.L3.dPut, L2.L3.cVar, L2.L3.cC, L2.L3.cOp, L2.L3.cUn, L2.L3.cTest, L2.L3.cNot, L2.L3.cAnd, L2.L3.cOr, L2.L3.cAndV, L2.L3.cOrV, L2.L3.cNotV, L2.L3.cIf, L2.L3.cCall, L2.L3.cCons, L2.L3.cNil, L2.L3.cTup, L2.L3.cLst, L2.L3.cIsi, L2.L3.cFresh, L2.L3.cFew, L2.L3.cSl, L2.L3.cPart, L2.L3.cNoPart, L2.L3.cIxOwn, L2.L3.kName, L2.L3.kTup, L2.L3.kCons_eq, L2.L3.cons1_eq, L2.L3.cDisp, L2.L3.kNil, L2.L3.cTrue, L2.L3.start3, List.map_cons, List.map_nil, List.length_cons, List.length_nil, List.cons_append, List.nil_append, List.append_nil, List.getElem?_cons_zero, List.getElem?_cons_succ, List.getElem?_nil, List.set_cons_zero, List.set_cons_succ, Option.some.injEq, L2.L3.Lo.d.injEq, L2.L3.Lo.own.injEq, L2.L3.D.bl.injEq, L2.L3.D.int.injEq, exists_eq_left', exists_eq_left, Nat.reduceAdd, Nat.reduceSub, Nat.sub_self, Nat.add_one_sub_one, List.replicate_succ, List.replicate_zero, L2.L3.D.tup.injEq, List.cons.injEq, and_assoc, L2.L3.cComp, L2.L3.cCompR, L2.L3.ii_eq, L2.L3.addD_ii, L2.L3.addD_ll, L2.L3.addD_tt, L2.L3.addD_ss, L2.L3.negD_i, L2.L3.eqF_ii, L2.L3.neF_ii, L2.L3.eqF_ss, L2.L3.eqF_bb, L2.L3.absF_i, L2.L3.lenF_l, L2.L3.lenF_t, L2.L3.lenF_s, L2.L3.maxF_ii, L2.L3.minF_ii, L2.L3.intF_i, L2.L3.intF_b, L2.L3.listF_l, L2.L3.listF_t, L2.L3.tupleF_l, L2.L3.tupleF_t, L2.L3.itemsD_l, L2.L3.itemsD_t, L2.L3.slD_l, L2.L3.rng1_i, L2.L3.rng2_i, decide_eq_true_eq, true_and, and_true, if_true, if_false, Bool.false_eq_true, Bool.not_eq_true', decide_eq_false_iff_not, PySem.sizeLine_eq, Int.reduceToNat, Int.reducePow, Int.reduceMul, Int.reduceAdd, Int.reduceNeg, Int.reduceSub, Int.reduceLT, Int.reduceLE, Int.reduceEq, Nat.reduceEqDiff, decide_true, decide_false, Nat.reduceLeDiff, Nat.reduceLT, Bool.true_eq_false, Bool.not_true, Bool.not_false, Bool.not_not])
local macro_rules | `(tactic| simp_arith! only [$ls,*] $[$loc]?) => `(tactic| simp only [$ls,*, L2.L3.dSeq, L2.L3.dIf, L2.L3.dRet, L2.L3.dRetN, L2.L3.dNext, L2.L3.dBreak, L2.L3.dCont, L2.L3.dNever, L2.L3.dSet, L2.L3.dAsg, L2.L3.dPar_eq, L2.L3.two2_eq, L2.L3.dFor, L2.L3.dForR, L2.L3.dSetOwn, L2.L3.dAppend, L2.L3.dExtend, L2.L3.dFreeze, L2.L3.dPut, L2.L3.cVar, L2.L3.cC, L2.L3.cOp, L2.L3.cUn, L2.L3.cTest, L2.L3.cNot, L2.L3.cAnd, L2.L3.cOr, L2.L3.cAndV, L2.L3.cOrV, L2.L3.cNotV, L2.L3.cIf, L2.L3.cCall, L2.L3.cCons, L2.L3.cNil, L2.L3.cTup, L2.L3.cLst, L2.L3.cIsi, L2.L3.cFresh, L2.L3.cFew, L2.L3.cSl, L2.L3.cPart, L2.L3.cNoPart, L2.L3.cIxOwn, L2.L3.kName, L2.L3.kTup, L2.L3.kCons_eq, L2.L3.cons1_eq, L2.L3.cDisp, L2.L3.kNil, L2.L3.cTrue, L2.L3.start3, List.map_cons, List.map_nil, List.length_cons, List.length_nil, List.cons_append, List.nil_append, List.append_nil, List.getElem?_cons_zero, List.getElem?_cons_succ, List.getElem?_nil, List.set_cons_zero, List.set_cons_succ, Option.some.injEq, L2.L3.Lo.d.injEq, L2.L3.Lo.own.injEq, L2.L3.D.bl.injEq, L2.L3.D.int.injEq, exists_eq_left', exists_eq_left, Nat.reduceAdd, Nat.reduceSub, Nat.sub_self, Nat.add_one_sub_one, List.replicate_succ, List.replicate_zero, L2.L3.D.tup.injEq, List.cons.injEq, and_assoc, L2.L3.cComp, L2.L3.cCompR, L2.L3.ii_eq, L2.L3.addD_ii, L2.L3.addD_ll, L2.L3.addD_tt, L2.L3.addD_ss, L2.L3.negD_i, L2.L3.eqF_ii, L2.L3.neF_ii, L2.L3.eqF_ss, L2.L3.eqF_bb, L2.L3.absF_i, L2.L3.lenF_l, L2.L3.lenF_t, L2.L3.lenF_s, L2.L3.maxF_ii, L2.L3.minF_ii, L2.L3.intF_i, L2.L3.intF_b, L2.L3.listF_l, L2.L3.listF_t, L2.L3.tupleF_l, L2.L3.tupleF_t, L2.L3.itemsD_l, L2.L3.itemsD_t, L2.L3.slD_l, L2.L3.rng1_i, L2.L3.rng2_i, decide_eq_true_eq, true_and, and_true, if_true, if_false, Bool.false_eq_true, Bool.not_eq_true', decide_eq_false_iff_not, PySem.sizeLine_eq, Int.reduceToNat, Int.reducePow, Int.reduceMul, Int.reduceAdd, Int.reduceNeg, Int.reduceSub, Int.reduceLT, Int.reduceLE, Int.reduceEq, Nat.reduceEqDiff, decide_true, decide_false, Nat.reduceLeDiff, Nat.reduceLT, Bool.true_eq_false, Bool.not_true, Bool.not_false, Bool.not_not, L2.L3.dTry, L2.L3.cCallX, L2.L3.zRaise, L2.L3.zIf, L2.L3.zUp, L2.L3.zSeq, L2.L3.zRet, L2.L3.zSet, L2.L3.zExpr, L2.L3.isxF, L2.L3.isD_bb, L2.L3.isnD_bb, L2.L3.cListOf, L2.L3.listOfR_l, L2.L3.listOfR_t, L2.L3.kLst, L2.L3.D.lst.injEq, L2.L3.cChain, L2.L3.cLenOwn, L2.L3.cOwnT, L2.L3.dPop, L2.L3.cInG, L2.L3.cIxG, L2.L3.cListS] $[$loc]?)
set_option Elab.async false
set_option linter.all false
set_option maxRecDepth 100000
set_option maxHeartbeats 4000000
namespace L2.L3
open PySem
def F1 (P : D → (D → Prop) → Prop) : Fw := fun ds Q => ∃ x, ds = [x] ∧ P x Q
def F2 (P : D → D → (D → Prop) → Prop) : Fw := fun ds Q => ∃ x y, ds = [x, y] ∧ P x y Q
def F3 (P : D → D → D → (D → Prop) → Prop) : Fw := fun ds Q => ∃ x y z, ds = [x, y, z] ∧ P x y z Q
def F4 (P : D → D → D → D → (D → Prop) → Prop) : Fw := fun ds Q => ∃ x y z u, ds = [x, y, z, u] ∧ P x y z u Q
theorem lenF1 {P} : ∀ ds Q, F1 P ds Q → ds.length = 1 := by rintro ds Q ⟨x, rfl, _⟩; rfl
theorem lenF2 {P} : ∀ ds Q, F2 P ds Q → ds.length = 2 := by rintro ds Q ⟨x, y, rfl, _⟩; rfl
theorem lenF3 {P} : ∀ ds Q, F3 P ds Q → ds.length = 3 := by rintro ds Q ⟨x, y, z, rfl, _⟩; rfl
theorem F1_eq {P} {x : D} {Q} : F1 P [x] Q = P x Q := by
  unfold F1; apply propext; constructor
  · rintro ⟨x', e, h⟩; cases e; exact h
  · intro h; exact ⟨_, rfl, h⟩
theorem F2_eq {P} {x y : D} {Q} : F2 P [x, y] Q = P x y Q := by
  unfold F2; apply propext; constructor
  · rintro ⟨x', y', e, h⟩; cases e; exact h
  · intro h; exact ⟨_, _, rfl, h⟩
theorem F3_eq {P} {x y z : D} {Q} : F3 P [x, y, z] Q = P x y z Q := by
  unfold F3; apply propext; constructor
  · rintro ⟨x', y', z', e, h⟩; cases e; exact h
  · intro h; exact ⟨_, _, _, rfl, h⟩
def wholeD : D → Bool | .int _ => true | _ => false
def pWhole (x : D) (Q : D → Prop) : Prop := Pl x ∧ Q (.bl (wholeD x))
def f_is_whole : Fw := F1 pWhole
def t_is_whole : TS3 := (dRet (cAndV (cIsi "int" (cVar 0)) (cNotV (cIsi "bool" (cVar 0)))))
theorem len_is_whole : ∀ ds Q, f_is_whole ds Q → ds.length = 1 := lenF1
theorem ob_is_whole : ∀ ds (Q : D → Prop), f_is_whole ds Q → t_is_whole { nx := fun _ => Q .non, rt := Q } (start3 ["thing"] ds) := by
  rintro ds Q ⟨x, rfl, hx, h⟩
  simp_all_arith only [t_is_whole]
  refine isi_int hx ⟨_, rfl, ?_⟩
  cases x <;> simp only [isInt, if_true, Bool.false_eq_true, if_false] <;> first | exact h | exact isi_bl hx ⟨_, rfl, h⟩
def wholesD (x : D) (n : Int) : Bool := match x with
  | .tup xs => decide ((xs.length : Int) = n) && xs.all wholeD
  | _ => false
def PlL (x : D) : Prop := Pl x ∧ ∀ xs, x = .tup xs → xs.length ≤ 1000 ∧ ∀ y ∈ xs, Pl y
def pWholes (x y : D) (Q : D → Prop) : Prop := ∃ n : Int, y = .int n ∧ PlL x ∧ Q (.bl (wholesD x n))
def f_are_wholes : Fw := F2 pWholes
def t_are_wholes : TS3 := (dSeq (dIf (cOr (cNot (cTest (cIsi "tuple" (cVar 0)))) (cTest (cOp neF (cCall lenF (cCons (cVar 0) cNil)) (cVar 1)))) (dRet (cC (.bl false))) dNext) (dRet (cCall allF (cCons (cFresh (cComp [] (cVar 0) cTrue (cCall f_is_whole (cCons (cVar 0) cNil)))) cNil))))
theorem len_are_wholes : ∀ ds Q, f_are_wholes ds Q → ds.length = 2 := lenF2
theorem ob_are_wholes : ∀ ds (Q : D → Prop), f_are_wholes ds Q → t_are_wholes { nx := fun _ => Q .non, rt := Q } (start3 ["thing", "many"] ds) := by
  rintro ds Q ⟨x, y, rfl, n, rfl, ⟨hx, hxs⟩, h⟩
  simp_all_arith only [t_are_wholes]
  refine isi_tup hx ⟨_, rfl, ?_⟩
  cases x with
  | tup xs =>
    simp_all_arith only [isTup]
    by_cases hn : (xs.length : Int) = n
    · rw [if_neg (by simp [hn])]
      refine comps_map (fun x => .bl (wholeD x)) xs [] (fun x hx N hN => ?_) ?_ ?_
      · simp_all_arith only [capE, List.replicate_succ, f_is_whole, F1_eq]
        exact ⟨(hxs xs rfl).2 x hx, hN⟩
      · have := (hxs xs rfl).1; rw [PySem.sizeLine_eq]; simp; omega
      · refine ⟨_, (by rw [List.nil_append]; exact (by rw [← List.map_map]; exact boolsOf_map _ : boolsOf (xs.map (D.bl ∘ wholeD)) = some _)), ?_⟩
        simp only [wholesD, hn, decide_true, Bool.true_and] at h
        rw [List.all_map]
        exact h
    · rw [if_pos (by simp [hn])]
      simp only [wholesD, hn, decide_false, Bool.false_and] at h
      exact h
  | _ => simp_all_arith only [isTup]; exact h
def pGcd (x y : D) (Q : D → Prop) : Prop := ∃ p q : Int, x = .int p ∧ y = .int q ∧ Q (.int (Int.gcd p q))
theorem gcd_fmod (h l : Int) (h0 : 0 ≤ h) (l0 : 0 < l) : Int.gcd l (h.fmod l) = Int.gcd h l := by
  rw [Int.fmod_eq_emod_of_nonneg h (by omega), Int.gcd_comm l, Int.emod_def, Int.gcd_comm h l]
  rw [Int.gcd_comm]
  exact Int.gcd_sub_mul_left_right ..
def f_common_part : Fw := F2 pGcd
def t_common_part : TS3 := (dSeq (dSet 2 (cCall absF (cCons (cVar 0) cNil))) (dSeq (dSet 3 (cCall absF (cCons (cVar 1) cNil))) (dSeq (dWhile (cTest (cOp neF (cVar 3) (cC (.int 0)))) (dPar 2 3 (cCons (cVar 3) (cCons (cOp modD (cVar 2) (cVar 3)) cNil)))) (dRet (cVar 2)))))
theorem len_common_part : ∀ ds Q, f_common_part ds Q → ds.length = 2 := lenF2
theorem ob_common_part : ∀ ds (Q : D → Prop), f_common_part ds Q → t_common_part { nx := fun _ => Q .non, rt := Q } (start3 ["p", "q", "high", "low"] ds) := by
  rintro ds Q ⟨x, y, rfl, p, q, rfl, rfl, h⟩
  simp_all_arith only [t_common_part, dWhile]
  refine ⟨fun e => ∃ a b : Int, e = [some (.d (.int p)), some (.d (.int q)), some (.d (.int a)), some (.d (.int b))] ∧ 0 ≤ a ∧ 0 ≤ b ∧ Int.gcd a b = Int.gcd p q,
    fun e => match e with | [_, _, _, some (.d (.int b))] => b.toNat | _ => 0, ⟨_, _, rfl, by omega, by omega, by simp [Int.gcd]⟩, ?_⟩
  rintro env ⟨a, b, rfl, ha, hb, hg⟩
  simp_all_arith only [and_true]
  by_cases hz : b = 0
  · subst hz
    simp_all_arith only [not_true, decide_true]
    have : ((Int.gcd p q : Nat) : Int) = a := by rw [← hg]; simp; omega
    rw [this] at h; exact h
  · have f := fmod_range (a := a) (b := b) (by omega)
    simp_all_arith only [hz, not_false_eq_true, ModOk, ne_eq]
    refine ⟨⟨_, _, rfl, rfl, hb, f.1, ?_⟩, by show (a.fmod b).toNat < b.toNat; omega⟩
    rw [← hg]; exact gcd_fmod a b ha (by omega)
def upD (p q : Int) : D := if q < 0 ∨ (q = 0 ∧ p < 0) then .tup [.int (-p), .int (-q)] else .tup [.int p, .int q]
def pUp (x y : D) (Q : D → Prop) : Prop := ∃ p q : Int, x = .int p ∧ y = .int q ∧ Q (upD p q)
def f_upright : Fw := F2 pUp
def t_upright : TS3 := (dSeq (dIf (cOr (cTest (cOp ltD (cVar 1) (cC (.int 0)))) (cAnd (cTest (cOp eqF (cVar 1) (cC (.int 0)))) (cTest (cOp ltD (cVar 0) (cC (.int 0)))))) (dRet (cTup (cCons (cUn negD (cVar 0)) (cCons (cUn negD (cVar 1)) cNil)))) dNext) (dRet (cTup (cCons (cVar 0) (cCons (cVar 1) cNil)))))
theorem len_upright : ∀ ds Q, f_upright ds Q → ds.length = 2 := lenF2
theorem ob_upright : ∀ ds (Q : D → Prop), f_upright ds Q → t_upright { nx := fun _ => Q .non, rt := Q } (start3 ["p", "q"] ds) := by
  rintro ds Q ⟨x, y, rfl, p, q, rfl, rfl, h⟩
  simp_all_arith only [t_upright]
  unfold upD at h
  by_cases h1 : q < 0
  · rw [if_pos (.inl h1)] at h; simp only [h1, if_true]; exact h
  · by_cases h2 : q = 0
    · by_cases h3 : p < 0
      · rw [if_pos (.inr ⟨h2, h3⟩)] at h; simp only [h1, h2, h3, if_true, if_false]; subst h2; exact h
      · rw [if_neg (by omega)] at h; simp only [h1, h2, h3, if_true, if_false]; subst h2; exact h
    · rw [if_neg (by omega)] at h; simp only [h1, h2, if_true, if_false]; exact h
def fracD (x : D) : Bool := match x with
  | .tup [.int p, .int q] => decide (Int.gcd p q = 1) && (decide (0 < q) || (decide (q = 0) && decide (p = 1)))
  | _ => false
def pFrac (x : D) (Q : D → Prop) : Prop := PlL x ∧ Q (.bl (fracD x))
theorem wholes2 {x : D} (h : wholesD x 2 = true) : ∃ p q : Int, x = .tup [.int p, .int q] := by
  unfold wholesD at h
  split at h
  · rename_i xs
    simp only [Bool.and_eq_true, decide_eq_true_eq] at h
    obtain ⟨h1, h2⟩ := h
    match xs, h1, h2 with
    | [a, b], _, h2 =>
      simp only [List.all_cons, List.all_nil, Bool.and_true, Bool.and_eq_true] at h2
      cases a <;> simp only [wholeD, Bool.false_eq_true, false_and] at h2
      cases b <;> simp only [wholeD, Bool.false_eq_true, and_false] at h2
      exact ⟨_, _, rfl⟩
  · cases h
theorem frac_not {x : D} (h : wholesD x 2 = false) : fracD x = false := by
  unfold fracD
  split
  · simp [wholesD, wholeD] at h
  · rfl
def f_is_fraction : Fw := F1 pFrac
def t_is_fraction : TS3 := (dSeq (dIf (cNot (cTest (cCall f_are_wholes (cCons (cVar 0) (cCons (cC (.int 2)) cNil))))) (dRet (cC (.bl false))) dNext) (dSeq (dAsg (cVar 0) (kTup 2 (kCons (kName 1) (kCons (kName 2) kNil)))) (dRet (cAndV (cOp eqF (cCall f_common_part (cCons (cVar 1) (cCons (cVar 2) cNil))) (cC (.int 1))) (cOp eqF (cCall f_upright (cCons (cVar 1) (cCons (cVar 2) cNil))) (cTup (cCons (cVar 1) (cCons (cVar 2) cNil))))))))
theorem len_is_fraction : ∀ ds Q, f_is_fraction ds Q → ds.length = 1 := lenF1
theorem ob_is_fraction : ∀ ds (Q : D → Prop), f_is_fraction ds Q → t_is_fraction { nx := fun _ => Q .non, rt := Q } (start3 ["thing", "p", "q"] ds) := by
  rintro ds Q ⟨x, rfl, hx, h⟩
  simp_all_arith only [t_is_fraction, f_are_wholes, F2_eq, pWholes, f_common_part, pGcd, f_upright, pUp]
  refine ⟨hx, ?_⟩
  cases hw : wholesD x 2 with
  | false =>
    rw [frac_not hw] at h
    simp_all_arith only [and_true]; exact h
  | true =>
    obtain ⟨p, q, rfl⟩ := wholes2 hw
    simp_all_arith only [and_true]
    refine ⟨p, q, rfl, rfl, ?_⟩
    simp only [fracD] at h
    by_cases hg : (Int.gcd p q : Int) = 1
    · have hg' : Int.gcd p q = 1 := by omega
      simp_all_arith only [hg, decide_true]
      refine ⟨p, q, rfl, rfl, ?_⟩
      simp only [hg', decide_true, Bool.true_and] at h
      refine ⟨?_, ?_⟩
      · unfold DepOk upD; split <;> simp [dep, depL]
      · have e : eqD (upD p q) (.tup [.int p, .int q]) = (decide (0 < q) || (decide (q = 0) && decide (p = 1))) := by
          unfold upD
          by_cases h1 : q < 0
          · rw [if_pos (.inl h1)]
            simp only [eqD, eqDs, Bool.and_true]
            rw [Bool.eq_iff_iff]; simp; omega
          · by_cases h2 : q = 0
            · subst h2
              have hp : p.natAbs = 1 := by simpa [Int.gcd] using hg'
              by_cases h3 : p < 0
              · rw [if_pos (.inr ⟨rfl, h3⟩)]
                simp only [eqD, eqDs, Bool.and_true]
                rw [Bool.eq_iff_iff]; simp; omega
              · rw [if_neg (by omega)]
                simp only [eqD, eqDs, Bool.and_true]
                rw [Bool.eq_iff_iff]; simp; omega
            · rw [if_neg (by omega)]
              simp only [eqD, eqDs, Bool.and_true]
              rw [Bool.eq_iff_iff]; simp; omega
        rw [e]; exact h
    · have hg' : ¬ Int.gcd p q = 1 := by omega
      simp_all_arith only [hg, decide_false]
      simp only [hg', decide_false, Bool.false_and] at h
      exact h
end L2.L3
set_option Elab.async false
set_option linter.all false
set_option maxRecDepth 100000
set_option maxHeartbeats 4000000
namespace L2.L3
open PySem
def cellZ (ns : List Int) (k : Int) : Int := if k < ns.length then ns.getD k.toNat 0 else 0
def pCell (x y : D) (Q : D → Prop) : Prop := ∃ (ns : List Int) (k : Int), x = .lst (ns.map D.int) ∧ y = .int k ∧ 0 ≤ k ∧ Q (.int (cellZ ns k))
def f_law_cell : Fw := F2 pCell
def t_law_cell : TS3 := (dSeq (dIf (cTest (cOp ltD (cVar 1) (cCall lenF (cCons (cVar 0) cNil)))) (dRet (cOp ixD (cVar 0) (cVar 1))) dNext) (dRet (cC (.int 0))))
theorem len_law_cell : ∀ ds Q, f_law_cell ds Q → ds.length = 2 := lenF2
theorem ob_law_cell : ∀ ds (Q : D → Prop), f_law_cell ds Q → t_law_cell { nx := fun _ => Q .non, rt := Q } (start3 ["_law_script", "_law_k"] ds) := by
  rintro ds Q ⟨x, y, rfl, ns, k, rfl, rfl, hk, h⟩
  simp_all_arith only [t_law_cell, List.length_map]
  unfold cellZ at h
  by_cases hl : k < ns.length
  · rw [if_pos hl] at h ⊢
    have hn : k.toNat < ns.length := by omega
    refine ⟨.int (ns.getD k.toNat 0), ?_, h⟩
    rw [atI_nat hk (by simpa using hl)]
    simp [hn]
  · rw [if_neg hl] at h ⊢; exact h
def pDigs (x y z : D) (Q : D → Prop) : Prop := ∃ (c b : Int) (m : Nat), x = .int c ∧ y = .int b ∧ z = .int m ∧ 0 < b ∧ Bits 9000 b ∧ m ≤ 100000 ∧ ∀ d, Digs m b d → Q d
def f_law_digits : Fw := F3 pDigs
def t_law_digits : TS3 := (dSeq (dSetOwn 3 (cFew cNil)) (dSeq (dForR rng1 (cCons (cVar 2) cNil) (kName 4) (dSeq (dAppend 3 (cOp modD (cVar 0) (cVar 1))) (dSet 0 (cOp fdivD (cVar 0) (cVar 1))))) (dFreeze 3 (dRet (cVar 3)))))
theorem len_law_digits : ∀ ds Q, f_law_digits ds Q → ds.length = 3 := lenF3
theorem ob_law_digits : ∀ ds (Q : D → Prop), f_law_digits ds Q → t_law_digits { nx := fun _ => Q .non, rt := Q } (start3 ["_law_cell_here", "_law_base", "_law_many", "_law_row_here", "_law_k"] ds) := by
  rintro ds Q ⟨x, y, z, rfl, c, b, m, rfl, rfl, rfl, hb, hbb, hm, h⟩
  simp_all_arith only [t_law_digits]
  refine ⟨by omega, by omega, ?_⟩
  refine turns_of (fun i e => ∃ (c' : Int) (xs : List Int) (k : Option Lo), e = [some (.d (.int c')), some (.d (.int b)), some (.d (.int m)), some (.own (xs.map D.int)), k] ∧ xs.length = i ∧ ∀ x ∈ xs, 0 ≤ x ∧ x < b) ?_ ?_ ⟨c, [], none, rfl, rfl, by simp⟩
  · rintro i x env N hx ⟨c', xs, k, rfl, hl, hxs⟩ hN
    have hi : i < m := by have := (List.getElem?_eq_some_iff.mp hx).1; simpa [intsD] using this
    simp_all_arith only [List.length_map]
    refine ⟨by omega, ?_, div_ok hbb (by omega) (by omega), ?_⟩
    · show b ≠ 0; omega
    · refine hN _ ⟨c'.fdiv b, xs ++ [c'.fmod b], some (.d x), by simp, by simp [hl], ?_⟩
      intro y hy
      rcases List.mem_append.mp hy with hy | hy
      · exact hxs y hy
      · rw [List.mem_singleton.mp hy]; exact fmod_range hb
  · rintro env ⟨c', xs, k, rfl, hl, hxs⟩
    simp_all_arith only [and_true]
    exact h _ ⟨xs, rfl, by simpa [intsD] using hl, hxs⟩
def f_law_mixed : Fw := F3 pDigs
def t_law_mixed : TS3 := (dSeq (dSetOwn 3 (cFew cNil)) (dSeq (dForR rng1 (cCons (cVar 2) cNil) (kName 4) (dSeq (dSet 5 (cOp modD (cOp mulD (cOp addD (cOp addD (cOp addD (cOp modD (cVar 0) (cC (.int 998244353))) (cOp mulD (cOp mulD (cC (.int 31)) (cVar 4)) (cVar 4))) (cOp mulD (cC (.int 1013)) (cVar 4))) (cC (.int 1))) (cC (.int 48271))) (cC (.int 2147483647)))) (dSeq (dSet 6 (cOp modD (cOp mulD (cOp addD (cOp addD (cOp fdivD (cVar 5) (cC (.int 7))) (cOp mulD (cOp modD (cOp fdivD (cVar 0) (cC (.int 1009))) (cC (.int 10007))) (cC (.int 17)))) (cVar 4)) (cC (.int 69621))) (cC (.int 2147483629)))) (dAppend 3 (cOp modD (cOp fdivD (cVar 6) (cC (.int 11))) (cVar 1)))))) (dFreeze 3 (dRet (cVar 3)))))
theorem len_law_mixed : ∀ ds Q, f_law_mixed ds Q → ds.length = 3 := lenF3
theorem ob_law_mixed : ∀ ds (Q : D → Prop), f_law_mixed ds Q → t_law_mixed { nx := fun _ => Q .non, rt := Q } (start3 ["_law_cell_here", "_law_base", "_law_many", "_law_row_here", "_law_k", "_law_one", "_law_two"] ds) := by
  rintro ds Q ⟨x, y, z, rfl, c, b, m, rfl, rfl, rfl, hb, hbb, hm, h⟩
  simp_all_arith only [t_law_mixed]
  refine ⟨by omega, by omega, ?_⟩
  refine turns_of (fun i e => ∃ (xs : List Int) (k1 k2 k3 : Option Lo), e = [some (.d (.int c)), some (.d (.int b)), some (.d (.int m)), some (.own (xs.map D.int)), k1, k2, k3] ∧ xs.length = i ∧ ∀ x ∈ xs, 0 ≤ x ∧ x < b) ?_ ?_ ⟨[], none, none, none, rfl, rfl, by simp⟩
  · rintro i x env N hx ⟨xs, k1, k2, k3, rfl, hl, hxs⟩ hN
    have hi : i < m := by have := (List.getElem?_eq_some_iff.mp hx).1; simpa [intsD] using this
    have hxe : x = .int (i : Int) := by
      have : (intsD 0 m)[i]? = some (.int (0 + (i : Int))) := by simp [intsD, hi]
      rw [show ((m : Int).toNat) = m by omega] at hx
      rw [this] at hx; cases hx; simp
    subst hxe
    have r1 := fmod_range (a := c) (b := 998244353) (by decide)
    have r2 := fmod_range (a := c.fdiv 1009) (b := 10007) (by decide)
    simp_all_arith only [List.length_map, ModOk]
    and_intros
    all_goals first
      | decide
      | omega
      | exact mul_ok_l (by decide) (by decide)
      | exact mul_ok_r (by decide) (by decide)
      | exact mul_ok_r (by omega) (by omega)
      | skip
    refine hN _ ⟨xs ++ [_], _, _, _, by rw [List.map_append]; rfl, by simp [hl], ?_⟩
    intro y hy
    rcases List.mem_append.mp hy with hy | hy
    · exact hxs y hy
    · rw [List.mem_singleton.mp hy]; exact fmod_range hb
  · rintro env ⟨xs, k1, k2, k3, rfl, hl, hxs⟩
    simp_all_arith only [and_true]
    exact h _ ⟨xs, rfl, by simpa [intsD] using hl, hxs⟩
def f_law_row : Fw := F3 pDigs
def t_law_row : TS3 := (dSeq (dIf (cTest (cOp geD (cCall absF (cCons (cVar 0) cNil)) (cOp powD (cC (.int 10)) (cC (.int 18))))) (dRet (cCall f_law_digits (cCons (cVar 0) (cCons (cVar 1) (cCons (cVar 2) cNil))))) dNext) (dRet (cCall f_law_mixed (cCons (cVar 0) (cCons (cVar 1) (cCons (cVar 2) cNil))))))
theorem len_law_row : ∀ ds Q, f_law_row ds Q → ds.length = 3 := lenF3
theorem ob_law_row : ∀ ds (Q : D → Prop), f_law_row ds Q → t_law_row { nx := fun _ => Q .non, rt := Q } (start3 ["_law_cell_here", "_law_base", "_law_many"] ds) := by
  rintro ds Q ⟨x, y, z, rfl, c, b, m, rfl, rfl, rfl, hb, hbb, hm, h⟩
  simp_all_arith only [t_law_row, f_law_digits, f_law_mixed, F3_eq]
  refine ⟨by (first | exact divL _ (by decide) | exact powL _ _ (by decide) | exact modL _ (by first | decide | omega) | exact mul_ok_l (by decide) (by decide) | exact mul_ok_r (by decide) (by decide) | omega | decide), ?_⟩
  split <;> exact ⟨c, b, m, rfl, rfl, rfl, hb, hbb, hm, h⟩
def f_law_common : Fw := F2 pGcd
def t_law_common : TS3 := (dSeq (dSet 0 (cCall absF (cCons (cVar 0) cNil))) (dSeq (dSet 1 (cCall absF (cCons (cVar 1) cNil))) (dSeq (dWhile (cTest (cOp gtD (cVar 1) (cC (.int 0)))) (dPar 0 1 (cCons (cVar 1) (cCons (cOp modD (cVar 0) (cVar 1)) cNil)))) (dRet (cVar 0)))))
theorem len_law_common : ∀ ds Q, f_law_common ds Q → ds.length = 2 := lenF2
theorem ob_law_common : ∀ ds (Q : D → Prop), f_law_common ds Q → t_law_common { nx := fun _ => Q .non, rt := Q } (start3 ["_law_one", "_law_other"] ds) := by
  rintro ds Q ⟨x, y, rfl, p, q, rfl, rfl, h⟩
  simp_all_arith only [t_law_common, dWhile]
  refine ⟨fun e => ∃ a b : Int, e = [some (.d (.int a)), some (.d (.int b))] ∧ 0 ≤ a ∧ 0 ≤ b ∧ Int.gcd a b = Int.gcd p q,
    fun e => match e with | [_, some (.d (.int b))] => b.toNat | _ => 0, ⟨_, _, rfl, by omega, by omega, by simp [Int.gcd]⟩, ?_⟩
  rintro env ⟨a, b, rfl, ha, hb, hg⟩
  simp_all_arith only [and_true]
  by_cases hz : 0 < b
  · have f := fmod_range (a := a) (b := b) (by omega)
    simp only [hz, if_true, ModOk, ne_eq]
    refine ⟨by omega, ⟨_, _, rfl, rfl, hb, f.1, ?_⟩, by show (a.fmod b).toNat < b.toNat; omega⟩
    rw [← hg]; exact gcd_fmod a b ha (by omega)
  · have hz' : b = 0 := by omega
    subst hz'
    simp only [Int.lt_irrefl, if_false]
    have : ((Int.gcd p q : Nat) : Int) = a := by rw [← hg]; simp; omega
    rw [this] at h; exact h
def f_law_whole : Fw := F1 pWhole
def t_law_whole : TS3 := (dRet (cAndV (cIsi "int" (cVar 0)) (cNotV (cIsi "bool" (cVar 0)))))
theorem len_law_whole : ∀ ds Q, f_law_whole ds Q → ds.length = 1 := lenF1
theorem ob_law_whole : ∀ ds (Q : D → Prop), f_law_whole ds Q → t_law_whole { nx := fun _ => Q .non, rt := Q } (start3 ["_law_thing_here"] ds) := by
  exact ob_is_whole
end L2.L3
set_option Elab.async false
set_option linter.all false
set_option maxRecDepth 100000
set_option maxHeartbeats 4000000
namespace L2.L3
open PySem PySem.Spec PyProof.Rows
section
variable {X : Cx} {b f : Expr} {tb tf : TD} {x : Str} {tab : List (Int × Str)} {a : Addr} {es : Array DictEntry} {n : Nat} {p apos cpos : Pos}
end
end L2.L3
set_option Elab.async false
set_option linter.all false
set_option maxRecDepth 100000
set_option maxHeartbeats 4000000
namespace L2
open PySem PySem.Spec PyProof.Rows
section
variable {prog : Program} {w : World} {A : Around} {E : Value → Shared → Prop} {s : Shared}
end
end L2
set_option Elab.async false
set_option linter.all false
set_option maxRecDepth 100000
set_option maxHeartbeats 4000000
namespace L2.L3
open PySem PySem.Spec PyProof.Rows
section
variable {prog : Program} {w : World} {A : Around} {E : Value → Shared → Prop} {s : Shared}
open AutoSeq1 (wpAny_loadPart') in
end
section
variable {X : Cx}
end
end L2.L3
set_option Elab.async false
set_option linter.all false
set_option maxRecDepth 100000
set_option maxHeartbeats 4000000
namespace L2.L3
open PySem PySem.Spec PyProof.Rows
structure StepsN (K : PySem.W.Frag) (J : It) (F1 : Hp) (xs : List D) : Prop where
  go : ∀ (i : Nat) (G H' : Hp), Same F1 G → Same G H' → i < xs.length → J.go i H'
  yld : ∀ (i : Nat) (G H' : Hp) (y : V) (H'' : Hp) (x : D) (B : Base) (σ : St) (env : En), Same F1 G → Rep K B G H' σ env → xs[i]? = some x → J.yld i H' y H'' → ∃ G', Rep K B G' H'' σ env ∧ Same G G' ∧ Den K G' x y
  stop : ∀ (G H' : Hp), Same F1 G → Same G H' → J.stop xs.length H'
theorem Steps.new {K : PySem.W.Frag} {J : It} {F1 : Hp} {xs : List D} (S : Steps K J F1 xs) : StepsN K J F1 xs :=
  ⟨S.go, fun i G H' y H'' x B σ env s1 r hx hy => by
    obtain ⟨e, d⟩ := S.yld i G H' y H'' x s1 r.fh hx hy
    subst e
    exact ⟨G, r, Same.refl _, d⟩, S.stop⟩
def enumD (xs : List D) : List D := xs.mapIdx fun i x => .tup [.int (i : Int), x]
def comps2 (tt : TB) (te : TD) (env0 : En) (Q : List D → Prop) : List D → List D → Prop
  | [], acc => Q acc
  | x :: xs, acc => ∃ a b, x = .tup [a, b] ∧ tt ((env0.set 0 (some (.d a))).set 1 (some (.d b))) fun ok => if ok = true then te ((env0.set 0 (some (.d a))).set 1 (some (.d b))) fun y => acc.length < sizeLine ∧ comps2 tt te env0 Q xs (acc ++ [y]) else comps2 tt te env0 Q xs acc
section
variable {X : Cx} {N' : List Str} {ix : List Nat} {scope : Scope} {elt iter a b : Expr} {ifs : List Expr} {x y : Str} {px py tp pos : Pos} {c : Nat} {tt : TB} {te ti : TD} {ts : TDs}
def cComp2 (ix : List Nat) (ti : TD) (tt : TB) (te : TD) : TDs := fun env Q => ti env fun d => ∃ xs, itemsD d = some xs ∧ comps2 tt te (capE 2 ix env) Q xs []
def enD (d : D) : Option (List D) := match d with | .lst xs => some xs | .tup xs => some xs | _ => none
def dForE (ts : TDs) (g : TG3) (tb : TS3) : TS3 := fun D env => ts env fun ds => ∃ d xs, ds = [d] ∧ enD d = some xs ∧ turns g tb D (enumD xs) env
end
end L2.L3
set_option Elab.async false
set_option linter.all false
set_option maxRecDepth 100000
set_option maxHeartbeats 4000000
namespace L2.L3
open PySem PySem.Spec PyProof.Rows
mutual
theorem eqD_sub : ∀ (a b c : D), eqD a b = true → eqD a c = eqD b c := by
  intro a b c h
  cases a <;> cases b <;> first | (simp only [eqD, Bool.false_eq_true] at h; done) | skip
  all_goals cases c <;> first | rfl | (simp only [eqD, beq_iff_eq] at h ⊢; subst h; rfl) | skip
  all_goals first
    | (simp only [eqD] at h ⊢; exact eqDs_sub _ _ _ h)
    | (simp only [eqD, beq_iff_eq] at h ⊢; rw [Bool.eq_iff_iff]; simp only [beq_iff_eq]; split at h <;> split <;> simp_all <;> omega)
    | (simp only [eqD, beq_iff_eq] at h ⊢; rw [Bool.eq_iff_iff]; simp only [beq_iff_eq]; split at h <;> simp_all)
    | (simp only [eqD, beq_iff_eq] at h ⊢; subst h; rw [Bool.eq_iff_iff]; simp only [beq_iff_eq]; split <;> simp_all)
    | (simp only [eqD, beq_iff_eq] at h ⊢; subst h; split <;> simp_all)
theorem eqDs_sub : ∀ (a b c : List D), eqDs a b = true → eqDs a c = eqDs b c := by
  intro a b c h
  cases a with
  | nil => cases b with
    | nil => rfl
    | cons y r => simp only [eqDs, Bool.false_eq_true] at h
  | cons x r => cases b with
    | nil => simp only [eqDs, Bool.false_eq_true] at h
    | cons y t =>
      simp only [eqDs, Bool.and_eq_true] at h
      cases c with
      | nil => rfl
      | cons z u => simp only [eqDs]; rw [eqD_sub x y z h.1, eqDs_sub r t u h.2]
end
section
variable {X : Cx} {pins : List (Addr × Obj)} {σ : St} {H F : Hp} {s : Shared}
open Classical in
noncomputable def eAtU (us : List Value) (ds : List D) (d : D) (u : Value) : Bool := decide (∃ (i : Nat) (x : D), us[i]? = some u ∧ ds[i]? = some x ∧ eqD x d = true)
open Classical in
theorem eAtU_of (I : Inv X pins σ H s) (fh : Same F H) {ds : List D} {vs : List V} {us : List Value} {d : D} (hd : depL ds < 1000) (dl : DenL X.K F ds vs) (rv : Vals vs us) {j : Nat} {x : D} {u : Value} (hx : ds[j]? = some x) (hu : us[j]? = some u) : eAtU us ds d u = eqD x d := by
  unfold eAtU
  have dle : ∀ (k : Nat) (y : D), ds[k]? = some y → dep y < 1000 := fun k y hy => by
    clear dl rv hx hu
    induction ds generalizing k with
    | nil => simp at hy
    | cons z r ih =>
      simp only [depL] at hd
      cases k with
      | zero => simp at hy; subst hy; omega
      | succ k => exact ih (by omega) k (by simpa using hy)
  cases hb : eqD x d with
  | true => exact decide_eq_true ⟨j, x, hu, hx, hb⟩
  | false =>
    refine decide_eq_false fun ⟨i, y, h1, h2, h3⟩ => ?_
    obtain ⟨v1, e1, d1⟩ := dl.get hx
    obtain ⟨v2, e2, d2⟩ := dl.get h2
    obtain ⟨w1, g1, r1⟩ := rv.get e1
    obtain ⟨w2, g2, r2⟩ := rv.get e2
    rw [hu] at g1; cases g1
    rw [h1] at g2; cases g2
    have := r1.inj r2
    subst this
    have k := den_inj I fh y x _ (dle _ _ h2) (dle _ _ hx) d2 d1
    rw [eqD_sub y x d k, hb] at h3
    cases h3
theorem eAtU_any (I : Inv X pins σ H s) (fh : Same F H) {ds : List D} {vs : List V} {us : List Value} {d : D} (hd : depL ds < 1000) (dl : DenL X.K F ds vs) (rv : Vals vs us) : us.map (eAtU us ds d) = ds.map fun x => eqD x d := by
  have l1 := dl.length
  have l2 := rv.length
  apply List.ext_getElem?
  intro i
  rw [List.getElem?_map, List.getElem?_map]
  by_cases hi : i < ds.length
  · have h1 : ds[i]? = some ds[i] := by simp [hi]
    have h2 : us[i]? = some (us[i]'(by omega)) := List.getElem?_eq_getElem _
    rw [h1, h2]
    simp only [Option.map_some]
    rw [eAtU_of I fh hd dl rv h1 h2]
  · rw [List.getElem?_eq_none (by omega), List.getElem?_eq_none (by omega)]; rfl
end
section
variable {X : Cx} {a b : Expr} {ta tb : TD} {pos : Pos}
def rInD (X : Cx) (neg : Bool) : R2 := fun x y H Q => ∃ (F : Hp) (d : D) (ds : List D) (vs : List V) (p : Addr), Same F H ∧ Den X.K F d x ∧ y = .ref p ∧ (SqL X.K F p vs ∨ SqT X.K F p vs) ∧ DenL X.K F ds vs ∧ X.A.units + 64 < cLine ∧ depL ds ≤ 60 ∧ dep d ≤ 60 ∧ Q (.bl (if neg then !ds.any (fun e => eqD e d) else ds.any fun e => eqD e d)) H
theorem any_map' {α : Type} (f : α → Bool) (l : List α) : l.any f = (l.map f).any id := by rw [List.any_map]; rfl
theorem in_items {X : Cx} {pins : List (Addr × Obj)} {σ : St} {H F : Hp} {s : Shared} (I : Inv X pins σ H s) (fh : Same F H) {ds : List D} {vs : List V} {us : List Value} {d : D} {x : V} {v : Value} (hu : X.A.units + 64 < cLine) (hds : depL ds ≤ 60) (hd : dep d ≤ 60) (dl : DenL X.K F ds vs) (rv : Vals vs us) (dx : Den X.K F d x) (rx : RelV x v) :
    ∀ u ∈ us, SeqAt.EqAt X.A.in1 s u v (eAtU us ds d u) := by
  intro u hu'
  obtain ⟨j, hj, e⟩ := List.getElem_of_mem hu'
  have h2 : us[j]? = some u := by rw [← e]; simp [hj]
  have l1 := dl.length
  have l2 := rv.length
  have h1 : ds[j]? = some (ds[j]'(by omega)) := List.getElem?_eq_getElem _
  rw [eAtU_of I fh (by omega) dl rv h1 h2]
  obtain ⟨w, g1, g2⟩ := dl.get h1
  obtain ⟨u', g3, g4⟩ := rv.get g1
  rw [h2] at g3; cases g3
  have dle : dep (ds[j]'(by omega)) ≤ 60 := by
    have go : ∀ (l : List D) (n : Nat), depL l ≤ n → ∀ y ∈ l, dep y ≤ n := by
      intro l
      induction l with
      | nil => intro n _ y hy; cases hy
      | cons z r ih =>
        intro n hn y hy
        simp only [depL] at hn
        rcases List.mem_cons.mp hy with rfl | hy
        · omega
        · exact ih n (by omega) y hy
    exact go ds 60 hds _ (List.getElem_mem _)
  exact eqAt_one I fh _ d X.A.in1 _ x u v (by rw [units_in1]; omega) (by omega) (by omega) g2 dx g4 rx
theorem op_ninD : OpR X (compareOp .NotIn) (rInD X true) := by
  intro pins s σ H x y v u Q I rx ry h
  obtain ⟨F, d, ds, vs, p, fh, dx, rfl, hq, dl, hu, h1, h2, q⟩ := h
  cases ry
  rcases hq with hq | hq
  · obtain ⟨its, r, pl, hz⟩ := I.list (fh.seq hq)
    refine SeqAt.notIn_listAt (eAtU its ds d) pl.isList (fun w hw => in_items I fh hu h1 h2 dl r dx rx w (by simpa using hw)) ⟨.bl _, H, I, rfl, ?_⟩
    rw [show its.toArray.any (eAtU its ds d) = its.any (eAtU its ds d) by simp, any_map', eAtU_any I fh (by omega) dl r, ← any_map']
    exact q
  · obtain ⟨its, r, pl, hz⟩ := I.tuple (Same.seqT fh hq)
    refine SeqAt.notIn_tupleAt (eAtU its ds d) pl (fun w hw => in_items I fh hu h1 h2 dl r dx rx w (by simpa using hw)) ⟨.bl _, H, I, rfl, ?_⟩
    rw [show its.toArray.any (eAtU its ds d) = its.any (eAtU its ds d) by simp, any_map', eAtU_any I fh (by omega) dl r, ← any_map']
    exact q
def inLD (neg : Bool) (x y : D) (Q : D → Prop) : Prop := ∃ ds, enD y = some ds ∧ depL ds ≤ 60 ∧ dep x ≤ 60 ∧ Q (.bl (if neg then !ds.any (fun e => eqD e x) else ds.any fun e => eqD e x))
theorem o3_inD (hu : X.A.units + 64 < cLine) (neg : Bool) : Op3 X (rInD X neg) (inLD neg) := by
  intro B σ F H env Q d d' x y Z rp h1 h2 hz hf
  obtain ⟨ds, e, l1, l2, q⟩ := hf
  cases d' with
  | lst xs =>
    simp only [enD] at e; cases e
    simp only [Den] at h2
    obtain ⟨p, vs, rfl, hq, dl⟩ := h2
    exact ⟨F, d, _, vs, p, rp.fh, h1, rfl, .inl hq, dl, hu, l1, l2, hz _ H F _ rp (Same.refl _) den_bl q⟩
  | tup xs =>
    simp only [enD] at e; cases e
    simp only [Den] at h2
    obtain ⟨p, vs, rfl, hq, dl⟩ := h2
    exact ⟨F, d, _, vs, p, rp.fh, h1, rfl, .inr hq, dl, hu, l1, l2, hz _ H F _ rp (Same.refl _) den_bl q⟩
  | _ => simp only [enD] at e; cases e
theorem q_ninL (hu : X.A.units + 64 < cLine) (ha : QE X a ta) (hb : QE X b tb) (hm : behindInMarks .NotIn b = false := by rfl) : QE X (.Compare a [.NotIn] [b] pos) (cOp (inLD true) ta tb) := q_cmp op_ninD (o3_inD hu true) ha hb hm
theorem t_ninL (hu : X.A.units + 64 < cLine) (ha : QE X a ta) (hb : QE X b tb) (hm : behindInMarks .NotIn b = false := by rfl) : QT X (.Compare a [.NotIn] [b] pos) (cTest (cOp (inLD true) ta tb)) := qt_cmp op_ninD (o3_inD hu true) ha hb hm
end
end L2.L3
set_option Elab.async false
set_option linter.all false
set_option maxRecDepth 100000
set_option maxHeartbeats 4000000
namespace L2
open PySem PySem.Spec PyProof.Rows
section
variable {X : Cx}
theorem Vals.insertAt {xs : List V} {us : List Value} {x : V} {u : Value} (h : Vals xs us) (r : RelV x u) (k : Nat) : Vals (xs.take k ++ x :: xs.drop k) (us.take k ++ u :: us.drop k) := by
  induction h generalizing k with
  | nil => simp; exact .cons r .nil
  | @cons y w ys ws q t ih =>
    cases k with
    | zero => exact .cons r (.cons q t)
    | succ k => exact .cons q (ih k)
def rInsert : V → List V → Hp → VK → Prop := fun x vs H Q => ∃ l xs i y, x = .ref l ∧ vs = [.int i, y] ∧ H l = some (.lst xs) ∧ 0 ≤ i ∧ i ≤ xs.length ∧ xs.length < sizeLine ∧ Q .non (upd H l (.lst (xs.take i.toNat ++ y :: xs.drop i.toNat)))
theorem mt_insert : MtM X "list.insert" rInsert := by
  intro pins s σ H x vs v us Q I rx rv h
  obtain ⟨l, xs, i, y, rfl, rfl, hH, h0, h1, h2, q⟩ := h
  cases rx
  obtain ⟨u, w, rfl, ru, rw'⟩ := rv.two
  obtain ⟨t, rfl⟩ := ru
  obtain ⟨z, its, n, r, hl, e⟩ := I.lstM hH
  have hs : xs.length ≤ 2 ^ 62 := by rw [sizeLine_eq] at h2; omega
  have hfit : ¬ (!Builtin.List.listFitsIndex i) = true := by
    rw [fitsIndex_both (by omega) (by omega)]
    exact Bool.false_ne_true
  refine call_meets F.slot_list_insert ⟨_, e, rfl⟩ F.entry_list_insert (F.args_list_insert_3 _ _ _) (AutoSeq1.list_insert_list_int_val_1 l its.toArray n i t w hfit (by rw [List.size_toArray]; omega)) ⟨e, ?_⟩
  refine ⟨.non, _, I.lset (its' := its.take i.toNat ++ w :: its.drop i.toNat) hH e ?_ (r.insertAt rw' i.toNat) ?_, rfl, q⟩
  · apply Array.toList_inj.mp
    have c1 : ¬ i < 0 := by omega
    have c2 : min i.toNat its.toArray.size = i.toNat := by rw [List.size_toArray]; omega
    simp only [c1, if_false, c2]
    simp
    exact List.take_of_length_le (by simp)
  · simp; omega
end
end L2
namespace L2.L3
open PySem PySem.Spec PyProof.Rows
section
variable {X : Cx} {e f : Expr} {te tf : TD} {ts : TDs} {pos : Pos}
def dInsert (i : Nat) (te tf : TD) : TS3 := fun D env => ∃ xs, env[i]? = some (some (.own xs)) ∧ te env fun y => tf env fun x => ∃ k : Int, y = .int k ∧ 0 ≤ k ∧ k ≤ xs.length ∧ xs.length < sizeLine ∧ D.nx (env.set i (some (.own (xs.take k.toNat ++ x :: xs.drop k.toNat))))
theorem qs_insert {x : Str} {px apos cpos : Pos} (i : Nat) (he : QE X e te) (hf : QE X f tf) (hN : X.N[i]? = some x := by rfl) (hv : Vis X.env.scope x := by first | exact Or.inl rfl | exact Or.inr (Or.inl rfl) | exact Or.inr (Or.inr rfl)) (hd : (x == ("__debug__" : Str)) = false := by decide) (hcd : (x == ("__classdict__" : Str)) = false := by decide)
    (hbase : attributeBase (.Name x px) "insert" X.env (eval (.Name x px) X.env) = eval (.Name x px) X.env := by rfl)
    (hfew : ((backTo cpos (starEach [e, f] X.env)).all (fun x => !x.1) && (backToKw cpos (keywordEach [] X.env)).all (fun x => x.1.isSome)
      && decide (([e, f] : List Expr).length + ([] : List Keyword).length + (if ([] : List Keyword).isEmpty then 0 else 1) < 30)) = true := by rfl)
    (hline : (apos.endLine == cpos.line) = true := by rfl) (hst : starEach [e, f] X.env = (false, eval e X.env) :: starEach [f] X.env := by exact star_of rfl) (hst2 : starEach [f] X.env = (false, eval f X.env) :: starEach [] X.env := by exact star_of rfl) (hplain : (backTo cpos (starEach ([f] : List Expr) X.env)).any (·.1) = false := by rfl)
    (hs : swapsWith (.Call (.Attribute (.Name x px) "insert" apos) [e, f] [] cpos) none pos.line X.env = pure false := by rfl) :
    QS X (.Expr (.Call (.Attribute (.Name x px) "insert" apos) [e, f] [] cpos) pos) (dInsert i te tf) := by
  refine ⟨?_⟩
  intro B σ F H env D rp h
  refine wS_of (ps_expr (pe_bm PySem.F.plainAttrs_list PySem.F.slot_list_insert PySem.F.type_list_insert mt_insert (pe_var hN hv hd hcd) (pa_cons pe_w (pa_cons pe_w pa_nil hst2) hst) hbase hfew hline hst hplain) hs) ?_
  obtain ⟨xs, hx, h⟩ := h
  obtain ⟨p, vs, h1, h2, h3, h4, h5⟩ := rp.ov i xs hx
  refine ⟨.ref p, h1, .inl ⟨rfl, vs, SqL.of h2⟩, ?_⟩
  refine wE_mono (he B σ F H env _ rp h) fun y H1 ⟨F1, d, r1, s1, d1, q1⟩ => ?_
  refine wE_mono (hf B σ F1 H1 env _ r1 q1) fun z H2 ⟨F2, d', r2, s2, d2, k, e1, k0, k1, k2, q2⟩ => ?_
  subst e1
  simp only [Den] at d1
  subst d1
  obtain ⟨p', vs', g1, g2, g3, g4, g5⟩ := r2.ov i xs hx
  rw [h1] at g1; cases g1
  have hl := g5.length
  exact ⟨p, vs', k, z, rfl, rfl, g2, k0, by omega, by omega, F2, _, r2.change hx h1 ((g5.take _).append (denL_cons d2 (g5.drop _))), q2⟩
def cOwnNe (i : Nat) : TB := fun env Q => ∃ xs, env[i]? = some (some (.own xs)) ∧ depL xs ≤ 50 ∧ Q (!xs.isEmpty)
theorem t_ownNe {x : Str} {px pl : Pos} (i : Nat) (hu : X.A.units + 64 < cLine) (hN : X.N[i]? = some x := by rfl) (hv : Vis X.env.scope x := by first | exact Or.inl rfl | exact Or.inr (Or.inl rfl) | exact Or.inr (Or.inr rfl)) (hd : (x == ("__debug__" : Str)) = false := by decide)
    (hcd : (x == ("__classdict__" : Str)) = false := by decide) : QT X (.Compare (.Name x px) [.NotEq] [.List [] pl] pos) (cOwnNe i) := by
  refine ⟨fun B σ F H env Q rp h => wT_of (pt_cmpR op_neD (pe_var hN hv hd hcd) (pe_lst pa_nil) (nomark _)) ?_⟩
  obtain ⟨xs, hx, hdep, q⟩ := h
  obtain ⟨p, vs, h1, h2, h3, h4, h5⟩ := rp.ov i xs hx
  refine ⟨.ref p, h1, by simp [PySem.sizeLine_eq], fun w hw => ?_⟩
  have ne : p ≠ w := fun z => by subst z; rw [h2] at hw; cases hw
  have s1 : Same F (upd F p (.lst vs)) := same_upd h3
  refine ⟨upd (upd F p (.lst vs)) w (.lst []), .lst xs, .lst [], ?_, ?_, ?_, by simp only [dep]; omega, by simp only [dep]; omega, by decide, !xs.isEmpty, ?_, F, rp.loose hw, Same.refl _, q⟩
  · refine same_upd2 fun b o hb => ?_
    by_cases z : b = p
    · subst z; rw [upd_same] at hb; cases hb; exact h2
    · rw [upd_ne z] at hb; exact rp.fh _ _ hb
  · have s2 : Same (upd F p (.lst vs)) (upd (upd F p (.lst vs)) w (.lst [])) := same_upd (by rw [upd_ne (Ne.symm ne)]; exact rp.fnone hw)
    exact den_lst (SqL.of (by rw [upd_ne ne]; exact upd_same)) (DenL.mono (s1.trans s2) _ _ h5)
  · exact den_lst (SqL.of upd_same) denL_nil
  · cases xs <;> rfl
def dSetPop (j i : Nat) (te : TD) : TS3 := fun Z env => ∃ xs, env[i]? = some (some (.own xs)) ∧ te env fun y => ∃ (k : Nat) (x : D), y = .int k ∧ xs[k]? = some x ∧ k < 2 ^ 62 ∧ Z.nx ((env.set i (some (.own (xs.eraseIdx k)))).set j (some (.d x)))
theorem DenL.eraseIdx {K : PySem.W.Frag} {F : Hp} : ∀ {ds : List D} {vs : List V} (k : Nat), DenL K F ds vs → DenL K F (ds.eraseIdx k) (vs.eraseIdx k)
  | [], vs, k, h => by simp only [DenL] at h; subst h; simpa using denL_nil
  | d :: ds, vs, 0, h => by
    simp only [DenL] at h
    obtain ⟨v, r, rfl, a, b⟩ := h
    exact b
  | d :: ds, vs, k + 1, h => by
    simp only [DenL] at h
    obtain ⟨v, r, rfl, a, b⟩ := h
    exact denL_cons a (DenL.eraseIdx k b)
theorem qs_setPop {x y : Str} {px py apos cpos : Pos} (j i : Nat) (nd : X.N.Nodup) (he : QE X e te) (hN : X.N[i]? = some x := by rfl) (hv : Vis X.env.scope x := by first | exact Or.inl rfl | exact Or.inr (Or.inl rfl) | exact Or.inr (Or.inr rfl)) (hd : (x == ("__debug__" : Str)) = false := by decide) (hcd : (x == ("__classdict__" : Str)) = false := by decide)
    (hj : X.N[j]? = some y := by rfl) (hy : Loc X.env.scope y := by first | exact Or.inl rfl | exact Or.inr rfl)
    (hbase : attributeBase (.Name x px) "pop" X.env (eval (.Name x px) X.env) = eval (.Name x px) X.env := by rfl)
    (hfew : ((backTo cpos (starEach [e] X.env)).all (fun x => !x.1) && (backToKw cpos (keywordEach [] X.env)).all (fun x => x.1.isSome)
      && decide (([e] : List Expr).length + ([] : List Keyword).length + (if ([] : List Keyword).isEmpty then 0 else 1) < 30)) = true := by rfl)
    (hline : (apos.endLine == cpos.line) = true := by rfl) (hst : starEach [e] X.env = (false, eval e X.env) :: starEach [] X.env := by exact star_of rfl) (hplain : (backTo cpos (starEach ([] : List Expr) X.env)).any (·.1) = false := by rfl)
    (hs : swapsWith (.Call (.Attribute (.Name x px) "pop" apos) [e] [] cpos) (some (.Name y py)) pos.line X.env = pure false := by rfl) (hf : X.fn y = true ∨ X.env.scope.names.lookup y = some .local := by first | exact .inl rfl | exact .inr rfl) :
    QS X (.Assign [.Name y py] (.Call (.Attribute (.Name x px) "pop" apos) [e] [] cpos) pos) (dSetPop j i te) := by
  refine ⟨fun B σ F H env D rp h pins s I => ?_⟩
  refine ps_set (i := j) nd hj hy (pe_bm PySem.F.plainAttrs_list PySem.F.slot_list_pop PySem.F.type_list_pop mt_popAt (pe_var hN hv hd hcd) (pa_cons pe_w pa_nil hst) hbase hfew hline hst hplain) hs hf pins s σ H _ I ?_
  obtain ⟨xs, hx, h⟩ := h
  obtain ⟨p, vs, h1, h2, h3, h4, h5⟩ := rp.ov i xs hx
  refine ⟨.ref p, h1, .inl ⟨rfl, vs, SqL.of h2⟩, ?_⟩
  refine wE_mono (he B σ F H env _ rp h) fun w H1 ⟨F1, d, r1, s1, d1, k, x', e1, hk, hk2, q1⟩ => ?_
  subst e1
  simp only [Den] at d1
  subst d1
  obtain ⟨p', vs', g1, g2, g3, g4, g5⟩ := r1.ov i xs hx
  rw [h1] at g1; cases g1
  obtain ⟨u, hu, du⟩ := g5.get hk
  have hl := g5.length
  have hkl := (List.getElem?_eq_some_iff.mp hk).1
  have hix : seqIndex? (k : Int) vs'.length = some k := (ixN_seq (n := vs'.length) (i := (k : Int)) (j := k) (by unfold ixN; rw [if_pos (by omega), if_pos (by omega)]; simp)).1
  refine ⟨p, vs', k, k, u, rfl, rfl, g2, by omega, by omega, hix, hu, F1, _, (r1.change hx h1 (g5.eraseIdx k)).set du ?_, q1⟩
  rw [I.len]; exact (List.getElem?_eq_some_iff.mp hj).1
theorem pe_range1 {a : Expr} {ta : TA} {p : Pos} (hg : Gl X "range") (hm : X.mg "range" = none) (ha : PA X [a] ta) (hs : starEach [a] X.env = [(false, eval a X.env)] := by rfl) :
    PE X (.Call (.Name "range" p) [a] [] pos) (fun σ H Q => ta σ H fun vs H1 => ∃ n : Int, vs = [.int n] ∧ ∀ r, H1 r = none → Q (.ref r) (upd H1 r (.rng 0 n))) := by
  intro pins s σ H Q I h
  refine Call_ (ld_blt I hg hm boot_range (PyProof.Rows.callWith_type1 (thn (ha pos pins s σ H _ I h) fun us s1 ⟨vs, H1, I1, r1, q1⟩ => ?_) hs rfl))
  obtain ⟨n, rfl, q⟩ := q1
  obtain ⟨u, rfl, ru⟩ := r1.one
  obtain ⟨t, rfl⟩ := ru
  refine call_range_1 ⟨.ref s1.heap.objs.size, _, I1.laid (fun b o e => Heap.get?_push_of_some _ e) (Nat.le_refl _) (show ObjOk X.prog X.w _ _ _ (.rng 0 n) from ⟨_, _, _, Heap.get?_push_size _ rfl⟩), rfl, q _ (I1.hok.fresh (Nat.le_refl _))⟩
theorem vals_ints {n : Nat} {acc : Array Value} (h : ItemsOf (fun i v => ∃ t, v = .int ((0 : Int) + i * 1) t) acc n) : Vals ((List.range n).map fun (i : Nat) => V.int (i : Int)) acc.toList := by
  have hl : acc.toList.length = n := by simpa using h.1
  have go : ∀ (l : List Value) (k : Nat), (∀ (j : Nat) (v : Value), l[j]? = some v → ∃ t, v = .int ((k + j : Nat) : Int) t) → Vals ((List.range' k l.length).map fun (i : Nat) => V.int (i : Int)) l := by
    intro l
    induction l with
    | nil => intro k _; exact .nil
    | cons v r ih =>
      intro k hk
      obtain ⟨t, e⟩ := hk 0 v rfl
      refine .cons ⟨t, by simpa using e⟩ (ih (k + 1) fun j w hw => ?_)
      obtain ⟨t', e'⟩ := hk (j + 1) w (by simpa using hw)
      exact ⟨t', by rw [e']; congr 1; omega⟩
  have := go acc.toList 0 fun j v hv => by
    obtain ⟨t, e⟩ := h.2 j v (by simpa using hv)
    exact ⟨t, by rw [e]; congr 1; omega⟩
  rw [hl, ← List.range_eq_range'] at this
  exact this
theorem call_listR (hc : X.calm = true) : CallR X (.type "list") (fun xs H Q => ∃ r n, xs = [.ref r] ∧ H r = some (.rng 0 n) ∧ (-(2 ^ 62) ≤ n ∧ n ≤ 16777216) ∧ ∀ l, H l = none → Q (.ref l) (upd H l (.lst ((List.range n.toNat).map fun (i : Nat) => V.int (i : Int))))) := by
  intro pins s σ H xs us Q I r h
  obtain ⟨a, n, rfl, hr, ⟨n1, n2⟩, q⟩ := h
  obtain ⟨u, rfl, rx⟩ := vals1 r
  cases rx
  obtain ⟨t, u, v, e⟩ := (show ObjOk X.prog X.w H s.heap a (.rng 0 n) from I.hok a _ hr)
  have hsz : Builtin.Range.rangeSize 0 n 1 = (n.toNat : Int) := by rw [rangeSize_one]; split <;> omega
  refine call_list_range (I.ok.hd hc) e (small_one (by decide) (by decide) n1 (by omega)) hsz (by omega) fun h' tk acc c kp e' it => ?_
  refine ⟨.ref s.heap.objs.size, _, I.laid (t' := tk) kp (Nat.le_refl _) (show ObjOk X.prog X.w _ h' _ (.lst ((List.range n.toNat).map fun (i : Nat) => V.int (i : Int))) from ⟨by simp [PySem.sizeLine_eq]; omega, acc.toList, c, vals_ints it, by simpa using e'⟩), rfl, q _ (I.hok.fresh (Nat.le_refl _))⟩
def cListR (ts : TDs) : TDs := fun env Q => ts env fun ds => ∃ n : Int, ds = [.int n] ∧ (-(2 ^ 62) ≤ n ∧ n ≤ 16777216) ∧ Q (intsD 0 n.toNat)
theorem denL_ints0 {K : PySem.W.Frag} {F : Hp} (n : Nat) : DenL K F (intsD 0 n) ((List.range n).map fun (i : Nat) => V.int (i : Int)) := by
  have e : intsD 0 n = ((List.range n).map fun (i : Nat) => (i : Int)).map D.int := by unfold intsD; rw [List.map_map]; congr 1; funext i; simp
  have e2 : ((List.range n).map fun (i : Nat) => V.int (i : Int)) = ((List.range n).map fun (i : Nat) => (i : Int)).map V.int := by rw [List.map_map]; rfl
  rw [e, e2]; exact denL_ints _
theorem qf_listR {a : Expr} {p p2 pos2 : Pos} (hm : X.mg "list" = none) (hm2 : X.mg "range" = none) (ha : QA X [a] ts) (hc : X.calm = true := by rfl) (hg : Gl X "list" := by rfl) (hg2 : Gl X "range" := by rfl) (hs : starEach [a] X.env = [(false, eval a X.env)] := by rfl)
    (he : starEach [.Call (.Name "range" p2) [a] [] pos2] X.env = (false, eval (.Call (.Name "range" p2) [a] [] pos2) X.env) :: starEach [] X.env := by exact star_of rfl) (hpl : (backTo pos (starEach ([] : List Expr) X.env)).any (·.1) = false := by rfl) :
    QF X (.Call (.Name "list" p) [.Call (.Name "range" p2) [a] [] pos2] [] pos) (cListR ts) := by
  refine ⟨fun B σ F H env Q rp h => wE_of (pe_callTy (call_listR hc) hg hm boot_list' (pa_cons (pe_range1 hg2 hm2 pa_w hs) pa_nil he) (by decide) (by decide) he hpl) ?_⟩
  refine wA_mono (ha B σ F H env _ rp h) fun vs H1 ⟨F1, ds, r1, s1, d1, n, e1, hn, q1⟩ => ?_
  subst e1
  simp only [DenL, Den] at d1
  obtain ⟨v, r, rfl, rfl, rfl⟩ := d1
  refine ⟨n, rfl, fun r hr => ?_⟩
  obtain ⟨r2, s2⟩ := r1.laid (o := .rng 0 n) hr
  exact ⟨r, n, rfl, upd_same, hn, fun w hw => ⟨_, _, w, _, _, rfl, hw, rfl, r2, s1.trans s2, denL_ints0 _, q1⟩⟩
end
section
variable {X : Cx} {N' : List Str} {ix : List Nat} {scope : Scope} {elt a : Expr} {ifs : List Expr} {x : Str} {px py pos spos p pos2 : Pos} {tt : TB} {te : TD} {ts : TDs}
theorem qs_setOwnCompR1 {y : Str} (i : Nat) (hNd : X.N.Nodup) (hc : X.calm = true) (O : CompOk X N' 1 ix scope) (hN : N'.Nodup) (h0 : N'[0]? = some x) (hx : (relabel scope X.env).names.lookup x = some .local) (hgl : Gl X "range") (hm : X.mg "range" = none) (ha : QA X [a] ts)
    (ht : ∀ C s H fp pins, QIfs (compCx X N' scope C s H fp pins) ifs tt) (he : ∀ C s H fp pins, QE (compCx X N' scope C s H fp pins) elt te) (hy : X.N[i]? = some y := by rfl) (hl : Loc X.env.scope y := by first | exact Or.inl rfl | exact Or.inr rfl)
    (hsw : swapsWith (.ListComp elt [⟨.Name x px, .Call (.Name "range" p) [a] [] pos2, ifs, 0⟩] scope pos) (some (.Name y py)) spos.line X.env = pure true := by rfl) (hf : X.fn y = true ∨ X.env.scope.names.lookup y = some .local := by first | exact .inl rfl | exact .inr rfl)
    (hst : starEach [a] X.env = [(false, eval a X.env)] := by rfl) (hs : ∀ x, foldedSetIterable (.Call (.Name "range" p) [a] [] pos2) X.env x = pure x := by intro _; rfl) :
    QS X (.Assign [.Name y py] (.ListComp elt [⟨.Name x px, .Call (.Name "range" p) [a] [] pos2, ifs, 0⟩] scope pos) spos) (dSetOwn i (cCompR rng1 ix ts tt te)) := by
  refine ⟨fun B σ F H env D rp h pins s I => ?_⟩
  refine ps_setComp hc (pi_range1 hgl hm pa_w hst) O hNd hy hl hsw hf hs pins s σ H _ I ?_
  refine wA_mono (ha B σ F H env _ rp h) fun vs H1 ⟨F1, ds, r1, s1, d1, q1⟩ => ?_
  dsimp only at q1; unfold rng1 at q1
  split at q1
  · simp only [DenL, Den] at d1
    obtain ⟨v, r, rfl, rfl, rfl⟩ := d1
    refine ⟨_, rfl, q1.1.1, q1.1.2, ?_⟩
    intro a' C s fp pins ha'
    obtain ⟨W, w0, step⟩ := comp_core (X := X) (px := px) hN h0 hx ht he s1 r1 steps_range q1.2 a' C s fp pins ha'
    refine ⟨W, w0, fun i' m σ' H' w => ?_⟩
    rcases step i' m σ' H' w with ⟨st, z⟩ | z
    · refine .inl ⟨st, ?_⟩
      obtain ⟨F', H2, p, vs, ds, e1, hp, e2, r', s', hd, q'⟩ := z
      cases e1
      subst e2
      refine ⟨F', _, r'.setOwn hp hd ?_, q'⟩
      rw [I.len]; exact (List.getElem?_eq_some_iff.mp hy).1
    · exact .inr z
  · exact q1.elim
end
end L2.L3
set_option Elab.async false
set_option linter.all false
set_option maxRecDepth 100000
set_option maxHeartbeats 4000000
namespace L2.L3
open PySem PySem.Spec PyProof.Rows
section
variable {X : Cx} {o e : Expr} {to te : TD} {apos cpos : Pos}
theorem in_itemsA {X : Cx} {pins : List (Addr × Obj)} {σ : St} {H F : Hp} {s : Shared} (I : Inv X pins σ H s) (fh : Same F H) {ds : List D} {vs : List V} {us : List Value} {d : D} {x : V} {v : Value} (A : Around) (hu : A.units + 62 < cLine) (hds : depL ds ≤ 60) (hd : dep d ≤ 60) (dl : DenL X.K F ds vs) (rv : Vals vs us) (dx : Den X.K F d x) (rx : RelV x v) :
    ∀ u ∈ us, SeqAt.EqAt A s u v (eAtU us ds d u) := by
  intro u hu'
  obtain ⟨j, hj, e⟩ := List.getElem_of_mem hu'
  have h2 : us[j]? = some u := by rw [← e]; simp [hj]
  have l1 := dl.length
  have l2 := rv.length
  have h1 : ds[j]? = some (ds[j]'(by omega)) := List.getElem?_eq_getElem _
  rw [eAtU_of I fh (by omega) dl rv h1 h2]
  obtain ⟨w, g1, g2⟩ := dl.get h1
  obtain ⟨u', g3, g4⟩ := rv.get g1
  rw [h2] at g3; cases g3
  have dle : dep (ds[j]'(by omega)) ≤ 60 := by
    have go : ∀ (l : List D) (n : Nat), depL l ≤ n → ∀ y ∈ l, dep y ≤ n := by
      intro l
      induction l with
      | nil => intro n _ y hy; cases hy
      | cons z r ih =>
        intro n hn y hy
        simp only [depL] at hn
        rcases List.mem_cons.mp hy with rfl | hy
        · omega
        · exact ih n (by omega) y hy
    exact go ds 60 hds _ (List.getElem_mem _)
  exact eqAt_one I fh _ d A _ x u v (by omega) (by omega) (by omega) g2 dx g4 rx
theorem countP_map' {α : Type} (f : α → Bool) (l : List α) : l.countP f = (l.map f).countP id := by rw [List.countP_map]; rfl
def cCount (to te : TD) : TD := fun env Q => to env fun x => ∃ ds, x = .tup ds ∧ depL ds ≤ 60 ∧ te env fun y => dep y ≤ 60 ∧ Q (.int (ds.countP fun d => eqD d y))
theorem q_countT (hu : X.A.units + 64 < cLine) (ho : QE X o to) (he : QE X e te) (m : M1 X o "count" apos e cpos := by exact ⟨rfl, rfl, rfl, rfl⟩) : QE X (.Call (.Attribute o "count" apos) [e] [] cpos) (cCount to te) := by
  refine ⟨fun B σ F H env Q rp h pins s I => ?_⟩
  refine wpAny_Call_method m.base m.few m.line PySem.F.plainAttrs_tuple PySem.F.slot_tuple_count PySem.F.type_tuple_count (thn (ho B σ F H env _ rp h pins s I) fun u s1 ⟨x, H1, I1, rx, F1, d, r1, z1, d1, ds, e1, hds, q1⟩ => ?_)
  subst e1
  simp only [Den] at d1
  obtain ⟨p, vs, rfl, hq, dl⟩ := d1
  cases rx
  obtain ⟨its0, _, o0, g0, c0, _, n0⟩ := I1.tupleN (Same.seqT r1.fh hq)
  refine ⟨⟨o0, g0, c0⟩, fun b eb => by cases eb; exact ⟨o0, g0, n0⟩, ?_⟩
  rw [m.trees]
  refine Calls.callWith_builtin rfl (Calls.evalArgs_plain (Calls.spliced_cons (thn (he B σ F1 H1 env _ r1 q1 pins s1 I1) fun iv s2 ⟨y, H2, I2, ry, F2, d', r2, z2, d2, hy, q2⟩ => Calls.spliced_nil ?_)))
  have hq2 := Same.seqT z2 hq
  have dl2 := DenL.mono z2 _ _ dl
  obtain ⟨its, rv, ⟨oc, od, odt, osl⟩, g, c, ⟨n, dd⟩, nd⟩ := I2.tupleN (Same.seqT r2.fh hq2)
  replace c : oc = .type "tuple" := c
  replace dd : odt = .seq its.toArray n := dd
  subst c dd
  refine call_meets PySem.F.slot_tuple_count ⟨_, g, rfl⟩ PySem.F.entry_tuple_count (PySem.F.args_tuple_count_2 _ _) (SeqAt.tuple_countAt p its.toArray n od osl iv (eAtU its ds d')) ⟨g, fun w hw => in_itemsA I2 r2.fh _ (by simp only [units_in1]; omega) hds hy dl2 rv d2 ry w (by simpa using hw), ?_⟩
  refine ⟨.int _, H2, I2.tok _, ⟨_, rfl⟩, F2, _, r2, z1.trans z2, ?_, q2⟩
  rw [show its.toArray.toList.countP (eAtU its ds d') = ds.countP fun d => eqD d d' by
    rw [show its.toArray.toList = its by simp, countP_map', eAtU_any I2 r2.fh (by omega) dl2 rv, ← countP_map']]
  exact den_int
end
end L2.L3
set_option Elab.async false
set_option linter.all false
set_option maxRecDepth 100000
set_option maxHeartbeats 4000000
namespace L2
open PySem PySem.Spec PyProof.Rows
section
variable {prog : Program} {w : World} {A : Around} {E : Value → Shared → Prop} {s : Shared}
end
section
variable {X : Cx} {a e : Expr} {pos p2 : Pos}
end
end L2
namespace L2.L3
open PySem PySem.Spec PyProof.Rows
section
variable {X : Cx} {a b e : Expr} {ta te : TD} {pos p2 : Pos}
theorem DenL.reverse {K : PySem.W.Frag} {F : Hp} : ∀ {ds : List D} {vs : List V}, DenL K F ds vs → DenL K F ds.reverse vs.reverse
  | [], vs, h => by simp only [DenL] at h; subst h; exact denL_nil
  | d :: ds, vs, h => by
    simp only [DenL] at h
    obtain ⟨v, r, rfl, x, y⟩ := h
    rw [List.reverse_cons, List.reverse_cons]
    exact (DenL.reverse y).append (denL_cons x denL_nil)
def cRevT (ta te : TD) : TD := fun env Q => ta env fun x => te env fun y => ∃ ds, x = .tup ds ∧ y = .int (-1) ∧ Q (.tup ds.reverse)
def dFdiv (i : Nat) (te : TD) : TS3 := fun Z env => ∃ x, env[i]? = some (some (.d x)) ∧ te env fun y => fdivD x y fun z => Z.nx (env.set i (some (.d z)))
abbrev TDe := En → (D → En → Prop) → Prop
abbrev TDse := En → (List D → En → Prop) → Prop
def RVe (X : Cx) (B : Base) (σ : St) (F : Hp) (Q : D → En → Prop) : VK := fun v H' => ∃ F' d env', Rep X.K B F' H' σ env' ∧ Same F F' ∧ Den X.K F' d v ∧ Q d env'
structure QEe (X : Cx) (e : Expr) (t : TDe) : Prop where
  of ::
  run : ∀ (B : Base) (σ : St) (F H : Hp) (env : En) (Q : D → En → Prop), Rep X.K B F H σ env → t env Q → wE X e σ H (RVe X B σ F Q)
def eOf (t : TD) : TDe := fun env Q => t env fun d => Q d env
theorem QEe.up {t : TD} (h : QE X e t) : QEe X e (eOf t) := ⟨fun B σ F H env Q rp q => wE_mono (h B σ F H env _ rp q) fun v H' ⟨F', d, r, s, dv, q'⟩ => ⟨F', d, env, r, s, dv, q'⟩⟩
def ePop (i : Nat) : TDe := fun env Q => ∃ xs x, env[i]? = some (some (.own (xs ++ [x]))) ∧ Q x (env.set i (some (.own xs)))
def eOp (f : D → D → (D → Prop) → Prop) (ta tb : TDe) : TDe := fun env Q => ta env fun x e1 => tb e1 fun y e2 => f x y fun z => Q z e2
def aNilE : TDse := fun env Q => Q [] env
def aConsE (ta : TDe) (tr : TDse) : TDse := fun env Q => ta env fun x e1 => tr e1 fun xs e2 => Q (x :: xs) e2
def eCall (f : Fw) (ts : TDse) : TDe := fun env Q => ts env fun ds e1 => f ds fun d => Q d e1
def dAsgE (te : TDe) (g : TG3) : TS3 := fun Z env => te env fun x e1 => g x e1 Z.nx
end
end L2.L3
local macro_rules | `(tactic| simp_arith only [$ls,*] $[$loc]?) => `(tactic| simp only [$ls,*, L2.L3.dSeq, L2.L3.dIf, L2.L3.dRet, L2.L3.dRetN, L2.L3.dNext, L2.L3.dBreak, L2.L3.dCont, L2.L3.dNever, L2.L3.dSet, L2.L3.dAsg, L2.L3.dPar_eq, L2.L3.two2_eq, L2.L3.dFor, L2.L3.dForR, L2.L3.dSetOwn, L2.L3.dAppend, L2.L3.dExtend, L2.L3.dFreeze, L2.L3.dPut, L2.L3.cVar, L2.L3.cC, L2.L3.cOp, L2.L3.cUn, L2.L3.cTest, L2.L3.cNot, L2.L3.cAnd, L2.L3.cOr, L2.L3.cAndV, L2.L3.cOrV, L2.L3.cNotV, L2.L3.cIf, L2.L3.cCall, L2.L3.cCons, L2.L3.cNil, L2.L3.cTup, L2.L3.cLst, L2.L3.cIsi, L2.L3.cFresh, L2.L3.cFew, L2.L3.cSl, L2.L3.cPart, L2.L3.cNoPart, L2.L3.cIxOwn, L2.L3.kName, L2.L3.kTup, L2.L3.kCons_eq, L2.L3.cons1_eq, L2.L3.cDisp, L2.L3.kNil, L2.L3.cTrue, L2.L3.start3, List.map_cons, List.map_nil, List.length_cons, List.length_nil, List.cons_append, List.nil_append, List.append_nil, List.getElem?_cons_zero, List.getElem?_cons_succ, List.getElem?_nil, List.set_cons_zero, List.set_cons_succ, Option.some.injEq, L2.L3.Lo.d.injEq, L2.L3.Lo.own.injEq, L2.L3.D.bl.injEq, L2.L3.D.int.injEq, exists_eq_left', exists_eq_left, Nat.reduceAdd, Nat.reduceSub, Nat.sub_self, Nat.add_one_sub_one, List.replicate_succ, List.replicate_zero, L2.L3.D.tup.injEq, List.cons.injEq, and_assoc, L2.L3.cComp, L2.L3.cCompR, L2.L3.ii_eq, L2.L3.addD_ii, L2.L3.addD_ll, L2.L3.addD_tt, L2.L3.addD_ss, L2.L3.negD_i, L2.L3.eqF_ii, L2.L3.neF_ii, L2.L3.eqF_ss, L2.L3.eqF_bb, L2.L3.absF_i, L2.L3.lenF_l, L2.L3.lenF_t, L2.L3.lenF_s, L2.L3.maxF_ii, L2.L3.minF_ii, L2.L3.intF_i, L2.L3.intF_b, L2.L3.listF_l, L2.L3.listF_t, L2.L3.tupleF_l, L2.L3.tupleF_t, L2.L3.itemsD_l, L2.L3.itemsD_t, L2.L3.slD_l, L2.L3.rng1_i, L2.L3.rng2_i, decide_eq_true_eq, true_and, and_true, if_true, if_false, Bool.false_eq_true, Bool.not_eq_true', decide_eq_false_iff_not, PySem.sizeLine_eq, Int.reduceToNat, Int.reducePow, Int.reduceMul, Int.reduceAdd, Int.reduceNeg, Int.reduceSub, Int.reduceLT, Int.reduceLE, Int.reduceEq, Nat.reduceEqDiff, decide_true, decide_false, Nat.reduceLeDiff, Nat.reduceLT, Bool.true_eq_false, Bool.not_true, Bool.not_false, Bool.not_not, L2.L3.dTry, L2.L3.cCallX, L2.L3.zRaise, L2.L3.zIf, L2.L3.zUp, L2.L3.zSeq, L2.L3.zRet, L2.L3.zSet, L2.L3.zExpr, L2.L3.isxF, L2.L3.isD_bb, L2.L3.isnD_bb, L2.L3.cListOf, L2.L3.listOfR_l, L2.L3.listOfR_t, L2.L3.kLst, L2.L3.D.lst.injEq, L2.L3.cChain, L2.L3.cLenOwn, L2.L3.cOwnT, L2.L3.dPop, L2.L3.cInG, L2.L3.cIxG, L2.L3.cListS, L2.L3.dInsert, L2.L3.dSetPop, L2.L3.cOwnNe, L2.L3.cListR, L2.L3.dForE, L2.L3.enD, L2.L3.cComp2, L2.L3.cCount, L2.L3.cRevT, L2.L3.dFdiv, L2.L3.eOf, L2.L3.ePop, L2.L3.eOp, L2.L3.eCall, L2.L3.aNilE, L2.L3.aConsE, L2.L3.dAsgE] $[$loc]?)
set_option Elab.async false
set_option linter.all false
set_option maxRecDepth 100000
set_option maxHeartbeats 4000000
namespace L2.L3
open PySem PySem.Spec PyProof.Rows
def XY (X : Cx) (B : Base) (xc : Str → Prop) : Value → Shared → Prop := fun e s' => wpAny (model X.prog X.w) X.A (noteFrame e X.env) (fun _ s2 => wpAny (model X.prog X.w) X.A (setFlight e none) (fun _ s3 => XZ X B xc e s3) (fun _ _ => False) s2) (fun _ _ => False) s'
theorem XY.mono {X : Cx} {B B' : Base} {xc xc' : Str → Prop} {e : Value} {s' : Shared} (h : XY X B xc e s') (k : ∀ e s, XZ X B xc e s → XZ X B' xc' e s) : XY X B' xc' e s' :=
  wpAny_mono h (fun _ _ q => wpAny_mono q (fun _ _ z => k _ _ z) fun _ _ z => z) fun _ _ z => z
section
variable {X : Cx} {c e : Expr} {es : List Expr} {st : Stmt} {sts xs ys body : List Stmt} {p q : TS4} {tc : TB} {pos : Pos}
end
section
variable {X : Cx} {a : Expr} {body : List Stmt} {p : TS4} {ts : TDs} {pos : Pos} {tg : Expr} {g : TG3}
theorem wG_nox {E : Value → Shared → Prop} {v : V} {σ : St} {H : Hp} {Q : St → Hp → Prop} (h : wG X.nox tg v σ H Q) : wG (X.wish E) tg v σ H Q := fun pins s u I r =>
  wpAny_mono (h pins s u (I.unwish.wish _) r) (fun _ _ ⟨σ', H', I', q⟩ => ⟨σ', H', I'.unwish.wish _, q⟩) fun _ _ z => False.elim z
end
section
variable {P : Program} {w : World} {K : PySem.W.Frag} {mg : Str → Option Value} {base : Heap}
theorem XY.leave {N : List Str} {qual : Str} {scope : Scope} {f : Addr} {cd : Value} {A : Around} {outer : List Env} {s0 : Shared} {H0 : Hp} {E : XK} {B : Base} {xc : Str → Prop} {e : Value} {s' : Shared}
    (t : XY (cxOf (CXe P w) P w K mg base N qual scope f cd A outer s0 H0 E) B xc e s') (q : ∀ (c : Str) (C : Value) (σ' : St) (H' F' : Hp) (env' : En), Rep K B F' H' σ' env' → mg c = some C → xc c → E C none H') :
    (cxOf (CXe P w) P w K mg base N qual scope f cd A outer s0 H0 E).xe e s' := by
  show wpAny (model P w) _ (leaving _ e) _ _ s'
  unfold leaving
  refine wpAny_bind (wpAny_mono t (fun _ s2 z => wpAny_mono z (fun _ s3 y => ?_) fun _ _ y => y.elim) fun _ _ y => y.elim)
  obtain ⟨pins, a, c, C, σ', H', F', env', rfl, t'', r, hm, hx⟩ := y
  have I := t''.inv
  obtain ⟨Hc, sc, Ic, os, bare, un, hok, fl⟩ := t''
  refine ⟨a, C, none, H', rfl, I.os, I.bare, I.base, I.hok, fl.older fun b o e => ?_, q c C σ' H' F' env' r hm hx⟩
  exact Ic.base.there b o e (by show b ∉ ([] : List Addr); simp)
end
end L2.L3
set_option Elab.async false
set_option linter.all false
set_option maxRecDepth 100000
set_option maxHeartbeats 4000000
namespace L2.L3
open PySem PySem.Spec PyProof.Rows
section
variable {prog : Program} {w : World} {A : Around} {E : Value → Shared → Prop} {hp : Heap} {g : Array GenState} {d : Drawn} {t : Nat} {os : OsState}
variable {nm qn : Str} {C N : Addr} {bs bm bB : List Value} {hdct : Bool} {sn : List Str} {sub : List Value} {ab : Bool} {col : Option Bool} {dd : Option Addr} {k0 k1 k2 k3 k5 : Option Value} {B nid iid : String}
theorem typeCall_initT (FB : ExcBaseFacts B nid iid bB) (T : OwnTail hp bB bm) {mN : Str → Option Value} {us : List Value} {fI : Addr} {oI : Obj} {Q : Fin → Shared → Prop}
    (oC : hp.get? C = some (excClassObj nm qn C N bs bm hdct sn sub ab col dd k0 k1 k2 k3 k5 nid)) (nN : hp.Ns N mN) (iN : mN "__init__" = some (.ref fI)) (of : hp.get? fI = some oI) (cf : oI.cls = .type "function")
    (k : ∀ h' e, Heap.MadeExcOf hp h' e (.ref C) us → wpAny (model prog w) A (call (.ref fI) (.ref e :: us)) (fun r s' => r = .none ∧ Q (.done (.ret (.ref e))) s') E ⟨h', g, d, t, os⟩) (hu : us.length ≤ sizeLine) :
    wpAny (model prog w) A (Builtin.«type.__call__» ⟨.ref C :: us, []⟩) Q E ⟨hp, g, d, t, os⟩ := by
  repeat (first | with_reducible refine wpAny_loadPart_at oC ?_ | with_reducible refine wpAny_madeBy_exc oC ?_ | wp_step)
  refine codeAny_call_builtin_code (Code.quiet_builtin _ FB.quiet) (wpAny_check_new_subT FB T oC ?_)
  refine codeAny_exc_new_subT FB T oC ?_ hu
  show wpAny _ _ _ _ _ _
  generalize ho1 : ({ cls := .type "tuple", data := .seq us.toArray } : Obj) = o1
  generalize ho2 : ({ cls := .ref C, data := .fields #[.ref hp.objs.size, .none, .none, .none, .bool false, .none] } : Obj) = o2
  have up : ∀ b o, hp.get? b = some o → ((hp.push o1).push o2).get? b = some o := fun b o e => Heap.get?_push_of_some _ (Heap.get?_push_of_some _ e)
  have oC' := up _ _ oC
  have of' := up _ _ of
  have nN' := nN.keeps up
  have T' := T.keeps up
  have ge : ((hp.push o1).push o2).get? (hp.objs.size + 1) = some o2 := by subst ho1 ho2; heap_get
  have gt : ((hp.push o1).push o2).get? hp.objs.size = some o1 := by subst ho1 ho2; exact Heap.get?_push_of_some _ (Heap.get?_push_at rfl rfl)
  have c2 : o2.cls = .ref C := by rw [← ho2]
  have cc : (Value.ref C :: bm).contains (.ref C) = true := by simp
  unfold isInstance
  repeat (first | (with_reducible refine wpAny_loadPart_at ge ?_; rw [c2]) | (with_reducible refine wpAny_isSubtype_exc oC' ?_; rw [cc]) | wp_step)
  show wpAny _ _ (typeLookup (.ref C) _) _ _ _
  refine wpAny_typeLookup_tail oC' nN' T' FB.mroIs FB.init.lookup ?_
  rw [iN]
  refine wpAny_holding (wpAny_bind ?_)
  unfold bindSpecial
  refine wpAny_bind (wpAny_typeOf (T := "function") ⟨_, of', cf⟩ ?_)
  rw [if_pos (by decide)]
  have made : Heap.MadeExcOf hp ((hp.push o1).push o2) (hp.objs.size + 1) (.ref C) us := ⟨up, Heap.get?_none_of_le (Nat.le_succ _), hp.objs.size, by rw [ge, ← ho2], Heap.get?_none_of_le (Nat.le_refl _), by rw [gt, ← ho1]⟩
  refine wpAny_pure (wpAny_bind (wpAny_mono (k _ _ made) (fun r s' hr => ?_) fun _ _ x => x))
  obtain ⟨rfl, hQ⟩ := hr
  wp_walk
  exact hQ
theorem call_initT (FB : ExcBaseFacts B nid iid bB) (T : OwnTail hp bB bm) {mN : Str → Option Value} {us : List Value} {fI : Addr} {oI : Obj} {Q : Value → Shared → Prop}
    (oC : hp.get? C = some (excClassObj nm qn C N bs bm hdct sn sub ab col dd k0 k1 k2 k3 k5 nid)) (nN : hp.Ns N mN) (iN : mN "__init__" = some (.ref fI)) (of : hp.get? fI = some oI) (cf : oI.cls = .type "function")
    (k : ∀ h' e, Heap.MadeExcOf hp h' e (.ref C) us → wpAny (model prog w) (A.under (.builtin "type.__call__" ⟨.ref C :: us, []⟩)) (call (.ref fI) (.ref e :: us)) (fun r s' => r = .none ∧ Q (.ref e) s') E ⟨h', g, d, t, os⟩) (hu : us.length ≤ sizeLine) :
    wpAny (model prog w) A (call (.ref C) us) Q E ⟨hp, g, d, t, os⟩ := by
  have g1 := tc_lookup
  have g2 := tc_bind (.ref C)
  have gT : (⟨hp, g, d, t, os⟩ : Shared).TypeIs (.ref C) "type" := ⟨_, oC, rfl⟩
  refine wpAny_call (codeAny_of_tree ?_)
  show wpAny _ _ (callAny (.ref C) _) _ _ _
  repeat (any_goals (first | assumption | with_reducible refine wpAny_loadPart_at oC ?_ | wp_step))
  refine ⟨rfl, ?_⟩
  exact codeAny_call_builtin_at (Code.quiet_builtin _ (by decide +kernel)) entry_typeCall (wpAny_check_type_call_sub oC (typeCall_initT FB T oC nN iN of cf (fun h' e m => k h' e m) hu))
theorem raise_obj {M : Model} {env : Env} {s : Shared} {x : Sem Value} {Q : Flow → Shared → Prop} (hb : bm.contains (.type "BaseException") = true) (hh : A.handled = none)
    (h : wpAny M A x (fun v s₁ => ∃ e oe vs, v = .ref e ∧ s₁.heap.get? C = some (excClassObj nm qn C N bs bm hdct sn sub ab col dd k0 k1 k2 k3 k5 nid) ∧ s₁.heap.get? e = some oe ∧ oe.cls = .ref C ∧ oe.data = .fields vs ∧ vs[1]? = some .none ∧ E (.ref e) s₁) E s) :
    wpAny M A (raiseStmt env (some x) none) Q E s := by
  have cB : (Value.ref C :: bm).contains (.type "BaseException") = true := by rw [List.contains_cons, hb, Bool.or_true]
  unfold raiseStmt
  refine wpAny_bind (wpAny_mono h (fun v s₁ h₁ => ?_) fun _ _ x => x)
  obtain ⟨e, oe, vs, rfl, oC, he, hcl, hd, h1, hE⟩ := h₁
  obtain ⟨hp, g, d, tk, os⟩ := s₁
  repeat (first | (with_reducible refine wpAny_loadPart_at he ?_; rw [hcl]) | with_reducible refine wpAny_loadPart_at he ?_ | with_reducible refine wpAny_loadPart_at oC ?_ | (with_reducible refine wpAny_isSubtype_exc oC ?_; rw [cB]) | wp_step)
  rw [hd]
  refine wpAny_pure ?_
  rw [h1]
  refine wpAny_pure ?_
  rw [if_neg (by decide)]
  exact wpAny_pure (wpAny_raiseNew_none hh hE)
end
end L2.L3
set_option Elab.async false
set_option linter.all false
set_option maxRecDepth 100000
set_option maxHeartbeats 4000000
namespace L2.L3
open PySem PySem.Spec PyProof.Rows
open Builtin Builtin.ObjectAttr
abbrev veB : List Value := [.type "ValueError", .type "Exception", .type "BaseException", .type "object"]
def excInI (K : PySem.W.Frag) (C fI : Addr) : Bool := match K.lookup C with
  | some ⟨.type "type", _, .cls cd, sl⟩ => (match cd.mro, sl.toList with
    | .ref C' :: bm, [_, _, _, _, some (.builtin n), _] => C' == C && n == "ValueError.__new__" && !cd.hasDel && cd.hasDict && PySem.W.tailIn K veB bm && PySem.W.nsOkIn K cd.ns && PySem.W.nsIn K cd.ns "__init__" == some (some (.ref fI))
    | _, _ => false)
  | _ => false
theorem ns_some_of {K : PySem.W.Frag} {h : Heap} {N : Addr} {mg : Str → Option Value} {n : Str} {v : Value} (X : K.In h) (G : h.Ns N mg) (e : PySem.W.nsIn K N n = some (some v)) : mg n = some v := by
  obtain ⟨o, es, ep, ho, hd, _, hf⟩ := G
  unfold PySem.W.nsIn at e
  split at e
  · rename_i c d es' n' sl q
    have := X _ _ q
    rw [ho] at this
    cases this
    cases hd
    split at e
    · rename_i ent he
      cases e
      rw [← hf]
      unfold nsFind findBy
      rw [← Array.find?_toList, he]
      rfl
    · split at e <;> cases e
  · cases e
theorem xi_obj {K : PySem.W.Frag} {h : Heap} {C fI : Addr} (X : K.In h) (q : excInI K C fI = true) :
    ∃ bm N nm qn bs hdct sn sub ab col dd k0 k1 k2 k3 k5 mN cd, h.get? C = some (excClassObj nm qn C N bs bm hdct sn sub ab col dd k0 k1 k2 k3 k5 "ValueError.__new__") ∧ h.Ns N mN ∧ mN "__init__" = some (.ref fI) ∧ OwnTail h veB bm ∧
      PySem.W.clsIn K C = some cd ∧ cd.hasDict = true ∧ cd.mro = .ref C :: bm := by
  unfold excInI at q
  split at q
  · rename_i dd cd sl ho
    split at q
    · rename_i C' bm k0 k1 k2 k3 n k5 hm hs
      simp only [Bool.and_eq_true, beq_iff_eq, Bool.not_eq_true'] at q
      obtain ⟨⟨⟨⟨⟨⟨rfl, rfl⟩, hdel⟩, hdc⟩, ht⟩, hok⟩, hni⟩ := q
      have hcl : PySem.W.clsIn K C' = some cd := by unfold PySem.W.clsIn; rw [ho]
      have hG : h.Ns cd.ns (h.nsMap cd.ns) := .of_isNs (PySem.W.isNs_of_in X hok)
      have hi := ns_some_of X hG hni
      refine ⟨bm, cd.ns, cd.name, cd.qualname, cd.bases, cd.hasDict, cd.slotNames, cd.subclasses, cd.abstract, cd.collection, dd, k0, k1, k2, k3, k5, _, cd, ?_, hG, hi, PySem.W.tail_of_in X ht, hcl, hdc, hm⟩
      have e := X _ _ ho
      obtain ⟨nm, bs, mro, ns, qn, hd, sn, sub, ab, col, del⟩ := cd
      dsimp only at hm hdel
      subst hm hdel
      have hsl : sl = #[k0, k1, k2, k3, some (.builtin "ValueError.__new__"), k5] := by
        obtain ⟨l⟩ := sl
        simp only at hs
        rw [hs]
      subst hsl
      exact e
    · cases q
  · cases q
section
variable {prog : Program} {w : World} {A : Around} {E : Value → Shared → Prop} {K : PySem.W.Frag} {s : Shared} {x C fI : Addr} {ox : Obj} {od : Option Obj} {name : Str} {tk : Tok} {v : Value} {R : Result → Shared → Prop}
theorem refuse_tail {h : Heap} {bm : List Value} (T : OwnTail h veB bm) (self : Value) : refuseLoop self "__setattr__" bm = pure () := by
  induction T with
  | base => exact PySem.F.store_ValueError.passes self
  | own _ _ _ _ ih => rw [refuseLoop_ref]; exact ih
theorem osa_exc (X : K.In s.heap) (I : PySem.W.InstAt s.heap x ox C od) (q : excInI K C fI = true) (hn : PySem.W.findIn K (.ref C) name = some none)
    (h : ∀ b, wpAny (model prog w) A.in1 (storeInOwnDict (.ref x) (.ref C) (.str name tk) name v b) (fun fin s' => match fin with | .done f => R (.ok f) s' | .again c' => c'.quiet = true ∧ codeAny (model prog w) A c' R s') (fun e s' => R (.error e) s') s) :
    codeAny (model prog w) A (.call (.builtin "object.__setattr__") ⟨[.ref x, .str name tk, v], []⟩) R s := by
  have SF := PySem.F.store_object
  obtain ⟨bm, N, nm, qn, bs, hdct, sn, sub, ab, col, dd, k0, k1, k2, k3, k5, mN, cd, hC, hNs, hi, T, hc, hdc, hm⟩ := xi_obj X q
  have hob : cd.mro.contains (.type "object") = true := by rw [hm, List.contains_cons, T.hasType (X := "object") (b := true) (by decide +kernel), Bool.or_true]
  have isO : PySem.W.Looks (model prog w) s.heap (isInstance (.ref x) (.type "object")) true := I.type.andThen (PySem.W.looks_mroIn X (by unfold PySem.W.mroIn; rw [hc, Option.bind_some, if_neg (by rw [hm]; simp), hob]))
  refine codeAny_call_builtin SF.slot.plain SF.entry (@PySem.W.check_slot (model prog w) _ _ s "object.__setattr__" "object" "__setattr__" (.ref x) [.str name tk, v] [] _ SF.kind SF.split isO (SF.args (.ref x) (.str name tk) v) ?_)
  have lm : PySem.W.Looks (model prog w) s.heap (mroOf (.ref C)) cd.mro := (PySem.W.looks_clsIn X hc).andThen .now
  rw [PySem.W.osa_eq, refuse_eq]
  refine wpAny_bind (wpAny_bind (I.type.here (wpAny_bind (lm.here ?_))))
  rw [hm, refuseLoop_ref, refuse_tail T]
  refine wpAny_pure (wpAny_bind (I.type.here (wpAny_bind ((PySem.W.looks_findIn X hn).here (wpAny_bind (wpAny_pure ?_))))))
  exact h _
theorem xset_new {vs : Array Value} {Q : Unit → Shared → Prop} (X : K.In s.heap) (hx : s.heap.get? x = some ox) (c : ox.cls = .ref C) (dn : ox.dict = none) (df : ox.data = .fields vs) (q : excInI K C fI = true)
    (sa : PySem.W.findIn K (.ref C) "__setattr__" = some (some (.builtin "object.__setattr__"))) (hn : PySem.W.findIn K (.ref C) name = some none)
    (h : ∀ h', h'.Ns1 s.heap.objs.size (fun y => if y = name then some v else none) → Heap.SameBut s.heap.objs.size ((s.heap.push { cls := .type "dict", data := .dict #[] }).update x fun o => { o with dict := some s.heap.objs.size }) h' →
      Q () { s with heap := h', toks := s.toks + 2 }) : wpAny (model prog w) A (setAttr (.ref x) name v) Q E s := by
  have I : PySem.W.InstAt s.heap x ox C none := ⟨hx, c, by unfold PySem.W.notCls; rw [df], by rw [dn]; exact True.intro⟩
  refine PySem.W.set_plain X I sa (osa_exc (s := { s with toks := s.toks + 1 }) X I q hn fun b => ?_)
  obtain ⟨bm, N, nm, qn, bs, hdct, sn, sub, ab, col, dd, k0, k1, k2, k3, k5, mN, cd, hC, hNs, hi, T, hc, hdc, hm⟩ := xi_obj X q
  refine wpAny_bind (wpAny_pure (wpAny_bind (wpAny_bind (wpAny_loadPart hx ?_))))
  rw [c]
  refine wpAny_bind (PySem.W.Looks.here (s := { s with toks := s.toks + 1 }) (PySem.W.looks_clsIn X hc) ?_)
  rw [hdc, dn, df, if_neg (by decide)]
  dsimp only
  rw [if_neg (by simp [typeHasDict])]
  have hx1 : (s.heap.push { cls := .type "dict", data := .dict #[] }).get? x = some ox := Heap.get?_push_of_some _ hx
  have ne : x ≠ s.heap.objs.size := Nat.ne_of_lt (Heap.lt_size hx)
  refine wpAny_bind (wpAny_alloc' ?_)
  refine wpAny_bind (wpAny_update' hx1 ?_)
  refine wpAny_pure ?_
  have gd : ((s.heap.push { cls := .type "dict", data := .dict #[] }).update x fun o => { cls := o.cls, dict := some s.heap.objs.size, data := o.data, slots := o.slots }).get? s.heap.objs.size = some { cls := .type "dict", data := .dict #[] } :=
    (Heap.get?_update_ne _ _ _ _ ne.symm).trans (Heap.get?_push_at rfl rfl)
  have nd : ((s.heap.push { cls := .type "dict", data := .dict #[] }).update x fun o => { cls := o.cls, dict := some s.heap.objs.size, data := o.data, slots := o.slots }).Ns s.heap.objs.size (fun _ => none) :=
    ⟨_, #[], _, gd, rfl, fun e he => absurd he (by simp), fun _ => rfl⟩
  show wpAny _ _ (storeInDict s.heap.objs.size (.str name s.toks) name v) _ _ _
  unfold storeInDict newKeyGuard
  refine wpAny_bind (wpAny_pure (wpAny_bind (wpAny_nsSet1 (Heap.Ns1.of_empty nd) fun h' hn' hs => ?_)))
  obtain ⟨oD, esD, epD, hoD, hdD, hcD⟩ := hn'.count (Within.cons name v Within.nil)
  refine wpAny_bind (wpAny_lookBehind hoD (by rw [hdD]; exact pastItsLine_dict (Nat.le_trans hcD (by rw [List.length_cons, List.length_nil, sizeLine_eq]; omega))) ?_)
  exact wpAny_pure (h h' hn' hs)
theorem xset_more {vs : Array Value} {dx : Addr} {mA : Str → Option Value} {ns : List Str} {Q : Unit → Shared → Prop} (X : K.In s.heap) (hx : s.heap.get? x = some ox) (c : ox.cls = .ref C) (ds : ox.dict = some dx) (df : ox.data = .fields vs) (q : excInI K C fI = true)
    (sa : PySem.W.findIn K (.ref C) "__setattr__" = some (some (.builtin "object.__setattr__"))) (hn : PySem.W.findIn K (.ref C) name = some none) (hd : s.heap.Ns1 dx mA) (hw : Within mA ns) (hsz : ns.length ≤ 1000)
    (h : ∀ h', h'.Ns1 dx (fun y => if y = name then some v else mA y) → Heap.SameBut dx s.heap h' → Q () { s with heap := h', toks := s.toks + 2 }) : wpAny (model prog w) A (setAttr (.ref x) name v) Q E s := by
  obtain ⟨odx, ho, _⟩ := lookIn_ns hd
  have I : PySem.W.InstAt s.heap x ox C (some odx) := ⟨hx, c, by unfold PySem.W.notCls; rw [df], by rw [ds]; exact ho⟩
  refine PySem.W.set_plain X I sa (osa_exc (s := { s with toks := s.toks + 1 }) X I q hn fun b => ?_)
  obtain ⟨bm, N, nm, qn, bs, hdct, sn, sub, ab, col, dd, k0, k1, k2, k3, k5, mN, cd, hC, hNs, hi, T, hc, hdc, hm⟩ := xi_obj X q
  refine wpAny_bind (wpAny_pure (wpAny_bind (wpAny_bind (wpAny_loadPart hx ?_))))
  rw [c]
  refine wpAny_bind (PySem.W.Looks.here (s := { s with toks := s.toks + 1 }) (PySem.W.looks_clsIn X hc) ?_)
  rw [hdc, ds, if_neg (by decide)]
  refine wpAny_pure (a := some dx) ?_
  show wpAny _ _ (storeInDict dx (.str name s.toks) name v) _ _ _
  unfold storeInDict newKeyGuard
  refine wpAny_bind (wpAny_pure (wpAny_bind (wpAny_nsSet1 (s := { s with toks := s.toks + 1 }) hd fun h' hn' hs => ?_)))
  obtain ⟨oD, esD, epD, hoD, hdD, hcD⟩ := hn'.count (Within.cons name v hw)
  refine wpAny_bind (wpAny_lookBehind hoD (by rw [hdD]; exact pastItsLine_dict (Nat.le_trans hcD (by rw [List.length_cons, sizeLine_eq]; omega))) ?_)
  exact wpAny_pure (h h' hn' hs)
end
end L2.L3
set_option Elab.async false
set_option linter.all false
set_option maxRecDepth 100000
set_option maxHeartbeats 4000000
namespace L2.L3
open PySem PySem.Spec PyProof.Rows
def excNew (a C : Addr) (dd : Option Addr) : Heap → Prop := fun h => ∃ o vs, h.get? a = some o ∧ o.cls = .ref C ∧ o.dict = dd ∧ o.data = .fields vs ∧ vs[1]? = some .none
def xdP (dx : Addr) (fs : List (Str × V)) : Heap → Prop := fun h => ∃ mA, h.Ns1 dx mA ∧ (∀ f, RelO (fs.lookup f) (mA f)) ∧ Within mA (fs.map (·.1)) ∧ fs.length ≤ 100
theorem ext_new {P : Program} {w : World} {H : Hp} {h : Heap} {a C : Addr} {dd : Option Addr} (x : excNew a C dd h) : ObjOk P w H h a (.ext (excNew a C dd)) := by
  have ⟨o, vs, h1, h2⟩ := x
  exact ⟨x, ⟨o, h1⟩, fun g g' ⟨o, vs, h1, h2⟩ k => ⟨o, vs, k o h1, h2⟩⟩
theorem ext_xd {P : Program} {w : World} {H : Hp} {h : Heap} {dx : Addr} {fs : List (Str × V)} (x : xdP dx fs h) : ObjOk P w H h dx (.ext (xdP dx fs)) := by
  have ⟨mA, ⟨o, es, ep, ho, hr⟩, h2⟩ := x
  exact ⟨x, ⟨o, ho⟩, fun g g' ⟨mA, ⟨o, es, ep, ho, hr⟩, h2⟩ k => ⟨mA, ⟨o, es, ep, k o ho, hr⟩, h2⟩⟩
def sXFld (K : PySem.W.Frag) (fI : Addr) (ta tv : TE) (f : Str) : TS := fun D σ H => tv σ H fun y H1 => ta σ H1 fun x H2 => ∃ a C, x = .ref a ∧ excInI K C fI = true ∧ PySem.W.findIn K (.ref C) "__setattr__" = some (some (.builtin "object.__setattr__")) ∧ PySem.W.findIn K (.ref C) f = some none ∧
  ((H2 a = some (.ext (excNew a C none)) ∧ ∀ dx, H2 dx = none → D.nx σ (upd (upd H2 a (.ext (excNew a C (some dx)))) dx (.ext (xdP dx [(f, y)])))) ∨
   ∃ dx fs, H2 a = some (.ext (excNew a C (some dx))) ∧ H2 dx = some (.ext (xdP dx fs)) ∧ fs.length < 100 ∧ D.nx σ (upd H2 dx (.ext (xdP dx (putF f y fs)))))
section
variable {X : Cx} {o value : Expr} {f : Str} {pos pos' : Pos} {ta tv : TE} {fI : Addr}
theorem upd_swap {H : Hp} {a b : Addr} {o u : HO} (h : a ≠ b) : upd (upd H a o) b u = upd (upd H b u) a o := by
  funext c
  unfold upd
  by_cases h1 : c = a
  · subst h1; simp [h]
  · by_cases h2 : c = b
    · subst h2; simp [h1]
    · simp [h1, h2]
theorem ps_xfld (ha : PE X o ta) (hv : PE X value tv) (hs : swapsWith value (some (.Attribute o f pos')) pos.line X.env = pure false) : PS X (.Assign [.Attribute o f pos'] value pos) (sXFld X.K fI ta tv f) := by
  intro pins s σ H D I h
  refine plainObj_wpAny_Assign_Attribute (thn (hv pins s σ H _ I h) fun u s1 ⟨y, H1, I1, ry, q⟩ => thn (ha pins s1 σ H1 _ I1 q) fun ov s2 ⟨x, H2, I2, rx, a, C, ex, xi, sa, hn, q2⟩ => ?_) hs
  subst ex
  obtain rfl : ov = Value.ref a := rx
  rcases q2 with ⟨ea, k⟩ | ⟨dx, fs, ea, ed, hl, k⟩
  · obtain ⟨⟨ox, vs, h1, c, dn, df, v1⟩, _⟩ := (show ObjOk X.prog X.w H2 s2.heap a (.ext (excNew a C none)) from I2.hok a _ ea)
    refine xset_new I2.kIn h1 c dn df xi sa hn fun h' hn' hsb => ?_
    have ne : a ≠ s2.heap.objs.size := Nat.ne_of_lt (Heap.lt_size h1)
    have fr : H2 s2.heap.objs.size = none := I2.hok.fresh (Nat.le_refl _)
    have e1 : (s2.heap.push { cls := .type "dict", data := .dict #[] }).get? s2.heap.objs.size = some { cls := .type "dict", data := .dict #[] } := Heap.get?_push_size _ rfl
    have I3 := I2.laid (a := s2.heap.objs.size) (o := .ext (fun h => ∃ o, h.get? s2.heap.objs.size = some o)) (h' := s2.heap.push { cls := .type "dict", data := .dict #[] }) (t' := s2.toks) (fun b u q => Heap.get?_push_of_some _ q) (Nat.le_refl _)
      ⟨⟨_, e1⟩, ⟨_, e1⟩, fun g g' ⟨o, e⟩ k => ⟨o, k o e⟩⟩
    have h2 : (s2.heap.push { cls := .type "dict", data := .dict #[] }).get? a = some ox := Heap.get?_push_of_some _ h1
    have nf : ({ cls := ox.cls, dict := some s2.heap.objs.size, data := ox.data, slots := ox.slots } : Obj).isFreed = false := Obj.isFreed_of_fields (vs := vs) df
    have h3 := Heap.get?_update_self (fun o => { cls := o.cls, dict := some s2.heap.objs.size, data := o.data, slots := o.slots }) h2 nf
    have I4 := I3.write (x := a) (e := a) (o := .ext (excNew a C (some s2.heap.objs.size))) (h' := (s2.heap.push { cls := .type "dict", data := .dict #[] }).update a fun o => { cls := o.cls, dict := some s2.heap.objs.size, data := o.data, slots := o.slots }) (t' := s2.toks)
      (by rw [upd_ne ne, ea]; exact True.intro) (.inl rfl) (fun b u hb q => (Heap.get?_update_other _ _ (Ne.symm hb)).trans q) ⟨_, h3⟩ (ext_new ⟨_, vs, h3, c, rfl, df, v1⟩)
    have I5 := I4.write (x := s2.heap.objs.size) (e := s2.heap.objs.size) (o := .ext (xdP s2.heap.objs.size [(f, y)])) (h' := h') (t' := s2.toks + 2)
      (by rw [upd_ne (Ne.symm ne), upd_same]; exact True.intro) (.inl rfl) (fun b u hb q => (hsb.2 b hb).trans q) (let ⟨o, _, _, e, _⟩ := hn'; ⟨o, e⟩)
      (ext_xd ⟨_, hn', fun g => ?_, fun g hg => ?_, by simp⟩)
    · refine ⟨σ, _, I5, ?_⟩
      have e : upd (upd (upd H2 s2.heap.objs.size (.ext (fun h => ∃ o, h.get? s2.heap.objs.size = some o))) a (.ext (excNew a C (some s2.heap.objs.size)))) s2.heap.objs.size (.ext (xdP s2.heap.objs.size [(f, y)])) = upd (upd H2 a (.ext (excNew a C (some s2.heap.objs.size)))) s2.heap.objs.size (.ext (xdP s2.heap.objs.size [(f, y)])) := by
        rw [upd_swap (Ne.symm ne), upd_upd]
      rw [e]; exact k _ fr
    · show RelO (List.lookup g [(f, y)]) (if g = f then some u else none)
      by_cases z : g = f
      · subst z; rw [if_pos rfl, List.lookup_cons, beq_self_eq_true]; exact ry
      · rw [if_neg z, List.lookup_cons, beq_eq_false_iff_ne.mpr z]; exact True.intro
    · by_cases z : g = f
      · subst z; simp
      · exact absurd (show (if g = f then some u else none) = none by rw [if_neg z]) hg
  · obtain ⟨⟨ox, vs, h1, c, dn, df, v1⟩, _⟩ := (show ObjOk X.prog X.w H2 s2.heap a (.ext (excNew a C (some dx))) from I2.hok a _ ea)
    obtain ⟨⟨mA, hN, hr, hw, _⟩, _⟩ := (show ObjOk X.prog X.w H2 s2.heap dx (.ext (xdP dx fs)) from I2.hok dx _ ed)
    refine xset_more I2.kIn h1 c dn df xi sa hn hN hw (by rw [List.length_map]; omega) fun h' hn' hsb => ?_
    have I3 := I2.write (x := dx) (e := dx) (o := .ext (xdP dx (putF f y fs))) (h' := h') (t' := s2.toks + 2) (by rw [ed]; exact True.intro) (.inl rfl) (fun b u hb q => (hsb.2 b hb).trans q) (let ⟨o, _, _, e, _⟩ := hn'; ⟨o, e⟩)
      (ext_xd ⟨_, hn', fun g => ?_, fun g hg => ?_, by have := length_putF f y fs; omega⟩)
    · exact ⟨σ, _, I3, k⟩
    · show RelO ((putF f y fs).lookup g) (if g = f then some u else mA g)
      rw [lookup_putF]
      by_cases z : g = f
      · rw [if_pos z, if_pos z]; exact ry
      · rw [if_neg z, if_neg z]; exact hr g
    · by_cases z : g = f
      · rw [z]; exact (keys_putF f y fs).1
      · refine (keys_putF f y fs).2 g (hw g fun y => hg ?_)
        show (if g = f then some u else mA g) = none
        rw [if_neg z]; exact y
end
def spI (C : Addr) (ns : List Str) : Sp := fun vs H Q _ => ∃ a ws, vs = .ref a :: ws ∧ ws.length = ns.length ∧ H a = some (.ext (excNew a C none)) ∧ ∀ dx, H dx = none → Q .non (upd (upd H a (.ext (excNew a C (some dx)))) dx (.ext (xdP dx (ns.zip ws))))
section
variable {P : Program} {w : World} {K : PySem.W.Frag} {mg : Str → Option Value} {base : Heap} {k : Nat} {C f : Addr} {name qual f1 f2 : Str} {params : Arguments} {scope : Scope} {dV kV doc pm cdv ct oc : Value} {an od : Option Addr} {osl : Array (Option Value)} {p1 p2 p3 p4 q1 q2 q3 q4 : Pos}
theorem init_two (lk : K.lookup f = some ⟨oc, od, .func (PySem.W.fnOf name qual params [.Assign [.Attribute (.Name "self" p1) f1 p2] (.Name f1 p3) p4, .Assign [.Attribute (.Name "self" q1) f2 q2] (.Name f2 q3) q4] scope dV kV doc pm an cdv ct), osl⟩)
    (hcd : PySem.W.codeIn K cdv qual = true) (S : FnScope ["self", f1, f2] ["self", f1, f2] scope) (v0 : Vis scope "self") (v1 : Vis scope f1) (v2 : Vis scope f2) (d1 : (f1 == ("__debug__" : Str)) = false ∧ (f1 == ("__classdict__" : Str)) = false) (d2 : (f2 == ("__debug__" : Str)) = false ∧ (f2 == ("__classdict__" : Str)) = false)
    (xi : excInI K C f = true) (sa : PySem.W.findIn K (.ref C) "__setattr__" = some (some (.builtin "object.__setattr__"))) (n1 : PySem.W.findIn K (.ref C) f1 = some none) (n2 : PySem.W.findIn K (.ref C) f2 = some none) (hne : f1 ≠ f2) :
    FnOk P w K mg base CX0 (k + 1) f (PySem.W.fnOf name qual params [.Assign [.Attribute (.Name "self" p1) f1 p2] (.Name f1 p3) p4, .Assign [.Attribute (.Name "self" q1) f2 q2] (.Name f2 q3) q4] scope dV kV doc pm an cdv ct) ["self", f1, f2] (spI C [f1, f2]) := by
  refine fn_of lk hcd S (fun vs H Q E ⟨a, ws, e, l, _⟩ => by subst e; simp [l]) fun A outer s H vs Q E hr ⟨a, ws, e, l, ha, hq⟩ => ?_
  subst e
  match ws, l with
  | [y, z], _ =>
    refine ⟨_, pss_cons (ps_xfld (fI := f) (pe_var (i := 0) rfl v0 (by decide) (by decide)) (pe_var (i := 1) rfl v1 d1.1 d1.2) rfl) (pss_one (ps_xfld (fI := f) (pe_var (i := 0) rfl v0 (by decide) (by decide)) (pe_var (i := 2) rfl v2 d2.1 d2.2) rfl)), ?_⟩
    refine ⟨y, rfl, .ref a, rfl, a, C, rfl, xi, sa, n1, .inl ⟨ha, fun dx hdx => ?_⟩⟩
    have ne : a ≠ dx := fun z => by subst z; rw [ha] at hdx; cases hdx
    refine ⟨z, rfl, .ref a, rfl, a, C, rfl, xi, sa, n2, .inr ⟨dx, _, by rw [upd_ne ne, upd_same], upd_same, by simp, ?_⟩⟩
    show Q .non _
    rw [upd_upd, show putF f2 z [(f1, y)] = [f1, f2].zip [y, z] from by show (if f1 = f2 then _ else _) = _; rw [if_neg hne]; rfl]
    exact hq dx hdx
end
end L2.L3
set_option Elab.async false
set_option linter.all false
set_option maxRecDepth 100000
set_option maxHeartbeats 4000000
namespace L2.L3
open PySem PySem.Spec PyProof.Rows
section
variable {prog : Program} {w : World} {A : Around} {E : Value → Shared → Prop} {s : Shared} {env : Env}
variable {nm qn : Str} {C N : Addr} {bs bm : List Value} {hdct : Bool} {sn : List Str} {sub : List Value} {ab : Bool} {col : Option Bool} {dd : Option Addr} {k0 k1 k2 k3 k5 : Option Value} {nid : String}
theorem raise_callI {x : Str} {np cpos pos : Pos} {es : List Expr} {Q : Flow → Shared → Prop} (hb : bm.contains (.type "BaseException") = true) (hh : A.handled = none) (hp : (backTo cpos (starEach es env)).any (·.1) = false)
    (h : wpAny (model prog w) A (eval (.Name x np) env) (fun f s₁ => f = .ref C ∧ wpAny (model prog w) A (evalArgs (.ref C) true (backTo cpos (starEach es env)) [])
      (fun a s₂ => a.kw = [] ∧ s₂.heap.get? C = some (excClassObj nm qn C N bs bm hdct sn sub ab col dd k0 k1 k2 k3 k5 nid) ∧
        wpAny (model prog w) A (call (.ref C) a.pos) (fun v s₃ => ∃ e oe vs, v = .ref e ∧ s₃.heap.get? C = some (excClassObj nm qn C N bs bm hdct sn sub ab col dd k0 k1 k2 k3 k5 nid) ∧ s₃.heap.get? e = some oe ∧ oe.cls = .ref C ∧ oe.data = .fields vs ∧ vs[1]? = some .none ∧ E (.ref e) s₃) E s₂) E s₁) E s) :
    wpAny (model prog w) A (exec (.Raise (some (.Call (.Name x np) es [] cpos)) none pos) env) Q E s := by
  rw [arm_exec_Raise]
  refine wpAny_bind (wpAny_standAt (raise_obj (C := C) (nm := nm) (qn := qn) (N := N) (bs := bs) (bm := bm) (hdct := hdct) (sn := sn) (sub := sub) (ab := ab) (col := col) (dd := dd) (k0 := k0) (k1 := k1) (k2 := k2) (k3 := k3) (k5 := k5) (nid := nid) hb hh ?_))
  refine wpAny_bind (wpAny_mono (wpAny_Call_ofName (wpAny_mono h (fun f s₁ h₁ => ?_) fun _ _ x => x)) (fun v s₃ h₃ => wpAny_bind (wpAny_standAt (wpAny_pure h₃))) fun _ _ x => x)
  obtain ⟨rfl, h₁⟩ := h₁
  unfold callWith
  refine wpAny_bind (wpAny_holding (wpAny_mono h₁ (fun a s₂ h₂ => wpAny_bind (wpAny_standAt ?_)) fun _ _ x => x))
  obtain ⟨us, kw⟩ := a
  obtain ⟨hkw, oC, h₂⟩ := h₂
  obtain rfl : kw = [] := hkw
  obtain ⟨hp', g, d, tk, os⟩ := s₂
  simp only [hp]
  refine wpAny_bind (wpAny_keeperOf_exc oC ?_)
  exact wpAny_bind (wpAny_mono h₂ (fun v s₃ h₃ => wpAny_bind (wpAny_holding (wpAny_point (wpAny_pure h₃)))) fun _ _ x => x)
end
def excAtD (a C dx : Addr) : Heap → Prop := fun h => ∃ o vs, h.get? a = some o ∧ o.cls = .ref C ∧ o.dict = some dx ∧ o.data = .fields vs
def ExcP (c : Str) (ns : List Str) (ds : List D) : PySem.W.Frag → Hp → Addr → Prop := fun K G a => ∃ C dx vs, PySem.W.nsIn K mainGlobals c = some (some (.ref C)) ∧ G a = some (.ext (excAtD a C dx)) ∧ G dx = some (.ext (xdP dx (ns.zip vs))) ∧ DenL K G ds vs ∧ vs.length = ns.length
def excD (c : Str) (ns : List Str) (ds : List D) : D := .obj (ExcP c ns ds)
theorem den_excD {K : PySem.W.Frag} {F : Hp} {c : Str} {ns : List Str} {ds : List D} {vs : List V} {a C dx : Addr} (h1 : PySem.W.nsIn K mainGlobals c = some (some (.ref C))) (h2 : F a = some (.ext (excAtD a C dx))) (h3 : F dx = some (.ext (xdP dx (ns.zip vs)))) (h4 : DenL K F ds vs) (h5 : vs.length = ns.length) : Den K F (excD c ns ds) (.ref a) := by
  unfold excD
  simp only [Den]
  exact ⟨a, rfl, fun G s => ⟨C, dx, vs, h1, s _ _ h2, s _ _ h3, DenL.mono s _ _ h4, h5⟩⟩
theorem excD_den {K : PySem.W.Frag} {F : Hp} {c : Str} {ns : List Str} {ds : List D} {v : V} (h : Den K F (excD c ns ds) v) : ∃ a C dx vs, v = .ref a ∧ PySem.W.nsIn K mainGlobals c = some (some (.ref C)) ∧ F a = some (.ext (excAtD a C dx)) ∧ F dx = some (.ext (xdP dx (ns.zip vs))) ∧ DenL K F ds vs ∧ vs.length = ns.length := by
  unfold excD at h
  simp only [Den] at h
  obtain ⟨a, e, q⟩ := h
  obtain ⟨C, dx, vs, r⟩ := q F (Same.refl _)
  exact ⟨a, C, dx, vs, e, r⟩
structure Ends5 extends Ends3 where
  xc : D → Prop
abbrev TS5 := Ends5 → En → Prop
def XV (X : Cx) (B : Base) (xc : D → Prop) : Value → Shared → Prop := fun ex s' => ∃ (pins : List (Addr × Obj)) (a : Addr) (c : Str) (C dx : Addr) (σ' : St) (H' F' : Hp) (env' : En) (ns : List Str) (ds : List D) (vs : List V),
  ex = .ref a ∧ ThrownD X pins σ' H' a (.ref C) (some dx) s' ∧ Rep X.K B F' H' σ' env' ∧ PySem.W.nsIn X.K mainGlobals c = some (some (.ref C)) ∧ F' dx = some (.ext (xdP dx (ns.zip vs))) ∧ DenL X.K F' ds vs ∧ vs.length = ns.length ∧ xc (excD c ns ds)
def XVn (X : Cx) (B : Base) (xc : D → Prop) : Value → Shared → Prop := fun e s' => wpAny (model X.prog X.w) X.A (noteFrame e X.env) (fun _ s2 => wpAny (model X.prog X.w) X.A (setFlight e none) (fun _ s3 => XV X B xc e s3) (fun _ _ => False) s2) (fun _ _ => False) s'
theorem XV.toN {X : Cx} {B : Base} {xc : D → Prop} {e : Value} {s' : Shared} (hst : X.stack = X.env :: X.outer) (hf : X.env.frame = some X.env.locals) (h : XV X B xc e s') : XVn X B xc e s' := by
  obtain ⟨pins, a, c, C, dx, σ', H', F', env', ns, ds, vs, rfl, th, r⟩ := h
  exact th.note hst hf fun s'' t'' => ⟨pins, a, c, C, dx, σ', H', F', env', ns, ds, vs, rfl, t'', r⟩
structure QV (X : Cx) (st : Stmt) (t : TS5) : Prop where
  of ::
  run : ∀ (B : Base) (σ : St) (F H : Hp) (env : En) (D : Ends5), Rep X.K B F H σ env → t D env → wS (X.wish (XVn X B D.xc)) st (RS X B D.toEnds3) σ H
structure QVs (X : Cx) (st : List Stmt) (t : TS5) : Prop where
  of ::
  run : ∀ (B : Base) (σ : St) (F H : Hp) (env : En) (D : Ends5), Rep X.K B F H σ env → t D env → wSs (X.wish (XVn X B D.xc)) st (RS X B D.toEnds3) σ H
section
variable {X : Cx} {c e : Expr} {es : List Expr} {st : Stmt} {sts xs ys body : List Stmt} {t : TS3} {p q : TS5} {tc : TB} {pos : Pos} {ts : TDs}
def vUp (t : TS3) : TS5 := fun D env => t D.toEnds3 env
theorem qv_up (h : QS X.nox st t) : QV X st (vUp t) := ⟨fun B σ F H env D r hq => wS_nox (h B σ F H env D.toEnds3 r hq)⟩
theorem qvs_up (h : QSs X.nox sts t) : QVs X sts (vUp t) := ⟨fun B σ F H env D r hq => wSs_nox (h B σ F H env D.toEnds3 r hq)⟩
def vSeq (t u : TS5) : TS5 := fun D env => t { D with nx := u D } env
theorem qvs_one (h : QV X st p) : QVs X [st] p := ⟨fun B σ F H env D rp hq => wSs_of (pss_one ps_w) (h.run B σ F H env D rp hq)⟩
theorem qvs_cons (h1 : QV X st p) (h2 : QVs X sts q) : QVs X (st :: sts) (vSeq p q) := by
  refine ⟨fun B σ F H env D rp h => wSs_of (pss_cons ps_w pss_w) ?_⟩
  exact wS_mono (h1.run B σ F H env { D with nx := q D } rp h) (fun σ' H' ⟨F', env', rp', q⟩ => h2.run B σ' F' H' env' D rp' q) (fun _ _ q => q) (fun _ _ q => q) (fun _ _ q => q)
def vIf (c : TB) (t u : TS5) : TS5 := fun D env => c env fun k => if k = true then t D env else u D env
theorem qv_if (hc : QT X.nox c tc) (ha : QVs X xs p) (hb : QVs X ys q) : QV X (.If c xs ys pos) (vIf tc p q) := by
  refine ⟨fun B σ F H env D rp h => wS_of (ps_if pt_w pss_w pss_w) ?_⟩
  refine wT_mono (wT_nox (hc B σ F H env _ rp h)) fun k H1 ⟨F1, r1, s1, q1⟩ => ?_
  cases k with
  | true => exact ha.run B σ F1 H1 env D r1 q1
  | false => exact hb.run B σ F1 H1 env D r1 q1
def vRaise (c : Str) (ns : List Str) (dds : List D) (ts : TDs) : TS5 := fun D env => ts env fun xs => (xs ++ dds).length = ns.length ∧ xs.length ≤ 100 ∧ D.xc (excD c ns (xs ++ dds))
theorem qv_raise {cx : Str} {C fI : Addr} {np cpos : Pos} {k : Nat} {fd : FuncData} {ps ns : List Str} {dvs : List V} {dfs : List Value} {dds : List D} (ac : PySem.W.nsIn X.K mainGlobals cx = some (some (.ref C))) (xi : excInI X.K C fI = true)
    (F : FnOk X.prog X.w X.K X.mg X.base CX0 k fI fd ps (spI C ns)) (hfn : PySem.W.typeIn X.K (.ref fI) = some (.type "function")) (hb : Binds X.K fd ps dfs) (hd : Vals dvs dfs) (hdd : ∀ G, DenL X.K G dds dvs) (hr : Room (k + 1) X.A)
    (ha : QA X.nox (e :: es) ts) (hst : X.stack = X.env :: X.outer := by rfl) (hf : X.env.frame = some X.env.locals := by rfl) (hc : X.calm = true := by rfl) (hg : Gl X cx := by rfl) (hdb : (cx == ("__debug__" : Str)) = false := by decide)
    (he : starEach (e :: es) X.env = (false, eval e X.env) :: starEach es X.env := by exact star_of rfl) (hplain : (backTo cpos (starEach es X.env)).any (·.1) = false := by rfl) :
    QV X (.Raise (some (.Call (.Name cx np) (e :: es) [] cpos)) none pos) (vRaise cx ns dds ts) := by
  refine ⟨fun B σ F0 H env D rp h pins s I => ?_⟩
  have I0 := I.unwish
  obtain ⟨bm, N, nm, qn, bs, hdct, sn, sub, ab, col, dd, k0, k1, k2, k3, k5, mN, cd, hCo, hN, hi, T, hcl, hdc, hm⟩ := xi_obj I0.ok.mod.kin xi
  have hC : X.mg cx = some (.ref C) := PySem.W.mg_of I0.ok.mod.kin I0.ok.mod.glob ac
  refine raise_callI (C := C) (nm := nm) (qn := qn) (N := N) (bs := bs) (bm := bm) (hdct := hdct) (sn := sn) (sub := sub) (ab := ab) (col := col) (dd := dd) (k0 := k0) (k1 := k1) (k2 := k2) (k3 := k3) (k5 := k5) (nid := "ValueError.__new__")
    (T.hasType (by decide +kernel)) (I0.ok.hd hc) (by rw [he]; show (false || (backTo cpos (starEach es X.env)).any (·.1)) = false; rw [hplain]; rfl) (ld_glob I hg hC ⟨rfl, ?_⟩ hdb)
  have hw := wA_nox (E := XVn X B D.xc) (ha B σ F0 H env _ rp h) cpos pins s I
  rw [he] at hw ⊢
  refine Calls.evalArgs_plain (wpAny_mono hw (fun us s2 ⟨vs, H2, I2, rv, F2, ds, r2, s2', d2, hl, h100, q2⟩ => ⟨rfl, I2.bk _ _ hCo, ?_⟩) fun _ _ y => y)
  have I2' := I2.unwish
  have hu : us.length ≤ sizeLine := by rw [← rv.length, ← d2.length, sizeLine_eq]; omega
  obtain ⟨oI, hoI, hcI⟩ : ∃ oI, s2.heap.get? fI = some oI ∧ oI.cls = .type "function" := by
    unfold PySem.W.typeIn at hfn
    cases q : X.K.lookup fI with
    | none => simp [q] at hfn
    | some o => simp [q] at hfn; exact ⟨o, I2'.kIn _ _ q, hfn⟩
  obtain ⟨h2, g2, dr2, t2, os2⟩ := s2
  refine call_initT PySem.F.excBase_ValueError (T.keeps I2.bk) (I2.bk _ _ hCo) (hN.keeps I2.bk) hi hoI hcI (fun h' x m => ?_) hu
  obtain ⟨tA, ht, _⟩ := m.there
  have hx0 : H2 x = none := by
    cases q : H2 x with
    | none => rfl
    | some u => obtain ⟨ob, z⟩ := ObjOk.at (I2'.hok x u q); rw [m.new] at z; cases z
  have new0 : excNew x C none h' := ⟨_, _, ht, rfl, rfl, rfl, rfl⟩
  have ok3 : HOk X.prog X.w (upd H2 x (.ext (excNew x C none))) h' := fun b u e => by
    by_cases z : b = x
    · subst z; rw [upd_same] at e; cases e; exact ext_new new0
    · rw [upd_ne z] at e
      exact (I2'.hok b u e).stay (fun c v _ q => m.keeps c v q) (fun c q => by rw [upd_ne (ne_of_none q hx0)]; exact q) fun c xs q => by rw [upd_ne (ne_of_none q hx0)]; exact q
  have un3 : Un (frs X.stack) [] H2 (upd H2 x (.ext (excNew x C none))) h2 h' := ⟨fun b o e _ _ _ => m.keeps b o e, fun b o e _ _ _ => ⟨o.slots, m.keeps b o e⟩, fun b o e n _ => by rw [upd_ne (fun z => by subst z; rw [m.new] at e; cases e)]; exact n,
    fun b o e _ => ⟨o, m.keeps b o e⟩, fun b xs q => by rw [upd_ne (ne_of_none q hx0)]; exact q, fun b o u q => by rw [upd_ne (ne_of_none q hx0)]; exact q, fun b ps q => ⟨#[], by rw [upd_ne (ne_of_none q hx0), q]; simp⟩⟩
  have I3 : Inv X pins σ (upd H2 x (.ext (excNew x C none))) ⟨h', g2, dr2, t2, os2⟩ := I2'.call' rfl un3 ok3 I2'.bare fun b z => absurd z (by simp)
  have r2' : Vals (V.ref x :: (vs ++ dvs)) (Value.ref x :: (us ++ dfs)) := .cons rfl (rv.append hd)
  have hl2 : (vs ++ dvs).length = ns.length := by rw [← hl, List.length_append, List.length_append, d2.length, (hdd F2).length]
  have hsp : spI C ns (V.ref x :: (vs ++ dvs)) (upd H2 x (.ext (excNew x C none))) (fun v H' => v = .non ∧ ∃ dx, H2 dx = none ∧ dx ≠ x ∧ H' = upd (upd H2 x (.ext (excNew x C (some dx)))) dx (.ext (xdP dx (ns.zip (vs ++ dvs))))) (fun _ _ _ => False) :=
    ⟨x, vs ++ dvs, rfl, hl2, upd_same, fun dx hdx => by
      have ne : dx ≠ x := fun z => by subst z; rw [upd_same] at hdx; cases hdx
      rw [upd_ne ne] at hdx
      exact ⟨rfl, dx, hdx, ne, by rw [upd_upd]⟩⟩
  have hl3 : (Value.ref x :: us ++ dfs).length = ps.length := by
    have e := r2'.length
    rw [F.len _ _ _ _ hsp] at e
    exact e.symm
  refine wpAny_call (codeAny_mono (F.run _ X.stack _ _ ⟨Value.ref x :: us, []⟩ (Value.ref x :: (us ++ dfs)) _ _ _ (hr.make C us []) (I3.env0.make C us []) (hb _ (Value.ref x :: us) I3.kIn hl3) r2' hsp) fun r s' hq => ?_)
  cases r with
  | error ex => exact False.elim hq
  | ok fl =>
    cases fl with
    | next => exact False.elim hq
    | brk => exact False.elim hq
    | cont => exact False.elim hq
    | ret u =>
      obtain ⟨v, H', os', bare', un', hok', rvu, ev, dx, hdx, ne, eH⟩ := hq
      subst ev
      obtain rfl : u = Value.none := rvu
      refine ⟨rfl, ?_⟩
      have I4 : Inv X pins σ H' s' := I3.call' os' un' hok' bare' fun b z => absurd z (by simp)
      have hHx : H' x = some (.ext (excNew x C (some dx))) := by rw [eH, upd_ne (Ne.symm ne), upd_same]
      have hHd : H' dx = some (.ext (xdP dx (ns.zip (vs ++ dvs)))) := by rw [eH, upd_same]
      have hHo : ∀ b, b ≠ x → H' b = upd H2 dx (.ext (xdP dx (ns.zip (vs ++ dvs)))) b := fun b hb => by
        rw [eH]
        by_cases z : b = dx
        · subst z; rw [upd_same, upd_same]
        · rw [upd_ne z, upd_ne z, upd_ne hb]
      obtain ⟨⟨oe, fs, e1, e2, e3, e4, e5⟩, _⟩ := (show ObjOk X.prog X.w H' s'.heap x (.ext (excNew x C (some dx))) from hok' x _ hHx)
      refine ⟨x, oe, fs, rfl, I4.bk _ _ hCo, e1, e2, e4, e5, XV.toN hst hf ?_⟩
      obtain ⟨rp3, sm3⟩ := r2.laid (o := .ext (xdP dx (ns.zip (vs ++ dvs)))) hdx
      have hxH : upd H2 dx (.ext (xdP dx (ns.zip (vs ++ dvs)))) x = none := by rw [upd_ne (Ne.symm ne)]; exact hx0
      refine ⟨pins, x, cx, C, dx, σ, _, _, env, ns, ds ++ dds, vs ++ dvs, rfl, ⟨H2, ⟨h2, g2, dr2, t2, os2⟩, I2', os', bare', ?_, ?_, m.new, hxH, oe, fs, e1, e2, e3, e4, .inl e5⟩, rp3, ac, upd_same, (DenL.mono sm3 _ _ d2).append (hdd _), hl2, q2⟩
      · have nx : ∀ b o, h2.get? b = some o → b ≠ x := fun b o e z => by subst z; rw [m.new] at e; cases e
        have n3 : ∀ b o, h2.get? b = some o → H2 b = none → upd H2 x (.ext (excNew x C none)) b = none := fun b o e n => by rw [upd_ne (nx b o e)]; exact n
        refine ⟨fun b o e n hb hx => un'.keep b o (m.keeps b o e) (n3 b o e n) hb hx, fun b o e n hb hx => un'.slot b o (m.keeps b o e) (n3 b o e n) hb hx, fun b o e n hx => ?_, fun b o e hx => un'.there b o (m.keeps b o e) hx, fun b xs q => ?_, fun b o u q => ?_, fun b ps q => ?_⟩
        · have := un'.free b o (m.keeps b o e) (n3 b o e n) hx
          rw [hHo b (nx b o e)] at this; exact this
        · rw [upd_ne (ne_of_none q hdx)]; exact q
        · rw [upd_ne (ne_of_none q hdx)]; exact q
        · exact ⟨#[], by rw [upd_ne (ne_of_none q hdx), q]; simp⟩
      · intro b u e
        have nb : b ≠ x := fun z => by subst z; rw [hxH] at e; cases e
        have e' : H' b = some u := by rw [hHo b nb]; exact e
        refine (hok' b u e').stay (fun _ _ _ q => q) (fun c q => ?_) fun c xs q => ?_
        · have nc : c ≠ x := fun z => by subst z; rw [hHx] at q; cases q
          rw [← hHo c nc]; exact q
        · have nc : c ≠ x := fun z => by subst z; rw [hHx] at q; cases q
          rw [← hHo c nc]; exact q
end
end L2.L3
set_option Elab.async false
set_option linter.all false
set_option maxRecDepth 100000
set_option maxHeartbeats 4000000
namespace L2.L3
open PySem PySem.Spec PyProof.Rows
def vturns (g : TG3) (tb : TS5) (Z : Ends5) : List D → En → Prop
  | [], env => Z.nx env
  | x :: xs, env => g x env fun env' => tb { Z with nx := vturns g tb Z xs, ct := vturns g tb Z xs, bk := Z.nx } env'
def vForR (f : List D → (Int → Nat → Prop) → Prop) (ts : TDs) (g : TG3) (tb : TS5) : TS5 := fun D env => ts env fun xs => f xs fun lo n => vturns g tb D (intsD lo n) env
section
variable {X : Cx} {a : Expr} {body : List Stmt} {p : TS5} {ts : TDs} {pos : Pos} {tg : Expr} {g : TG3}
theorem for_intsV (hg : QG X.nox tg g) (hb : QVs X body p) {B : Base} {D : Ends5} {lo : Int} {n : Nat} {σ : St} {F1 H1 : Hp} {env : En} (r1 : Rep X.K B F1 H1 σ env) (q1 : vturns g p D (intsD lo n) env) :
    ∃ W : Nat → Nat → St → Hp → Prop, (∃ m, W 0 m σ H1) ∧ ∀ i m σ H, W i m σ H → ((Itr lo n).stop i H ∧ (RS X B D.toEnds3).nx σ H) ∨ ((Itr lo n).go i H ∧ ∃ N : St → Hp → Prop, (∀ σ' H', N σ' H' → ∃ m', m' < m ∧ W (i + 1) m' σ' H') ∧
        ∀ x H', (Itr lo n).yld i H x H' → wG (X.wish (XVn X B D.xc)) tg x σ H' fun σ2 H2 => wSs (X.wish (XVn X B D.xc)) body { RS X B D.toEnds3 with nx := N, ct := N, bk := (RS X B D.toEnds3).nx } σ2 H2) := by
  have hl : (intsD lo n).length = n := by simp [intsD]
  refine ⟨fun i m σ H => m = n - i ∧ i ≤ n ∧ ∃ F env, Rep X.K B F H σ env ∧ vturns g p D ((intsD lo n).drop i) env, ⟨n, by simp, Nat.zero_le _, F1, env, r1, by simpa using q1⟩, ?_⟩
  rintro i m σ2 H2 ⟨rfl, hi2, F2, env2, r2, q2⟩
  by_cases hlt : i < n
  · have hdx : (intsD lo n)[i]? = some (L3.D.int (lo + (i : Int))) := by simp [intsD, hlt]
    rw [drop_cons hdx] at q2
    refine .inr ⟨hlt, fun σ' H' => ∃ F env, Rep X.K B F H' σ' env ∧ vturns g p D ((intsD lo n).drop (i + 1)) env, fun σ' H' ⟨F', env', r', q'⟩ => ⟨n - (i + 1), by omega, rfl, by omega, F', env', r', q'⟩, fun y H' hy => ?_⟩
    obtain ⟨rfl, rfl⟩ := hy
    refine wG_mono (wG_nox (hg B σ2 F2 _ env2 _ _ _ r2 den_int q2)) fun σ3 H3 ⟨F3, env3, r3, s3, q3⟩ => ?_
    exact wSs_mono (hb.run B σ3 F3 H3 env3 { D with nx := vturns g p D ((intsD lo n).drop (i + 1)), ct := vturns g p D ((intsD lo n).drop (i + 1)), bk := D.nx } r3 q3) (fun _ _ q => q) (fun _ _ q => q) (fun _ _ q => q) (fun _ _ q => q)
  · have e : i = n := by omega
    subst e
    rw [List.drop_eq_nil_of_le (by omega)] at q2
    exact .inl ⟨Nat.le_refl _, F2, env2, r2, q2⟩
theorem qv_forR1 {p1 pos2 : Pos} (hc : X.calm = true) (hgl : Gl X "range") (hm : X.mg "range" = none) (ha : QA X.nox [a] ts) (hg : QG X.nox tg g) (hb : QVs X body p)
    (hst : starEach [a] X.env = [(false, eval a X.env)] := by rfl) (hs : ∀ x, foldedSetIterable (.Call (.Name "range" p1) [a] [] pos2) X.env x = pure x := by intro _; rfl) : QV X (.For tg (.Call (.Name "range" p1) [a] [] pos2) body [] pos) (vForR rng1 ts g p) := by
  refine ⟨fun B σ F H env D rp h => ?_⟩
  refine wS_of (ps_for (X := X.wish (XVn X B D.xc)) PassesOwn.looking hc (pi_range1 hgl hm pa_w hst) pg_w pss_w hs) ?_
  refine wA_mono (wA_nox (ha B σ F H env _ rp h)) fun vs H1 ⟨F1, ds, r1, s1, d1, q1⟩ => ?_
  dsimp only at q1; unfold rng1 at q1
  split at q1
  · simp only [DenL, Den] at d1
    obtain ⟨v, r, rfl, rfl, rfl⟩ := d1
    exact ⟨_, rfl, q1.1.1, q1.1.2, for_intsV hg hb r1 q1.2⟩
  · exact q1.elim
theorem vturns_of {tb : TS5} {Z : Ends5} {xs : List D} (I : Nat → En → Prop)
    (step : ∀ (i : Nat) (x : D) (env : En) (N : En → Prop), xs[i]? = some x → I i env → (∀ e, I (i + 1) e → N e) → g x env fun e => tb { Z with nx := N, ct := N, bk := Z.nx } e)
    (done : ∀ env, I xs.length env → Z.nx env) {env : En} (h0 : I 0 env) : vturns g tb Z xs env := by
  have go : ∀ (n k : Nat) (env : En), k + n = xs.length → I k env → vturns g tb Z (xs.drop k) env := by
    intro n
    induction n with
    | zero =>
      intro k env hk h
      rw [List.drop_eq_nil_of_le (by omega)]
      exact done env (by rw [← hk]; exact h)
    | succ n ih =>
      intro k env hk h
      have hx : xs[k]? = some (xs[k]'(by omega)) := by simp
      rw [drop_cons hx]
      exact step k _ env _ hx h fun e he => ih (k + 1) e (by omega) he
  simpa using go xs.length 0 env (by omega) h0
end
abbrev FwV := List D → (D → Prop) → (D → Prop) → Prop
def spV (K : PySem.W.Frag) (f : FwV) : Sp := fun vs H Q E => ∃ (F : Hp) (ds : List D) (P : D → Prop) (R : D → Prop), Same F H ∧ DenL K F ds vs ∧ f ds P R ∧
  (∀ (d : D) (v : V) (F' H' : Hp), Same F F' → Same H H' → Same F' H' → (∀ p, H p ≠ none → F p = none → F' p = none) → Den K F' d v → P d → Q v H') ∧
  ∀ (c : Str) (C dx : Addr) (F' H' : Hp) (ns : List Str) (xs : List D) (us : List V), Same F F' → Same H H' → Same F' H' → (∀ p, H p ≠ none → F p = none → F' p = none) → PySem.W.nsIn K mainGlobals c = some (some (.ref C)) → F' dx = some (.ext (xdP dx (ns.zip us))) → DenL K F' xs us → us.length = ns.length → R (excD c ns xs) → E (.ref C) (some dx) H'
structure KnownV (P : Program) (w : World) (K : PySem.W.Frag) (mg : Str → Option Value) (base : Heap) (k : Nat) (x : Str) (f : FwV) : Prop where
  ex : ∃ (fa : Addr) (fd : FuncData) (ps : List Str), FnOk P w K mg base (CXe P w) k fa fd ps (spV K f) ∧ mg x = some (.ref fa) ∧ PySem.W.keepIn K (.ref fa) = true ∧ Binds K fd ps []
section
variable {P : Program} {w : World} {K : PySem.W.Frag} {mg : Str → Option Value} {base : Heap}
theorem XVn.leave {N : List Str} {qual : Str} {scope : Scope} {f : Addr} {cd : Value} {A : Around} {outer : List Env} {s0 : Shared} {H0 : Hp} {E : XK} {B : Base} {xc : D → Prop} {e : Value} {s' : Shared}
    (t : XVn (cxOf (CXe P w) P w K mg base N qual scope f cd A outer s0 H0 E) B xc e s')
    (q : ∀ (c : Str) (C dx : Addr) (σ' : St) (H' F' : Hp) (env' : En) (ns : List Str) (xs : List D) (us : List V), Rep K B F' H' σ' env' → PySem.W.nsIn K mainGlobals c = some (some (.ref C)) → F' dx = some (.ext (xdP dx (ns.zip us))) → DenL K F' xs us → us.length = ns.length → xc (excD c ns xs) → E (.ref C) (some dx) H') :
    (cxOf (CXe P w) P w K mg base N qual scope f cd A outer s0 H0 E).xe e s' := by
  show wpAny (model P w) _ (leaving _ e) _ _ s'
  unfold leaving
  refine wpAny_bind (wpAny_mono t (fun _ s2 z => wpAny_mono z (fun _ s3 y => ?_) fun _ _ y => y.elim) fun _ _ y => y.elim)
  obtain ⟨pins, a, c, C, dx, σ', H', F', env', ns, xs, us, rfl, t'', r, hc, hd, hl, hn, hx⟩ := y
  have I := t''.inv
  obtain ⟨Hc, sc, Ic, os, bare, un, hok, fl⟩ := t''
  refine ⟨a, .ref C, some dx, H', rfl, I.os, I.bare, I.base, I.hok, fl.older fun b o e => ?_, q c C dx σ' H' F' env' ns xs us r hc hd hl hn hx⟩
  exact Ic.base.there b o e (by show b ∉ ([] : List Addr); simp)
theorem Fun.knownV {x qual : Str} {st : Stmt} {fa : Addr} {fd : FuncData} {N ps : List Str} {k : Nat} {f : FwV} (F : Fun K x qual st fa fd) (S : FnScope N ps (defScope st)) (hmg : mg x = some (.ref fa)) (hb : Binds K fd ps [])
    (hl : ∀ ds Q R, f ds Q R → ds.length = ps.length)
    (hbody : ∀ (cdv : Value) (A : Around) (outer : List Env) (s : Shared) (H : Hp) (E : XK), Room k (A.deeper (envOfC qual (defScope st) s.heap.objs.size fa cdv)) →
      ∃ t, QVs (cxOf (CXe P w) P w K mg base N qual (defScope st) fa cdv A outer s H E) (defBody st) t ∧ ∀ ds (Q R : D → Prop), f ds Q R → t { nx := fun _ => Q .non, rt := Q, xc := R } (start3 N ds)) :
    KnownV P w K mg base (k + 1) x f := by
  refine ⟨fa, fd, ps, ?_, hmg, F.kp, hb⟩
  obtain ⟨oc, od, kV, doc, pm, an, cdv, ct, osl, rfl, lk, hcd⟩ := F.ex
  refine fn_of lk hcd S (fun vs H Q E h => ?_) fun A outer s H vs Q E hr h => ?_
  · obtain ⟨F0, ds, P, R, _, hd, hf, _⟩ := h
    rw [← hd.length]; exact hl ds _ _ hf
  · obtain ⟨F0, ds, P', R, fh, hd, hf, kk, kx⟩ := h
    obtain ⟨t, ht, hq⟩ := hbody cdv A outer s H E hr
    refine ⟨_, pss_w, ?_⟩
    have core := ht.run _ (start N vs) F0 H (start3 N ds) _ (start3_rep fh hd) (hq ds P' R hf)
    intro pins s1 I
    refine wpAny_mono (core pins s1 (I.wish _)) (fun fl s2 z => ?_) fun ex s2 z => ?_
    · refine SP_mono (SP.unwish z) (fun σ' H' ⟨F', env', r, q⟩ => ?_) (fun v H' ⟨F', d', r, dd, q⟩ => ?_) (fun _ _ ⟨_, _, _, q⟩ => q) (fun _ _ ⟨_, _, _, q⟩ => q)
      · exact kk .non .non F' H' r.f0 r.h0 r.fh (fun p h1 h2 => r.nf p ⟨h1, h2⟩) den_non q
      · exact kk d' v F' H' r.f0 r.h0 r.fh (fun p h1 h2 => r.nf p ⟨h1, h2⟩) dd q
    · exact XVn.leave z fun c C dx σ' H' F' env' ns xs us r hc hd hl hn hx => kx c C dx F' H' ns xs us r.f0 r.h0 r.fh (fun p h1 h2 => r.nf p ⟨h1, h2⟩) hc hd hl hn hx
end
abbrev TV := En → (D → Prop) → (D → Prop) → Prop
def XXV (X : Cx) (pins : List (Addr × Obj)) (σ : St) (B : Base) (env : En) (R : D → Prop) : Value → Shared → Prop := fun ex s' => ∃ (a : Addr) (c : Str) (C dx : Addr) (H' F' : Hp) (ns : List Str) (ds : List D) (vs : List V),
  ex = .ref a ∧ ThrownD X pins σ H' a (.ref C) (some dx) s' ∧ Rep X.K B F' H' σ env ∧ PySem.W.nsIn X.K mainGlobals c = some (some (.ref C)) ∧ F' dx = some (.ext (xdP dx (ns.zip vs))) ∧ DenL X.K F' ds vs ∧ vs.length = ns.length ∧ R (excD c ns ds)
structure QXV (X : Cx) (e : Expr) (t : TV) : Prop where
  of ::
  run : ∀ (B : Base) (σ : St) (F H : Hp) (env : En) (Q R : D → Prop), Rep X.K B F H σ env → t env Q R → ∀ (pins : List (Addr × Obj)) (s : Shared), Inv X pins σ H s →
    wpAny (model X.prog X.w) X.A (eval e X.env) (EP X pins σ (RV X B σ env F Q)) (XXV X pins σ B env R) s
def cCallV (f : FwV) (ts : TDs) : TV := fun env Q R => ts env fun xs => f xs Q R
section
variable {X : Cx} {e : Expr} {es : List Expr} {ts : TDs} {tx : TV} {p pos : Pos} {x : Str} {k : Nat} {f : FwV}
theorem q_callV (h : KnownV X.prog X.w X.K X.mg X.base k x f) (hr : Room k X.A) (ha : QA X.nox (e :: es) ts) (hg : Gl X x := by rfl) (hdb : (x == ("__debug__" : Str)) = false := by decide)
    (he : starEach (e :: es) X.env = (false, eval e X.env) :: starEach es X.env := by exact star_of rfl) (hpl : (backTo pos (starEach es X.env)).any (·.1) = false := by rfl) : QXV X (.Call (.Name x p) (e :: es) [] pos) (cCallV f ts) := by
  refine ⟨fun B σ F H env Q R rp hq pins s I => ?_⟩
  obtain ⟨fa, fd, ps, G, hm, hk, hb⟩ := h.ex
  refine wpAny_Call_Name_kw (ld_glob I hg hm ?_ hdb)
  have hw := wA_nox (E := XXV X pins σ B env R) (ha B σ F H env _ rp hq) pos pins s (I.wish _)
  refine PySem.W.callWith_K (h₀ := X.base) I.ok.mod.kin hk (thn hw fun us s1 ⟨vs, H1, I1, r, F1, ds, r1, s1', d1, hf⟩ => ⟨I1.kIn, ?_⟩) he hpl
  have I1' := I1.unwish
  have hsp : spV X.K f (vs ++ []) H1 (RV X B σ env F Q) (fun C dd H' => ∃ (c : Str) (C' dx : Addr) (F' : Hp) (ns : List Str) (xs : List D) (us : List V), C = .ref C' ∧ dd = some dx ∧ Rep X.K B F' H' σ env ∧ PySem.W.nsIn X.K mainGlobals c = some (some (.ref C')) ∧ F' dx = some (.ext (xdP dx (ns.zip us))) ∧ DenL X.K F' xs us ∧ us.length = ns.length ∧ R (excD c ns xs)) := by
    rw [List.append_nil]
    exact ⟨F1, ds, Q, R, r1.fh, d1, hf, fun d v F' H' a b c n hd q => ⟨F', d, r1.ext a c b n, s1'.trans a, hd, q⟩, fun c C dx F' H' ns xs us a b c' n hc hd hl hn hx => ⟨c, C, dx, F', ns, xs, us, rfl, rfl, r1.ext a c' b n, hc, hd, hl, hn, hx⟩⟩
  have hl : (us ++ []).length = ps.length := by
    have := G.len _ _ _ _ hsp
    rw [List.append_nil] at this ⊢
    rw [← r.length]; exact this
  refine wpAny_call (codeAny_mono (G.run X.A X.stack s1 H1 ⟨us, []⟩ (us ++ []) (vs ++ []) _ _ hr I1'.env0 (hb s1 us I1'.kIn hl) (by simpa using r) hsp) fun rs s' hq' => ?_)
  cases rs with
  | error ex =>
    obtain ⟨a, C, dd, H', rfl, os, bare, un, hok, fl, c, C', dx, F', ns, xs, us', rfl, rfl, r', rest⟩ := hq'
    exact ⟨a, c, C', dx, H', F', ns, xs, us', rfl, ⟨H1, s1, I1', os, bare, un, hok, fl⟩, r', rest⟩
  | ok fl =>
    cases fl with
    | ret u => exact I1'.after hq'
    | next => exact False.elim hq'
    | brk => exact False.elim hq'
    | cont => exact False.elim hq'
end
end L2.L3
set_option Elab.async false
set_option linter.all false
set_option maxRecDepth 100000
set_option maxHeartbeats 4000000
namespace L2.L3
open PySem PySem.Spec PyProof.Rows
section
variable {prog : Program} {w : World} {A : Around} {E : Value → Shared → Prop} {K : PySem.W.Frag} {x C : Addr} {ox od : Obj} {h : Heap} {g : Array GenState} {d : Drawn} {t : Nat} {os : OsState}
theorem xcd_class (O : XcOk K C) : PySem.W.findObj K C (some od) "__class__" = some (.bind (.builtin "getset_descriptor.__get__") (.builtin "object.__class__")) :=
  PySem.W.findObj_data (by obtain ⟨cd, hc, _⟩ := PySem.W.any_some O.dct; rw [hc]; rfl) O.fnd O.gt O.tk
theorem xcd_body {tk : Tok} {Q : Fin → Shared → Prop} (O : XcOk K C) (X : K.In h) (I : PySem.W.InstAt h x ox C (some od)) (hq : Q (.done (.ret (.ref C))) ⟨h, g, d, t, os⟩) :
    wpAny (model prog w) A (Builtin.«object.__getattribute__» ⟨[.ref x, .str "__class__" tk], []⟩) Q E ⟨h, g, d, t, os⟩ := by
  have L0 := I.type (M := model prog w)
  have L1 := PySem.W.looks_find (M := model prog w) X I (xcd_class O)
  unfold Builtin.«object.__getattribute__»
  refine wpAny_bind (wpAny_pure (wpAny_bind (wpAny_pure (wpAny_bind (L0.at (wpAny_bind (L1.at ?_)))))))
  show wpAny _ _ (Builtin.ObjectAttr.bindTo _ _ _ _) _ _ _
  unfold Builtin.ObjectAttr.bindTo
  refine wpAny_bind (wpAny_holding (wpAny_call (PySem.W.class_get (s := ⟨h, g, d, t, os⟩) (ox := ox) (od := some od) X I O.mro ?_)))
  exact wpAny_pure hq
theorem xcd_own {tk : Tok} {name : Str} {v : Value} {Q : Fin → Shared → Prop} (X : K.In h) (I : PySem.W.InstAt h x ox C (some od)) (hf : PySem.W.findObj K C (some od) name = some (.value v)) (hq : Q (.done (.ret v)) ⟨h, g, d, t, os⟩) :
    wpAny (model prog w) A (Builtin.«object.__getattribute__» ⟨[.ref x, .str name tk], []⟩) Q E ⟨h, g, d, t, os⟩ := by
  have L0 := I.type (M := model prog w)
  have L1 := PySem.W.looks_find (M := model prog w) X I hf
  unfold Builtin.«object.__getattribute__»
  refine wpAny_bind (wpAny_pure (wpAny_bind (wpAny_pure (wpAny_bind (L0.at (wpAny_bind (L1.at ?_)))))))
  exact wpAny_pure hq
theorem xcd_check {nameV : Value} {Q : Unit → Shared → Prop} (O : XcOk K C) (X : K.In h) (I : PySem.W.InstAt h x ox C (some od)) (hq : Q () ⟨h, g, d, t, os⟩) :
    wpAny (model prog w) A (checkBuiltinCall "BaseException.__getattribute__" ⟨[.ref x, nameV], []⟩) Q E ⟨h, g, d, t, os⟩ := by
  have kd : builtinKind "BaseException.__getattribute__" = some .slot := by decide +kernel
  have sp : splitId "BaseException.__getattribute__" = some ("BaseException", "__getattribute__") := by decide +kernel
  have ha := F.args_bexc_ga (.ref x) nameV
  have L0 := I.type (M := model prog w)
  have L2 : PySem.W.Looks (model prog w) h (isInstance (.ref x) (.type "BaseException")) true := L0.andThen (PySem.W.looks_subIn X O.sub)
  simp only [checkBuiltinCall, kd, sp]
  refine wpAny_bind (L2.at ?_)
  repeat (first | assumption | wp_step)
theorem xcd_getClass {Q : Option Value → Shared → Prop} (O : XcOk K C) (X : K.In h) (I : PySem.W.InstAt h x ox C (some od)) (hq : Q (some (.ref C)) ⟨h, g, d, t + 1, os⟩) : wpAny (model prog w) A (getAttr? (.ref x) "__class__") Q E ⟨h, g, d, t, os⟩ := by
  have L0 := I.type (M := model prog w)
  have L1 := PySem.W.looks_findIn (M := model prog w) X O.ga
  have L2 := PySem.W.looks_findIn (M := model prog w) X O.hk
  have FB := PySem.F.attrBase_ValueError
  unfold getAttr? getAttrBy? getAttrBy
  refine wpAny_bind (wpAny_mkText (wpAny_bind (wpAny_attempt (wpAny_holding (wpAny_bind (L0.at (wpAny_bind (L1.at ?_))))))))
  have n1 : (onTheHeap (Value.ref C) && Value.builtin "BaseException.__getattribute__" == Value.builtin "object.__getattribute__") = false := by
    rw [show (Value.builtin "BaseException.__getattribute__" == Value.builtin "object.__getattribute__") = false by decide +kernel]; rfl
  show wpAny _ _ (if (onTheHeap (Value.ref C) && Value.builtin "BaseException.__getattribute__" == Value.builtin "object.__getattribute__") = true then _ else _) _ _ _
  rw [n1, if_neg (by decide)]
  unfold getAttrByItsOwn
  refine wpAny_bind (L2.at (wpAny_bind (wpAny_attempt (wpAny_holding ?_))))
  unfold callGetattribute boundAndCalled
  rw [if_neg (by decide), FB.ga.bind]
  refine wpAny_bind (wpAny_pure ?_)
  refine wpAny_call (codeAny_call_builtin FB.ga.plain F.entry_bexc_ga (xcd_check O X I (xcd_body O X I ?_)))
  exact PySem.W.handed_on rfl (wpAny_pure hq)
theorem xcd_get {name : Str} {v : Value} {b : Bool} {Q : Value → Shared → Prop} (O : XcOk K C) (X : K.In h) (I : PySem.W.InstAt h x ox C (some od)) (hf : PySem.W.findObj K C (some od) name = some (.value v)) (hh : PySem.W.handedIn v = true) (hq : Q v ⟨h, g, d, t + 1, os⟩) :
    wpAny (model prog w) A (getAttr (.ref x) name b) Q E ⟨h, g, d, t, os⟩ := by
  have L0 := I.type (M := model prog w)
  have L1 := PySem.W.looks_findIn (M := model prog w) X O.ga
  have L2 := PySem.W.looks_findIn (M := model prog w) X O.hk
  have FB := PySem.F.attrBase_ValueError
  unfold getAttr getAttrBy
  refine wpAny_bind (wpAny_mkText (wpAny_holding (wpAny_bind (L0.at (wpAny_bind (L1.at ?_))))))
  have n1 : (onTheHeap (Value.ref C) && Value.builtin "BaseException.__getattribute__" == Value.builtin "object.__getattribute__") = false := by
    rw [show (Value.builtin "BaseException.__getattribute__" == Value.builtin "object.__getattribute__") = false by decide +kernel]; rfl
  show wpAny _ _ (if (onTheHeap (Value.ref C) && Value.builtin "BaseException.__getattribute__" == Value.builtin "object.__getattribute__") = true then _ else _) _ _ _
  rw [n1, if_neg (by decide)]
  unfold getAttrByItsOwn
  refine wpAny_bind (L2.at (wpAny_bind (wpAny_attempt (wpAny_holding ?_))))
  unfold callGetattribute boundAndCalled
  rw [if_neg (by cases b <;> decide), FB.ga.bind]
  refine wpAny_bind (wpAny_pure ?_)
  refine wpAny_call (codeAny_call_builtin FB.ga.plain F.entry_bexc_ga (xcd_check O X I (xcd_own X I hf ?_)))
  exact PySem.W.handed_on hh hq
theorem kitx_xcd (O : XcOk K C) : PySem.W.KitX K (.ref x) (.ref C) (fun h => ∃ ox od, PySem.W.InstAt h x ox C (some od)) where
  ty := fun _ _ _ ⟨_, _, I⟩ => I.type
  it := fun _ _ kin _ A Q E s keep q => let ⟨_, _, _, _, e⟩ := exc_cls O.dct; wpAny_bind (wpAny_loadPart (keep _ _ (kin _ _ e)) (wpAny_pure q))
  ne := fun h tp dd its n sl kin e => by
    obtain ⟨_, _, _, _, e1⟩ := exc_cls O.dct
    cases z : (Value.ref C == Value.ref tp) with
    | false => rfl
    | true =>
      cases eq_of_beq z
      cases (kin _ _ e1).symm.trans e
  ca := fun {prog w A E Q s} X p h => by
    obtain ⟨ox, od, I⟩ := p
    obtain ⟨hh, g, d, t, os⟩ := s
    exact xcd_getClass O X I h
end
theorem xcd_inst {X : Cx} {pins : List (Addr × Obj)} {σ : St} {H : Hp} {s : Shared} {a C dx : Addr} {fs : List (Str × V)} (I : Inv X pins σ H s) (h1 : H a = some (.ext (excAtD a C dx))) (h2 : H dx = some (.ext (xdP dx fs))) :
    ∃ (ox od : Obj) (mA : Str → Option Value), PySem.W.InstAt s.heap a ox C (some od) ∧ (∀ name, PySem.W.lookIn name od = some (mA name)) ∧ ∀ f, RelO (fs.lookup f) (mA f) := by
  obtain ⟨⟨o, vs, e1, e2, e3, e4⟩, _⟩ := (show ObjOk X.prog X.w H s.heap a (.ext (excAtD a C dx)) from I.hok a _ h1)
  obtain ⟨⟨mA, hn, hr, _⟩, _⟩ := (show ObjOk X.prog X.w H s.heap dx (.ext (xdP dx fs)) from I.hok dx _ h2)
  obtain ⟨od, ho, hl⟩ := lookIn_ns hn
  exact ⟨o, od, mA, ⟨e1, e2, by unfold PySem.W.notCls; rw [e4], by rw [e3]; exact ho⟩, hl, hr⟩
def isxDF (c : Str) (y : D) (b : Bool) (l : List D) (Q : D → Prop) : Prop := ∃ ns ds, l = [excD c ns ds, y] ∧ Q (.bl b)
def rIsxD (K : PySem.W.Frag) (C : Addr) (b : Bool) : List V → Hp → VK → Prop := fun xs H Q => ∃ a y dx fs, xs = [.ref a, y] ∧ H a = some (.ext (excAtD a C dx)) ∧ H dx = some (.ext (xdP dx fs)) ∧
  ((∃ n, y = .ty n ∧ PySem.W.kitOne K (.ref C) (.type n) = some b) ∨ (∃ C', y = .ref C' ∧ PySem.W.kitOne K (.ref C) (.ref C') = some b) ∨ ∃ t zs, y = .ref t ∧ SqT K H t zs ∧ ∀ us, Vals zs us → PySem.W.kitAny K (.ref C) us = some b) ∧ Q (.bl b) H
section
variable {X : Cx} {C : Addr} {b : Bool} {c : Str} {y : D} {a e2 : Expr} {ts : TDs} {p pos : Pos}
theorem call_isxD (O : XcOk X.K C) : CallR X (.builtin "isinstance") (rIsxD X.K C b) := by
  intro pins s σ H xs us Q I r h
  obtain ⟨x, y, dx, fs, rfl, hx, hdx, hy, q⟩ := h
  obtain ⟨u, w, rfl, rx, ry⟩ := vals2 r
  cases (show u = Value.ref x from rx)
  have fin : ∀ tk, EP X pins σ Q (.bool b) { s with toks := tk } := fun tk => ⟨.bl b, H, I.tok tk, rfl, q⟩
  have at_ : ∃ ox od, PySem.W.InstAt s.heap x ox C (some od) := let ⟨ox, od, _, z, _⟩ := xcd_inst I hx hdx; ⟨ox, od, z⟩
  rcases hy with ⟨n, rfl, e⟩ | ⟨C', rfl, e⟩ | ⟨t, zs, rfl, hq, e⟩
  · cases (show w = Value.type n from ry)
    exact PySem.W.kia_one (kitx_xcd O) I.kIn at_ e (fun z => nomatch z) fin
  · cases (show w = Value.ref C' from ry)
    exact PySem.W.kia_one (kitx_xcd O) I.kIn at_ e (fun z => nomatch z) fin
  · cases (show w = Value.ref t from ry)
    obtain ⟨its, vz, ⟨o, h1, h2, n, h3⟩, _⟩ := I.tuple hq
    obtain ⟨oc, od, odt, osl⟩ := o
    cases h2
    cases h3
    exact PySem.W.kia_tup (kitx_xcd O) I.kIn at_ h1 (e _ vz) (fun z => nomatch z) fin
theorem c3_isxD (ac : PySem.W.nsIn X.K mainGlobals c = some (some (.ref C))) (hk : KitD X.K C y b) : Call3 X (rIsxD X.K C b) (isxDF c y b) := by
  intro B σ F H env Q ds vs Z rp h hz hf
  obtain ⟨ns, xs, rfl, q⟩ := hf
  simp only [DenL] at h
  obtain ⟨v, r, rfl, hd, v', r', rfl, hd', rfl⟩ := h
  obtain ⟨a, C', dx, us, rfl, e, h1, h2, _, _⟩ := excD_den hd
  rw [ac] at e
  cases e
  refine ⟨a, v', dx, _, rfl, rp.fh _ _ h1, rp.fh _ _ h2, ?_, hz (.bl b) H F (.bl b) rp (Same.refl _) den_bl q⟩
  cases hk with
  | ty e => simp only [Den] at hd'; subst hd'; exact .inl ⟨_, rfl, e⟩
  | cls h e =>
    simp only [Den] at hd'
    obtain ⟨C'', rfl, e'⟩ := hd'
    rw [h] at e'
    cases e'
    exact .inr (.inl ⟨_, rfl, e⟩)
  | tup h e =>
    simp only [Den] at hd'
    obtain ⟨t, zs, rfl, hq, hl⟩ := hd'
    exact .inr (.inr ⟨t, zs, rfl, Same.seqT rp.fh hq, fun us hu => by rw [ClsL.vals h hl hu]; exact e⟩)
theorem q_isxD (c : Str) (y : D) (b : Bool) (hm : X.mg "isinstance" = none) (ac : PySem.W.nsIn X.K mainGlobals c = some (some (.ref C))) (O : XcOk X.K C) (hk : KitD X.K C y b) (ha : QA X [a, e2] ts) (hg : Gl X "isinstance" := by rfl)
    (he : starEach [a, e2] X.env = (false, eval a X.env) :: starEach [e2] X.env := by exact star_of rfl) (hpl : (backTo pos (starEach [e2] X.env)).any (·.1) = false := by rfl) : QE X (.Call (.Name "isinstance" p) [a, e2] [] pos) (cCall (isxDF c y b) ts) :=
  q_callB (call_isxD O) (c3_isxD ac hk) hg hm boot_isi' ha (he := he) (hpl := hpl)
theorem zip_look {K : PySem.W.Frag} {F : Hp} {f : Str} {d : D} : ∀ {ns : List Str} {ds : List D} {vs : List V}, DenL K F ds vs → (ns.zip ds).lookup f = some d → ∃ v, (ns.zip vs).lookup f = some v ∧ Den K F d v
  | [], _, _, _, h => by simp at h
  | _ :: _, [], _, _, h => by simp at h
  | n :: ns, x :: ds, vs, hd, h => by
    simp only [DenL] at hd
    obtain ⟨v, r, rfl, hx, hr⟩ := hd
    rw [List.zip_cons_cons, List.lookup_cons] at h ⊢
    cases e : (f == n) with
    | true => rw [e] at h; cases h; exact ⟨v, rfl, hx⟩
    | false => rw [e] at h; exact zip_look hr h
def cFldX (c f : Str) (ta : TD) : TD := fun env Q => ta env fun x => ∃ ns ds d, x = excD c ns ds ∧ (ns.zip ds).lookup f = some d ∧ Q d
theorem q_fldX {e : Expr} {ta : TD} (c f : Str) (ac : PySem.W.nsIn X.K mainGlobals c = some (some (.ref C))) (O : XcOk X.K C) (hn : PySem.W.findIn X.K (.ref C) f = some none) (he : QE X e ta) (hb : attributeBase e f X.env (eval e X.env) = eval e X.env := by rfl) :
    QE X (.Attribute e f pos) (cFldX c f ta) := by
  refine ⟨fun B σ F H env Q rp h pins s I => ?_⟩
  refine attr_of hb (thn (he B σ F H env _ rp h pins s I) fun u s1 ⟨x, H1, I1, rx, F1, dd, r1, s1', hd, ns, ds, d, ex, hl, q⟩ => ?_)
  subst ex
  obtain ⟨a, C', dx, us, rfl, e', h1, h2, hdl, _⟩ := excD_den hd
  rw [ac] at e'
  cases e'
  obtain rfl : u = Value.ref a := rx
  obtain ⟨ox, od, mA, J, hlk, hr⟩ := xcd_inst I1 (r1.fh _ _ h1) (r1.fh _ _ h2)
  obtain ⟨v, hv, dv⟩ := zip_look (F := F1) hdl hl
  obtain ⟨u', hu', ru⟩ := RelO.some_of (v := v) (o := mA f) (by rw [← hv]; exact hr f)
  obtain ⟨hh, g, dr, t, os⟩ := s1
  refine xcd_get O I1.kIn J (PySem.W.findObj_own O.dct hn rfl (by rw [hlk, hu'])) (handed_of ru) ?_
  exact ⟨v, H1, I1.tok _, ru, F1, d, r1, s1', dv, q⟩
end
theorem ThrownD.caughtD {X : Cx} {pins : List (Addr × Obj)} {σ : St} {H' : Hp} {a C dx : Addr} {s' : Shared} (t : ThrownD X pins σ H' a (.ref C) (some dx) s') : H' a = none ∧ Inv X pins σ (upd H' a (.ext (excAtD a C dx))) s' := by
  obtain ⟨Hc, sc, I, os, bare, un, hok, n0, na, oe, vs, he, hc, hdc, hd, _⟩ := t
  refine ⟨na, I.call' os ⟨un.keep, un.slot, fun b o e n hx => ?_, un.there, fun b xs e => ?_, fun b o u e => ?_, fun b ps e => ?_⟩ (fun b u e => ?_) bare fun b z => absurd z (by simp)⟩
  · have : b ≠ a := fun z => by subst z; rw [n0] at e; cases e
    rw [upd_ne this]; exact un.free b o e n hx
  · have q := un.tups b xs e
    rw [upd_ne (ne_of_none q na)]; exact q
  · have q := un.frzs b o u e
    rw [upd_ne (ne_of_none q na)]; exact q
  · obtain ⟨more, q⟩ := un.tbls b ps e
    exact ⟨more, by rw [upd_ne (ne_of_none q na)]; exact q⟩
  · by_cases z : b = a
    · subst z
      rw [upd_same] at e; cases e
      exact ⟨⟨oe, vs, he, hc, hdc, hd⟩, ⟨oe, he⟩, fun h h' ⟨o, vs, h1, h2⟩ k => ⟨o, vs, k o h1, h2⟩⟩
    · rw [upd_ne z] at e
      exact (hok b u e).stay (fun _ _ _ q => q) (fun c q => by rw [upd_ne (ne_of_none q na)]; exact q) fun c xs q => by rw [upd_ne (ne_of_none q na)]; exact q
def dTryR (i : Nat) (cls : Str) (tx : TV) (tb : TS3) : TS3 := fun D env => tx env D.rt fun x => (∃ ns ds, x = excD cls ns ds) ∧ tb { nx := fun _ => False, rt := D.rt } (env.set i (some (.d x)))
section
variable {X : Cx} {e : Expr} {tx : TV} {cls n : Str} {C fI : Addr} {np epos hpos pos : Pos} {b0 : Stmt} {body : List Stmt} {tb : TS3}
theorem qs_tryR (i : Nat) (hN : X.N.Nodup) (hst : X.stack = X.env :: X.outer) (hf : X.env.frame = some X.env.locals) (ac : PySem.W.nsIn X.K mainGlobals cls = some (some (.ref C))) (xi : excInI X.K C fI = true)
    (h : QXV X e tx) (hb : ∀ x, QSs (Cx.hand X x) (b0 :: body) tb) (hg : Gl X cls := by rfl) (hdb : (cls == ("__debug__" : Str)) = false := by decide) (hi : X.N[i]? = some n := by rfl)
    (hx : X.env.scope.names.lookup n = some .local := by rfl) :
    QS X (.Try [.Return (some e) epos] [.ExceptHandler (some (.Name cls np)) (some n) (b0 :: body) hpos] [] [] pos) (dTryR i cls tx tb) := by
  refine ⟨fun B σ F H env D rp ht pins s I => ?_⟩
  have hcls : (X.env.scope.kind == .class || (X.env.scope.kind == .module && X.env.locals != X.env.globals)) = false := by rw [I.ok.kind]; rfl
  have hmg : X.mg cls = some (.ref C) := PySem.W.mg_of I.ok.mod.kin I.ok.mod.glob ac
  have core := h.run B σ F H env _ _ rp ht pins s I
  refine wpAny_Try_except (wpAny_execs_cons (wpAny_Return_some (wpAny_mono core (fun v s1 ⟨x, H1, I1, r1, F1, d1, rp1, _, hd1, q1⟩ => ?_) fun ex s1 z => ?_)))
  · exact ⟨x, σ, H1, I1, r1, F1, d1, rp1.bare, hd1, q1⟩
  · obtain ⟨a, c, C', dx, H1, F1, ns, ds, vs, rfl, th, r1, hce, hdx, hdl, hlen, ⟨ns', ds', hxe⟩, hq1⟩ := z
    have fa : F1 a = none := r1.fnone th.caughtD.1
    have nda : dx ≠ a := fun z => by subst z; rw [fa] at hdx; cases hdx
    have hCC : C' = C := by
      obtain ⟨na, I0⟩ := th.caughtD
      obtain ⟨rp0, sm0⟩ := r1.laid (o := .ext (excAtD a C' dx)) na
      have hden : Den X.K (upd F1 a (.ext (excAtD a C' dx))) (excD c ns ds) (.ref a) := den_excD hce upd_same (by rw [upd_ne nda]; exact hdx) (DenL.mono sm0 _ _ hdl) hlen
      rw [hxe] at hden
      obtain ⟨a', C2, dx2, us, ea, e2, e3, _⟩ := excD_den hden
      cases ea
      rw [ac] at e2
      cases e2
      rw [upd_same] at e3
      injection e3 with e3
      injection e3 with e3
      have hh : excAtD a C' dx s1.heap := by
        obtain ⟨_, _, _, _, _, _, _, _, _, oe, fs, h1, h2, h3, h4, _⟩ := th
        exact ⟨oe, fs, h1, h2, h3, h4⟩
      have hh2 : excAtD a C dx2 s1.heap := e3 ▸ hh
      obtain ⟨o1, _, g1, g2, _⟩ := hh
      obtain ⟨o2, _, g3, g4, _⟩ := hh2
      rw [g1] at g3
      cases g3
      rw [g2] at g4
      cases g4
      rfl
    subst hCC
    refine th.note hst hf fun s2 th2 => ?_
    have I2 := Inv.hand th2.inv a
    refine wpAny_handleBy_cons (codeAny_handlers_test (ld_glob (X := Cx.hand X a) I2 hg hmg ?_ hdb)) (by intro q; cases q)
    obtain ⟨bm, N, nm, qn, bs, hdct, sn, sub, ab, col, dd, k0, k1, k2, k3, k5, mN, cd, hC, hNs, hni, TL, _⟩ := xi_obj I.ok.mod.kin xi
    have flc : ∃ ob, s2.heap.get? a = some ob ∧ ob.cls = .ref C' := by
      obtain ⟨_, _, _, _, _, _, _, _, _, oe, vs, he, hc, _⟩ := th2
      exact ⟨oe, he, hc⟩
    obtain ⟨ob, hob, hobc⟩ := flc
    obtain ⟨h2, g2, d2, t2, o2⟩ := s2
    refine wpAny_excMatches_sub_self (I2.bk _ _ hC) hob hobc (TL.hasType (by decide +kernel)) (codeAny_handlers_suite_as ?_)
    refine ThrownD.land th2 fun s3 th3 => ?_
    obtain ⟨na, I3⟩ := th3.caughtD
    obtain ⟨rp3, sm⟩ := r1.laid (o := .ext (excAtD a C' dx)) na
    refine store_ok (X := Cx.hand X a) (i := i) (v := .ref a) (Inv.hand I3 a) hN hi (.inl hx) rfl (fun s4 I4 => ?_) (.inr hx)
    have hden : Den X.K (upd F1 a (.ext (excAtD a C' dx))) (excD c ns ds) (.ref a) := den_excD hce upd_same (by rw [upd_ne nda]; exact hdx) (DenL.mono sm _ _ hdl) hlen
    have run := (hb a).run B _ _ _ _ { nx := fun _ => False, rt := D.rt } (rp3.set hden (by rw [I3.len]; exact (List.getElem?_eq_some_iff.mp hi).1)) hq1 pins s4 I4
    refine wpAny_mono run (fun f s5 z => ?_) fun _ _ z => False.elim z
    cases f with
    | next => obtain ⟨σ', H', _, F', env', _, q⟩ := z; exact q.elim
    | brk => obtain ⟨σ', H', _, F', env', _, q⟩ := z; exact q.elim
    | cont => obtain ⟨σ', H', _, F', env', _, q⟩ := z; exact q.elim
    | ret u =>
      obtain ⟨v, σ', H', I5, rv, q⟩ := z
      have I5' := Inv.unhand I.ok I5
      obtain ⟨m, hn, _⟩ := I5'.loc
      refine wpAny_nameGoes (show X.env.kindOf n = some .local from hx) hn hcls fun h' m' hn' hs' => ?_
      exact ⟨v, _, H', Inv.goes I5' hn' hs', rv, q⟩
end
end L2.L3
set_option Elab.async false
set_option linter.all false
set_option maxRecDepth 100000
set_option maxHeartbeats 4000000
namespace L2.L3
open PySem PySem.Spec PyProof.Rows
def clsBody : Stmt → List Stmt
  | .ClassDef (body := b) .. => b
  | _ => []
section
variable {X : Cx} {a b c e : Expr} {ta tb te : TD} {pos : Pos} {st : Stmt} {t : TS3}
def kPut (i : Nat) (tj : TD) : TG3 := fun x env Q => ∃ xs, env[i]? = some (some (.own xs)) ∧ tj env fun y => ∃ (j : Int) (k : Nat), y = .int j ∧ ixN xs.length j = some k ∧ Q (env.set i (some (.own (xs.set k x))))
theorem qg_put {x : Str} {px p2 : Pos} (i : Nat) (hb : QE X b tb) (hN : X.N[i]? = some x := by rfl) (hv : Vis X.env.scope x := by first | exact Or.inl rfl | exact Or.inr (Or.inl rfl) | exact Or.inr (Or.inr rfl)) (hd : (x == ("__debug__" : Str)) = false := by decide)
    (hcd : (x == ("__classdict__" : Str)) = false := by decide)
    (ha : ∀ v, assign (.Subscript (.Name x px) b p2) X.env v = (do
      let ov ← holding [v] (eval (.Name x px) X.env)
      let iv ← holding [v, ov] (eval b X.env)
      standAt p2
      holding [v, ov, iv] (setItem ov iv v)
      release [v, ov, iv] []) := by intro _; rfl) : QG X (.Subscript (.Name x px) b p2) (kPut i tb) := by
  refine ⟨fun B σ F H env Q d v rp hd' h => ?_⟩
  obtain ⟨xs, hx, q⟩ := h
  refine wG_of (pg_sub (pe_var hN hv hd hcd) pe_w set_list ha) ?_
  obtain ⟨p, vs, g1, g2, g3, g4, g5⟩ := rp.ov i xs hx
  refine ⟨.ref p, g1, ?_⟩
  refine wE_mono (hb B σ F H env _ rp q) fun z H2 ⟨F2, d2, r2, s2, dd2, j, k, hj, hk, q2⟩ => ?_
  subst hj
  simp only [Den] at dd2
  obtain ⟨p', vs', e1, e2, e3, e4, e5⟩ := r2.ov i xs hx
  rw [g1] at e1; cases e1
  exact ⟨p, vs', j, k, rfl, dd2, e2, by rw [← e5.length]; exact hk, F2, _, r2.change hx g1 (e5.set (Den.mono s2 _ _ hd') k), s2, q2⟩
def dPopI (i : Nat) (te : TD) : TS3 := fun Z env => ∃ xs, env[i]? = some (some (.own xs)) ∧ te env fun y => ∃ (k : Nat), y = .int k ∧ k < xs.length ∧ k < 2 ^ 62 ∧ Z.nx (env.set i (some (.own (xs.eraseIdx k))))
theorem qs_popI {x : Str} {px apos cpos : Pos} (i : Nat) (he : QE X e te) (hN : X.N[i]? = some x := by rfl) (hv : Vis X.env.scope x := by first | exact Or.inl rfl | exact Or.inr (Or.inl rfl) | exact Or.inr (Or.inr rfl)) (hd : (x == ("__debug__" : Str)) = false := by decide) (hcd : (x == ("__classdict__" : Str)) = false := by decide)
    (hbase : attributeBase (.Name x px) "pop" X.env (eval (.Name x px) X.env) = eval (.Name x px) X.env := by rfl)
    (hfew : ((backTo cpos (starEach [e] X.env)).all (fun x => !x.1) && (backToKw cpos (keywordEach [] X.env)).all (fun x => x.1.isSome)
      && decide (([e] : List Expr).length + ([] : List Keyword).length + (if ([] : List Keyword).isEmpty then 0 else 1) < 30)) = true := by rfl)
    (hline : (apos.endLine == cpos.line) = true := by rfl) (hst : starEach [e] X.env = (false, eval e X.env) :: starEach [] X.env := by exact star_of rfl) (hplain : (backTo cpos (starEach ([] : List Expr) X.env)).any (·.1) = false := by rfl)
    (hs : swapsWith (.Call (.Attribute (.Name x px) "pop" apos) [e] [] cpos) none pos.line X.env = pure false := by rfl) :
    QS X (.Expr (.Call (.Attribute (.Name x px) "pop" apos) [e] [] cpos) pos) (dPopI i te) := by
  refine ⟨fun B σ F H env D rp h => wS_of (ps_expr (pe_bm PySem.F.plainAttrs_list PySem.F.slot_list_pop PySem.F.type_list_pop mt_popAt (pe_var hN hv hd hcd) (pa_cons pe_w pa_nil hst) hbase hfew hline hst hplain) hs) ?_⟩
  obtain ⟨xs, hx, h⟩ := h
  obtain ⟨p, vs, h1, h2, h3, h4, h5⟩ := rp.ov i xs hx
  refine ⟨.ref p, h1, .inl ⟨rfl, vs, SqL.of h2⟩, ?_⟩
  refine wE_mono (he B σ F H env _ rp h) fun w H1 ⟨F1, d, r1, s1, d1, k, e1, hk, hk2, q1⟩ => ?_
  subst e1
  simp only [Den] at d1
  subst d1
  obtain ⟨p', vs', g1, g2, g3, g4, g5⟩ := r1.ov i xs hx
  rw [h1] at g1; cases g1
  have hl := g5.length
  obtain ⟨u, hu, du⟩ := g5.get (List.getElem?_eq_getElem hk)
  have hix : seqIndex? (k : Int) vs'.length = some k := (ixN_seq (n := vs'.length) (i := (k : Int)) (j := k) (by unfold ixN; rw [if_pos (by omega), if_pos (by omega)]; simp)).1
  exact ⟨p, vs', k, k, u, rfl, rfl, g2, by omega, by omega, hix, hu, F1, _, r1.change hx h1 (g5.eraseIdx k), q1⟩
def dFreezeM (i : Nat) (t : TS3) : TS3 := fun D env => (∃ xs, env[i]? = some (some (.own xs)) ∧ t D (env.set i (some (.d (.lst xs))))) ∨ (∃ x, env[i]? = some (some (.d x)) ∧ t D env)
theorem qs_freezeM (i : Nat) (h : QS X st t) : QS X st (dFreezeM i t) := by
  refine ⟨fun B σ F H env D rp hq => ?_⟩
  rcases hq with ⟨xs, hx, q⟩ | ⟨x, _, q⟩
  · exact (qs_freeze i h).run B σ F H env D rp ⟨xs, hx, q⟩
  · exact h B σ F H env D rp q
end
end L2.L3
local macro_rules | `(tactic| simp_all_arith! only [$ls,*]) => `(tactic| simp only [$ls,*, L2.L3.dSeq, L2.L3.dIf, L2.L3.dRet, L2.L3.dRetN, L2.L3.dNext, L2.L3.dBreak, L2.L3.dCont, L2.L3.dNever, L2.L3.dSet, L2.L3.dAsg, L2.L3.dPar_eq, L2.L3.two2_eq, L2.L3.dFor, L2.L3.dForR, L2.L3.dSetOwn, L2.L3.dAppend, L2.L3.dExtend, L2.L3.dFreeze, L2.L3.dPut, L2.L3.cVar, L2.L3.cC, L2.L3.cOp, L2.L3.cUn, L2.L3.cTest, L2.L3.cNot, L2.L3.cAnd, L2.L3.cOr, L2.L3.cAndV, L2.L3.cOrV, L2.L3.cNotV, L2.L3.cIf, L2.L3.cCall, L2.L3.cCons, L2.L3.cNil, L2.L3.cTup, L2.L3.cLst, L2.L3.cIsi, L2.L3.cFresh, L2.L3.cFew, L2.L3.cSl, L2.L3.cPart, L2.L3.cNoPart, L2.L3.cIxOwn, L2.L3.kName, L2.L3.kTup, L2.L3.kCons_eq, L2.L3.cons1_eq, L2.L3.cDisp, L2.L3.kNil, L2.L3.cTrue, L2.L3.start3, List.map_cons, List.map_nil, List.length_cons, List.length_nil, List.cons_append, List.nil_append, List.append_nil, List.getElem?_cons_zero, List.getElem?_cons_succ, List.getElem?_nil, List.set_cons_zero, List.set_cons_succ, Option.some.injEq, L2.L3.Lo.d.injEq, L2.L3.Lo.own.injEq, L2.L3.D.bl.injEq, L2.L3.D.int.injEq, exists_eq_left', exists_eq_left, Nat.reduceAdd, Nat.reduceSub, Nat.sub_self, Nat.add_one_sub_one, List.replicate_succ, List.replicate_zero, L2.L3.D.tup.injEq, List.cons.injEq, and_assoc, L2.L3.cComp, L2.L3.cCompR, L2.L3.ii_eq, L2.L3.addD_ii, L2.L3.addD_ll, L2.L3.addD_tt, L2.L3.addD_ss, L2.L3.negD_i, L2.L3.eqF_ii, L2.L3.neF_ii, L2.L3.eqF_ss, L2.L3.eqF_bb, L2.L3.absF_i, L2.L3.lenF_l, L2.L3.lenF_t, L2.L3.lenF_s, L2.L3.maxF_ii, L2.L3.minF_ii, L2.L3.intF_i, L2.L3.intF_b, L2.L3.listF_l, L2.L3.listF_t, L2.L3.tupleF_l, L2.L3.tupleF_t, L2.L3.itemsD_l, L2.L3.itemsD_t, L2.L3.slD_l, L2.L3.rng1_i, L2.L3.rng2_i, decide_eq_true_eq, true_and, and_true, if_true, if_false, Bool.false_eq_true, Bool.not_eq_true', decide_eq_false_iff_not, PySem.sizeLine_eq, Int.reduceToNat, Int.reducePow, Int.reduceMul, Int.reduceAdd, Int.reduceNeg, Int.reduceSub, Int.reduceLT, Int.reduceLE, Int.reduceEq, Nat.reduceEqDiff, decide_true, decide_false, Nat.reduceLeDiff, Nat.reduceLT, Bool.true_eq_false, Bool.not_true, Bool.not_false, Bool.not_not, L2.L3.dTry, L2.L3.cCallX, L2.L3.zRaise, L2.L3.zIf, L2.L3.zUp, L2.L3.zSeq, L2.L3.zRet, L2.L3.zSet, L2.L3.zExpr, L2.L3.isxF, L2.L3.isD_bb, L2.L3.isnD_bb, L2.L3.cListOf, L2.L3.listOfR_l, L2.L3.listOfR_t, L2.L3.kLst, L2.L3.D.lst.injEq, L2.L3.cChain, L2.L3.cLenOwn, L2.L3.cOwnT, L2.L3.dPop, L2.L3.cInG, L2.L3.cIxG, L2.L3.cListS, L2.L3.dInsert, L2.L3.dSetPop, L2.L3.cOwnNe, L2.L3.cListR, L2.L3.dForE, L2.L3.enD, L2.L3.cComp2, L2.L3.cCount, L2.L3.cRevT, L2.L3.dFdiv, L2.L3.eOf, L2.L3.ePop, L2.L3.eOp, L2.L3.eCall, L2.L3.aNilE, L2.L3.aConsE, L2.L3.dAsgE, L2.L3.dTryR, L2.L3.cCallV, L2.L3.vRaise, L2.L3.vIf, L2.L3.vUp, L2.L3.vSeq, L2.L3.vForR, L2.L3.isxDF, L2.L3.cFldX, L2.L3.kPut, L2.L3.dPopI, L2.L3.dFreezeM])
set_option Elab.async false
set_option linter.all false
set_option maxRecDepth 100000
set_option maxHeartbeats 4000000
namespace L2.L3
open PySem
structure M4 where
  a : Int
  b : Int
  c : Int
  d : Int
  deriving DecidableEq
namespace M4
def neg (m : M4) : M4 := ⟨-m.a, -m.b, -m.c, -m.d⟩
def det (m : M4) : Int := m.a * m.d - m.b * m.c
def Low (m : M4) : Prop := m.c < 0 ∨ (m.c = 0 ∧ m.d < 0)
instance (m : M4) : Decidable m.Low := inferInstanceAs (Decidable (_ ∨ _))
def up (m : M4) : M4 := if m.Low then m.neg else m
def B (n : Nat) (m : M4) : Prop := Bits n m.a ∧ Bits n m.b ∧ Bits n m.c ∧ Bits n m.d
def T (m : M4) : Prop := m.det = 1 ∧ (0 < m.c ∨ (m.c = 0 ∧ m.d = 1))
def one : M4 := ⟨1, 0, 0, 1⟩
theorem B.neg {n : Nat} {m : M4} (h : m.B n) : m.neg.B n := ⟨bits_neg h.1, bits_neg h.2.1, bits_neg h.2.2.1, bits_neg h.2.2.2⟩
theorem B.up {n : Nat} {m : M4} (h : m.B n) : m.up.B n := by
  unfold M4.up; split
  · exact h.neg
  · exact h
end M4
def isLet (c : Nat) : Prop := c = 115 ∨ c = 114 ∨ c = 113
def AltL : List Nat → Prop
  | x :: y :: r => ((x = 115) ↔ ¬ (y = 115)) ∧ AltL (y :: r)
  | _ => True
end L2.L3
set_option Elab.async false
set_option linter.all false
set_option maxRecDepth 100000
set_option maxHeartbeats 4000000
namespace L2.L3
open PySem
end L2.L3
set_option Elab.async false
set_option linter.all false
set_option maxRecDepth 100000
set_option maxHeartbeats 4000000
namespace L2.L3
open PySem
abbrev Z2 := Int × Int
def frD (x : Z2) : D := .tup [.int x.1, .int x.2]
def LowP (x : Z2) : Prop := x.2 < 0 ∨ (x.2 = 0 ∧ x.1 < 0)
instance (x : Z2) : Decidable (LowP x) := inferInstanceAs (Decidable (_ ∨ _))
def Fr (x : Z2) : Prop := Int.gcd x.1 x.2 = 1 ∧ (0 < x.2 ∨ (x.2 = 0 ∧ x.1 = 1))
theorem up_cases (m : M4) : m.up = m ∨ m.up = m.neg := by
  unfold M4.up; split
  · exact .inr rfl
  · exact .inl rfl
end L2.L3
set_option Elab.async false
set_option linter.all false
set_option maxRecDepth 100000
set_option maxHeartbeats 4000000
namespace L2.L3
open PySem
def B2 (n : Nat) (x : Z2) : Prop := Bits n x.1 ∧ Bits n x.2
theorem b2_le {n m : Nat} {x : Z2} (h : B2 n x) (hm : n ≤ m) : B2 m x := ⟨bits_le h.1 hm, bits_le h.2 hm⟩
theorem b2_10 : B2 1 ((1, 0) : Z2) := ⟨bitsL _ _ (by decide), bitsL _ _ (by decide)⟩
end L2.L3
set_option Elab.async false
set_option linter.all false
set_option maxRecDepth 100000
set_option maxHeartbeats 4000000
namespace L2.L3
open PySem
end L2.L3
set_option Elab.async false
set_option linter.all false
set_option maxRecDepth 100000
set_option maxHeartbeats 4000000
namespace L2.L3
open PySem
theorem eqD_fr (x y : Z2) : eqD (frD x) (frD y) = decide (x = y) := by
  simp only [frD, eqD, eqDs, Bool.and_true]
  rw [Bool.eq_iff_iff]; simp [Prod.ext_iff]
theorem dep_fr (x : Z2) : dep (frD x) = 1 := by simp [frD, dep, depL]
theorem eqF_fr {x y : Z2} {Q : D → Prop} : eqF (frD x) (frD y) Q = Q (.bl (decide (x = y))) := by
  unfold eqF DepOk; rw [dep_fr, dep_fr, eqD_fr]; simp
end L2.L3
set_option Elab.async false
set_option linter.all false
set_option maxRecDepth 100000
set_option maxHeartbeats 4000000
namespace L2.L3
open PySem
end L2.L3
set_option Elab.async false
set_option linter.all false
set_option maxRecDepth 100000
set_option maxHeartbeats 4000000
namespace L2.L3
open PySem
theorem M4y {m k : M4} (h1 : m.a = k.a) (h2 : m.b = k.b) (h3 : m.c = k.c) (h4 : m.d = k.d) : m = k := by cases m; cases k; simp_all
theorem neg_negW (m : M4) : m.neg.neg = m := by apply M4y <;> simp [M4.neg]
def Eqv (m k : M4) : Prop := m = k ∨ m = k.neg
theorem Eqv.refl (m : M4) : Eqv m m := .inl rfl
theorem Eqv.symm {m k : M4} (h : Eqv m k) : Eqv k m := by
  rcases h with rfl | rfl
  · exact .inl rfl
  · exact .inr (neg_negW k).symm
theorem Eqv.trans {m k l : M4} (h : Eqv m k) (g : Eqv k l) : Eqv m l := by
  rcases h with rfl | rfl
  · exact g
  · rcases g with rfl | rfl
    · exact .inr rfl
    · rw [neg_negW]; exact .inl rfl
theorem Eqv.up (m : M4) : Eqv m.up m := up_cases m
def ShortW (cs : List Nat) : Prop := AltL cs ∧ ∀ c ∈ cs, isLet c
theorem ShortW.tail {c : Nat} {r : List Nat} (h : ShortW (c :: r)) : ShortW r := by
  refine ⟨?_, fun x hx => h.2 x (List.mem_cons_of_mem _ hx)⟩
  cases r with
  | nil => trivial
  | cons y s => exact h.1.2
def DifS (p q : Int) : Prop := (p < 0 ∧ 0 < q) ∨ (q < 0 ∧ 0 < p)
instance (p q : Int) : Decidable (DifS p q) := inferInstanceAs (Decidable (_ ∨ _))
theorem ShortW.drop {cs : List Nat} (h : ShortW cs) : ∀ k, ShortW (cs.drop k)
  | 0 => by simpa using h
  | k + 1 => by
    have := ShortW.drop h k
    cases e : cs.drop k with
    | nil =>
      have : cs.drop (k + 1) = [] := by
        rw [List.drop_eq_nil_iff] at e ⊢; omega
      rw [this]; exact ⟨trivial, fun c hc => nomatch hc⟩
    | cons c r =>
      have e2 : cs.drop (k + 1) = r := by rw [← List.tail_drop, e]; rfl
      rw [e2]; rw [e] at this; exact this.tail
end L2.L3
set_option Elab.async false
set_option linter.all false
set_option maxRecDepth 100000
set_option maxHeartbeats 4000000
namespace L2.L3
open PySem
theorem ins_get {α : Type} (l : List α) (m : α) (j i : Nat) (hj : j ≤ l.length) : (l.take j ++ m :: l.drop j)[i]? = if i < j then l[i]? else if i = j then some m else l[i - 1]? := by
  have hl : (l.take j).length = j := by rw [List.length_take]; omega
  by_cases h1 : i < j
  · rw [if_pos h1, List.getElem?_append_left (by omega), List.getElem?_take_of_lt h1]
  · rw [if_neg h1, List.getElem?_append_right (by omega), hl]
    by_cases h2 : i = j
    · rw [if_pos h2, h2, Nat.sub_self]; rfl
    · rw [if_neg h2, show i - j = (i - j - 1) + 1 by omega, List.getElem?_cons_succ, List.getElem?_drop]
      congr 1; omega
structure RowOk (k : Nat) (row : List Z2) : Prop where
  len : row.length = k + 3
  first : row[0]? = some (-1, 0)
  last : row[k + 2]? = some (1, 0)
  det : ∀ (i : Nat) (p r : Z2), row[i]? = some p → row[i + 1]? = some r → p.1 * r.2 - p.2 * r.1 = -1
  low : ∀ (i : Nat) (p : Z2), row[i]? = some p → 0 < i → i < k + 2 → 1 ≤ p.2
  nought : ∃ i, 0 < i ∧ i < k + 2 ∧ row[i]? = some (0, 1)
  bits : ∀ p ∈ row, B2 (k + 2) p
theorem row0 : RowOk 0 [(-1, 0), (0, 1), (1, 0)] where
  len := rfl
  first := rfl
  last := rfl
  det := fun i p r h1 h2 => by
    match i with
    | 0 => cases h1; cases h2; decide
    | 1 => cases h1; cases h2; decide
    | 2 => cases h2
    | i + 3 => cases h1
  low := fun i p h h0 h1 => by
    have : i = 1 := by omega
    subst this; cases h; decide
  nought := ⟨1, by decide, by decide, rfl⟩
  bits := fun p hp => by
    simp only [List.mem_cons, List.not_mem_nil, or_false] at hp
    rcases hp with rfl | rfl | rfl <;> exact ⟨bitsL _ _ (by decide), bitsL _ _ (by decide)⟩
theorem row_in {k : Nat} {row : List Z2} (h : RowOk k row) {at_ : Nat} (ha : at_ < k + 2) {p r : Z2} (hp : row[at_]? = some p) (hr : row[at_ + 1]? = some r) :
    RowOk (k + 1) (row.take (at_ + 1) ++ (p.1 + r.1, p.2 + r.2) :: row.drop (at_ + 1)) := by
  have hl := h.len
  have g := fun i => ins_get row (p.1 + r.1, p.2 + r.2) (at_ + 1) i (by omega)
  have hd := h.det at_ p r hp hr
  have pl : 0 ≤ p.2 := by
    by_cases z : at_ = 0
    · subst z; rw [h.first] at hp; cases hp; decide
    · have := h.low at_ p hp (by omega) ha; omega
  have rl : 0 ≤ r.2 := by
    by_cases z : at_ + 1 = k + 2
    · rw [z, h.last] at hr; cases hr; decide
    · have := h.low (at_ + 1) r hr (by omega) (by omega); omega
  have ne : ¬ (p.2 = 0 ∧ r.2 = 0) := fun ⟨a, b⟩ => by rw [a, b] at hd; simp at hd
  refine ⟨by simp; omega, ?_, ?_, fun i x y h1 h2 => ?_, fun i x h1 h0 h2 => ?_, ?_, fun x hx => ?_⟩
  · rw [g, if_pos (by omega)]; exact h.first
  · rw [g, if_neg (by omega), if_neg (by omega)]; exact h.last
  · rw [g] at h1 h2
    by_cases c1 : i < at_
    · rw [if_pos (by omega)] at h1 h2; exact h.det i x y h1 h2
    · by_cases c2 : i = at_
      · subst c2
        rw [if_pos (by omega), hp] at h1
        rw [if_neg (by omega), if_pos rfl] at h2
        cases h1; cases h2
        show p.1 * (p.2 + r.2) - p.2 * (p.1 + r.1) = -1
        grind
      · by_cases c3 : i = at_ + 1
        · subst c3
          rw [if_neg (by omega), if_pos rfl] at h1
          rw [if_neg (by omega), if_neg (by omega), Nat.add_sub_cancel, hr] at h2
          cases h1; cases h2
          show (p.1 + r.1) * r.2 - (p.2 + r.2) * r.1 = -1
          grind
        · rw [if_neg (by omega), if_neg c3] at h1
          rw [if_neg (by omega), if_neg (by omega)] at h2
          exact h.det (i - 1) x y h1 (by rw [show i - 1 + 1 = i + 1 - 1 by omega]; exact h2)
  · rw [g] at h1
    by_cases c1 : i < at_ + 1
    · rw [if_pos c1] at h1; exact h.low i x h1 h0 (by omega)
    · rw [if_neg c1] at h1
      by_cases c2 : i = at_ + 1
      · rw [if_pos c2] at h1; cases h1
        show 1 ≤ p.2 + r.2
        omega
      · rw [if_neg c2] at h1; exact h.low (i - 1) x h1 (by omega) (by omega)
  · obtain ⟨i, h0, h1, h2⟩ := h.nought
    by_cases c1 : i < at_ + 1
    · exact ⟨i, h0, by omega, by rw [g, if_pos c1]; exact h2⟩
    · exact ⟨i + 1, by omega, by omega, by rw [g, if_neg (by omega), if_neg (by omega), Nat.add_sub_cancel]; exact h2⟩
  · have hm : ∀ y ∈ row, B2 (k + 1 + 2) y := fun y hy => b2_le (h.bits y hy) (by omega)
    rcases List.mem_append.mp hx with hx | hx
    · exact hm x (List.mem_of_mem_take hx)
    · rcases List.mem_cons.mp hx with rfl | hx
      · have b1 := h.bits p (List.mem_of_getElem? hp)
        have b2 := h.bits r (List.mem_of_getElem? hr)
        have e : ∀ {x y : Int}, Bits (k + 2) x → Bits (k + 2) y → Bits (k + 1 + 2) (x + y) := fun hx hy => by
          have := bits_add hx hy
          rw [Nat.max_self] at this
          exact bits_le this (by omega)
        exact ⟨e b1.1 b2.1, e b1.2 b2.2⟩
      · exact hm x (List.mem_of_mem_drop hx)
structure FracOk (n : Nat) (fs : List Z2) : Prop where
  len : fs.length = n
  two : 2 ≤ n
  most : n ≤ 22
  first : fs[0]? = some (1, 0)
  det0 : ∀ p, fs[1]? = some p → p.2 = 1
  det : ∀ (i : Nat) (p r : Z2), 0 < i → fs[i]? = some p → fs[i + 1]? = some r → p.1 * r.2 - p.2 * r.1 = -1
  last : ∀ p, fs[n - 1]? = some p → p.2 = 1
  low : ∀ (i : Nat) (p : Z2), fs[i]? = some p → 0 < i → 1 ≤ p.2
  nought : (0, 1) ∈ fs
  bits : ∀ p ∈ fs, B2 30 p
theorem row_frac {k : Nat} {row : List Z2} (h : RowOk k row) (hk : k ≤ 20) : FracOk (k + 2) ((1, 0) :: (row.drop 1).take (k + 1)) := by
  have hl := h.len
  have g : ∀ i, 0 < i → i < k + 2 → ((1, 0) :: (row.drop 1).take (k + 1))[i]? = row[i]? := fun i h0 h1 => by
    rw [show i = (i - 1) + 1 by omega, List.getElem?_cons_succ, List.getElem?_take_of_lt (by omega), List.getElem?_drop]
    congr 1; omega
  have len : ((1, 0) :: (row.drop 1).take (k + 1)).length = k + 2 := by simp; omega
  have lt : ∀ (i : Nat) (p : Z2), ((1, 0) :: (row.drop 1).take (k + 1))[i]? = some p → i < k + 2 := fun i p hp => by
    have := (List.getElem?_eq_some_iff.mp hp).1
    omega
  refine ⟨len, by omega, by omega, rfl, fun p hp => ?_, fun i p r h0 h1 h2 => ?_, fun p hp => ?_, fun i p hp h0 => ?_, ?_, fun p hp => ?_⟩
  · rw [g 1 (by omega) (by omega)] at hp
    have := h.det 0 _ p h.first hp
    simp at this; omega
  · rw [g i h0 (lt _ _ h1)] at h1
    rw [g (i + 1) (by omega) (lt _ _ h2)] at h2
    exact h.det i p r h1 h2
  · rw [show k + 2 - 1 = k + 1 by omega, g (k + 1) (by omega) (by omega)] at hp
    have := h.det (k + 1) p _ hp h.last
    simp at this; omega
  · have := lt _ _ hp
    rw [g i h0 this] at hp
    exact h.low i p hp h0 this
  · obtain ⟨i, h0, h1, h2⟩ := h.nought
    exact List.mem_of_getElem? (i := i) (by rw [g i h0 h1]; exact h2)
  · rcases List.mem_cons.mp hp with rfl | hp
    · exact b2_le b2_10 (by decide)
    · exact b2_le (h.bits p (List.mem_of_mem_drop (List.mem_of_mem_take hp))) (by omega)
theorem atI_map {α : Type} (f : α → D) (l : List α) (i : Nat) (x : α) (h : l[i]? = some x) : atI (l.map f) (i : Int) = some (f x) := by
  rw [atI_nat (by omega) (by have := (List.getElem?_eq_some_iff.mp h).1; simp; omega)]
  simp [h]
def pFracs (x y : D) (Q : D → Prop) : Prop := ∃ (n : Nat) (b : Int), x = .int n ∧ 2 ≤ n ∧ n ≤ 22 ∧ Digs 22 b y ∧ ∀ fs, FracOk n fs → Q (.tup (fs.map frD))
def f_law_fractions : Fw := F2 pFracs
theorem ixfr0 {x : Z2} {Q : D → Prop} : ixD (frD x) (.int 0) Q = Q (.int x.1) := by
  apply propext; constructor
  · rintro ⟨v, e, h⟩; cases e; exact h
  · intro h; exact ⟨_, rfl, h⟩
theorem ixfr1 {x : Z2} {Q : D → Prop} : ixD (frD x) (.int 1) Q = Q (.int x.2) := by
  apply propext; constructor
  · rintro ⟨v, e, h⟩; cases e; exact h
  · intro h; exact ⟨_, rfl, h⟩
def t_law_fractions : TS3 := (dSeq (dSetOwn 2 (cFew (cCons (cTup (cCons (cUn negD (cC (.int 1))) (cCons (cC (.int 0)) cNil))) (cCons (cTup (cCons (cC (.int 0)) (cCons (cC (.int 1)) cNil))) (cCons (cTup (cCons (cC (.int 1)) (cCons (cC (.int 0)) cNil))) cNil))))) (dSeq (dForR rng1 (cCons (cOp subD (cVar 0) (cC (.int 2))) cNil) (kName 3) (dSeq (dSet 4 (cOp modD (cOp ixD (cVar 1) (cVar 3)) (cOp subD (cLenOwn 2) (cC (.int 1))))) (dInsert 2 (cOp addD (cVar 4) (cC (.int 1))) (cTup (cCons (cOp addD (cOp ixD (cIxOwn 2 (cVar 4)) (cC (.int 0))) (cOp ixD (cIxOwn 2 (cOp addD (cVar 4) (cC (.int 1)))) (cC (.int 0)))) (cCons (cOp addD (cOp ixD (cIxOwn 2 (cVar 4)) (cC (.int 1))) (cOp ixD (cIxOwn 2 (cOp addD (cVar 4) (cC (.int 1)))) (cC (.int 1)))) cNil)))))) (dFreeze 2 (dRet (cCall tupleF (cCons (cOp addD (cLst (cCons (cTup (cCons (cC (.int 1)) (cCons (cC (.int 0)) cNil))) cNil)) (cSl (cVar 2) (cPart (cC (.int 1))) (cPart (cOp subD (cCall lenF (cCons (cVar 2) cNil)) (cC (.int 1)))))) cNil))))))
theorem len_law_fractions : ∀ ds Q, f_law_fractions ds Q → ds.length = 2 := lenF2
theorem ob_law_fractions : ∀ ds (Q : D → Prop), f_law_fractions ds Q → t_law_fractions { nx := fun _ => Q .non, rt := Q } (start3 ["_law_many", "_law_digits_here", "_law_row_here", "_law_k", "_law_at"] ds) := by
  rintro ds Q ⟨x, y, rfl, n, b, rfl, h2, h22, hd, h⟩
  simp_arith only [t_law_fractions]
  refine ⟨by omega, by omega, ?_⟩
  refine turns_of (fun i e => ∃ (row : List Z2) (k1 k2 : Option Lo), e = [some (.d (.int n)), some (.d y), some (.own (row.map frD)), k1, k2] ∧ RowOk i row) ?_ ?_ ⟨[(-1, 0), (0, 1), (1, 0)], _, _, rfl, row0⟩
  · rintro i x env N hx ⟨row, k1, k2, rfl, hr⟩ hN
    have hi : i < n - 2 := by
      have := (List.getElem?_eq_some_iff.mp hx).1
      simp [intsD] at this; omega
    have hxe : x = .int (i : Int) := by
      unfold intsD at hx
      rw [List.getElem?_map, List.getElem?_range (by omega)] at hx
      cases hx; simp
    subst hxe
    have hl := hr.len
    simp_arith only [List.length_map]
    refine dig_at hd (by omega) (by omega) fun v v0 v1 => ?_
    have hk : ((row.length : Int) - 1) = ((i + 2 : Nat) : Int) := by omega
    rw [hk]
    simp_arith only [and_true]
    refine ⟨by show ((i + 2 : Nat) : Int) ≠ 0; omega, ?_⟩
    have f := fmod_range (a := v) (b := ((i + 2 : Nat) : Int)) (by omega)
    obtain ⟨a, ea⟩ : ∃ a : Nat, v.fmod ((i + 2 : Nat) : Int) = (a : Int) := ⟨_, (Int.toNat_of_nonneg f.1).symm⟩
    rw [ea] at f ⊢
    have ha : a < i + 2 := by omega
    have hp : row[a]? = some row[a] := List.getElem?_eq_getElem (by omega)
    have hq : row[a + 1]? = some row[a + 1] := List.getElem?_eq_getElem (by omega)
    have e1 : atI (row.map frD) (a : Int) = some (frD row[a]) := atI_map _ _ _ _ hp
    have e2 : atI (row.map frD) ((a : Int) + 1) = some (frD row[a + 1]) := atI_map _ _ (a + 1) _ hq
    refine ⟨_, _, rfl, e1, ?_⟩
    rw [ixfr0]
    refine ⟨_, _, rfl, e2, ?_⟩
    rw [ixfr0]
    refine ⟨_, _, rfl, e1, ?_⟩
    rw [ixfr1]
    refine ⟨_, _, rfl, e2, ?_⟩
    rw [ixfr1]
    refine ⟨by omega, by omega, by omega, hN _ ⟨row.take (a + 1) ++ (row[a].1 + row[a + 1].1, row[a].2 + row[a + 1].2) :: row.drop (a + 1), some (.d (.int i)), some (.d (.int a)), ?_, row_in hr ha hp hq⟩⟩
    rw [show ((a : Int) + 1).toNat = a + 1 by omega, List.map_append, List.map_cons, List.map_take, List.map_drop]
    rfl
  · rintro env ⟨row, k1, k2, rfl, hr⟩
    simp_arith only [and_true]
    have el : (intsD 0 ((n : Int) - 2).toNat).length = n - 2 := by simp [intsD]; omega
    rw [el] at hr
    have hl := hr.len
    have ec : cutD (row.map frD) (some 1) (some (((row.map frD).length : Int) - 1)) = ((row.drop 1).take (n - 2 + 1)).map frD := by
      unfold cutD
      rw [List.length_map, show ((row.length : Int) - 1) = ((row.length - 1 : Nat) : Int) by omega, show (1 : Int) = ((1 : Nat) : Int) from rfl, HT.sIx_nat, HT.sIx_nat]
      rw [List.map_take, List.map_drop]
      congr 1
      · omega
      · congr 1; omega
    rw [ec]
    refine ⟨by simp; omega, ?_⟩
    have := h _ (by have := row_frac hr (by omega); rw [show n - 2 + 2 = n by omega] at this; exact this)
    exact this
inductive Mk where
  | half | third | gap (j : Nat)
  deriving DecidableEq
def mkD : Mk → D
  | .half => .str "half"
  | .third => .str "third"
  | .gap j => .int j
structure MarkOk (n : Nat) (ms : List Mk) : Prop where
  len : ms.length = n
  pair : ∀ (i j : Nat), ms[i]? = some (Mk.gap j) → j ≠ i ∧ ms[j]? = some (Mk.gap i)
  few : n = 2 → Mk.third ∈ ms ∧ ∀ (i j : Nat), ms[i]? ≠ some (Mk.gap j)
structure MarkIn (n : Nat) (left : List Nat) (ms : List Mk) : Prop where
  len : ms.length = n
  nd : left.Nodup
  lt : ∀ i ∈ left, i < n
  free : ∀ i ∈ left, ms[i]? = some Mk.half
  pair : ∀ (i j : Nat), ms[i]? = some (Mk.gap j) → j ≠ i ∧ ms[j]? = some (Mk.gap i)
theorem MarkIn.third {n g : Nat} {left : List Nat} {ms : List Mk} (h : MarkIn n (g :: left) ms) : MarkIn n left (ms.set g .third) := by
  have hg := h.free g List.mem_cons_self
  have hnd := List.nodup_cons.mp h.nd
  refine ⟨by rw [List.length_set]; exact h.len, hnd.2, fun i hi => h.lt i (List.mem_cons_of_mem _ hi), fun i hi => ?_, fun i j hij => ?_⟩
  · rw [List.getElem?_set_ne (fun z => by subst z; exact hnd.1 hi)]; exact h.free i (List.mem_cons_of_mem _ hi)
  · have hig : g ≠ i := fun z => by
      subst z
      rw [List.getElem?_set_self (by rw [h.len]; exact h.lt _ List.mem_cons_self)] at hij; cases hij
    rw [List.getElem?_set_ne hig] at hij
    obtain ⟨h1, h2⟩ := h.pair i j hij
    refine ⟨h1, ?_⟩
    have : g ≠ j := fun z => by subst z; rw [hg] at h2; cases h2
    rw [List.getElem?_set_ne this]; exact h2
theorem MarkIn.skip {n g : Nat} {left : List Nat} {ms : List Mk} (h : MarkIn n (g :: left) ms) : MarkIn n left ms :=
  ⟨h.len, (List.nodup_cons.mp h.nd).2, fun i hi => h.lt i (List.mem_cons_of_mem _ hi), fun i hi => h.free i (List.mem_cons_of_mem _ hi), h.pair⟩
theorem MarkIn.two {n g o k : Nat} {left : List Nat} {ms : List Mk} (h : MarkIn n (g :: left) ms) (ho : left[k]? = some o) : MarkIn n (left.eraseIdx k) ((ms.set g (.gap o)).set o (.gap g)) := by
  have hg := h.free g List.mem_cons_self
  have hnd := List.nodup_cons.mp h.nd
  have om : o ∈ left := List.mem_of_getElem? ho
  have hoh := h.free o (List.mem_cons_of_mem _ om)
  have ne : g ≠ o := fun z => hnd.1 (z ▸ om)
  have gl : g < ms.length := by rw [h.len]; exact h.lt _ List.mem_cons_self
  have ol : o < ms.length := by rw [h.len]; exact h.lt _ (List.mem_cons_of_mem _ om)
  have sub : ∀ i ∈ left.eraseIdx k, i ∈ left ∧ i ≠ o := fun i hi => by
    refine ⟨List.mem_of_mem_eraseIdx hi, fun z => ?_⟩
    subst z
    obtain ⟨j, hj1, hj2⟩ := List.mem_eraseIdx_iff_getElem?.mp hi
    obtain ⟨hk, ek⟩ := List.getElem?_eq_some_iff.mp ho
    obtain ⟨hj, ej⟩ := List.getElem?_eq_some_iff.mp hj2
    exact hj1 ((List.getElem_inj (h₀ := hj) (h₁ := hk) hnd.2).mp (by rw [ej, ek]))
  have get : ∀ i, ((ms.set g (.gap o)).set o (.gap g))[i]? = if i = o then some (.gap g) else if i = g then some (.gap o) else ms[i]? := fun i => by
    by_cases c1 : i = o
    · subst c1; rw [if_pos rfl, List.getElem?_set_self (by rw [List.length_set]; exact ol)]
    · rw [if_neg c1, List.getElem?_set_ne (Ne.symm c1)]
      by_cases c2 : i = g
      · subst c2; rw [if_pos rfl, List.getElem?_set_self gl]
      · rw [if_neg c2, List.getElem?_set_ne (Ne.symm c2)]
  refine ⟨by rw [List.length_set, List.length_set]; exact h.len, hnd.2.eraseIdx k, fun i hi => h.lt i (List.mem_cons_of_mem _ (sub i hi).1), fun i hi => ?_, fun i j hij => ?_⟩
  · obtain ⟨h1, h2⟩ := sub i hi
    rw [get, if_neg h2, if_neg (fun z => by subst z; exact hnd.1 h1)]
    exact h.free i (List.mem_cons_of_mem _ h1)
  · rw [get] at hij
    by_cases c1 : i = o
    · rw [if_pos c1] at hij; cases hij
      subst c1
      exact ⟨ne, by rw [get, if_neg ne, if_pos rfl]⟩
    · rw [if_neg c1] at hij
      by_cases c2 : i = g
      · rw [if_pos c2] at hij; cases hij
        subst c2
        exact ⟨Ne.symm ne, by rw [get, if_pos rfl]⟩
      · rw [if_neg c2] at hij
        obtain ⟨h1, h2⟩ := h.pair i j hij
        refine ⟨h1, ?_⟩
        rw [get, if_neg (fun z => by subst z; rw [hoh] at h2; cases h2), if_neg (fun z => by subst z; rw [hg] at h2; cases h2)]
        exact h2
theorem er_map {α β : Type} (f : α → β) : ∀ (l : List α) (k : Nat), (l.map f).eraseIdx k = (l.eraseIdx k).map f
  | [], _ => rfl
  | _ :: _, 0 => rfl
  | a :: l, k + 1 => by show f a :: (l.map f).eraseIdx k = f a :: (l.eraseIdx k).map f; rw [er_map f l k]
theorem depL_mk (ms : List Mk) : depL (ms.map mkD) = 0 := by
  induction ms with
  | nil => rfl
  | cons m r ih => rw [List.map_cons]; simp only [depL, ih]; cases m <;> rfl
theorem depL_nats (l : List Nat) : depL (l.map fun (i : Nat) => D.int i) = 0 := by
  induction l with
  | nil => rfl
  | cons m r ih => rw [List.map_cons]; simp only [depL, ih, dep]; rfl
theorem has_third (ms : List Mk) : ((ms.map mkD).any fun e => eqD e (.str "third")) = decide (Mk.third ∈ ms) := by
  induction ms with
  | nil => rfl
  | cons m r ih =>
    rw [List.map_cons, List.any_cons, ih]
    cases m with
    | half =>
      rw [show eqD (mkD .half) (.str "third") = false by decide]
      simp
    | third => rw [show eqD (mkD .third) (.str "third") = true by decide]; simp
    | gap j => rw [show eqD (mkD (.gap j)) (.str "third") = false from rfl]; simp
def pMarks (x y : D) (Q : D → Prop) : Prop := ∃ (n dm : Nat) (b : Int), x = .int n ∧ 2 ≤ n ∧ n ≤ 22 ∧ 44 ≤ dm ∧ Digs dm b y ∧ ∀ ms, MarkOk n ms → Q (.tup (ms.map mkD))
def f_law_marks : Fw := F2 pMarks
def natsD (l : List Nat) : List D := l.map fun (i : Nat) => D.int i
def t_law_marks_3_4 : TS3 := (dSet 4 (cOp addD (cVar 4) (cC (.int 1))))
def t_law_marks_4 : TS3 := (dSeq (dFreeze 2 (dIf (cAnd (cTest (cOp eqF (cVar 0) (cC (.int 2)))) (cTest (cOp (inLD true) (cC (.str "third")) (cVar 2)))) (dSet 2 (cLst (cCons (cC (.str "third")) (cCons (cC (.str "half")) cNil)))) dNext)) (dRet (cCall tupleF (cCons (cVar 2) cNil))))
def t_law_marks_3_3 : TS3 := (dSeq (dIf (cAnd (cTest (cOp gtD (cVar 6) (cC (.int 1)))) (cOwnNe 3)) (dSeq (dSetPop 7 3 (cOp modD (cOp ixD (cVar 1) (cOp addD (cVar 4) (cC (.int 22)))) (cLenOwn 3))) (dSeq (dPut 2 (cVar 5) (cVar 7)) (dPut 2 (cVar 7) (cVar 5)))) dNext) t_law_marks_3_4)
def t_law_marks : TS3 := (dSeq (dSetOwn 2 (cCompR rng1 [] (cCons (cVar 0) cNil) cTrue (cC (.str "half")))) (dSeq (dSetOwn 3 (cListR (cCons (cVar 0) cNil))) (dSeq (dSet 4 (cC (.int 0))) (dSeq (dWhile (cOwnNe 3) (dSeq (dSetPop 5 3 (cC (.int 0))) (dSeq (dSet 6 (cOp modD (cOp ixD (cVar 1) (cVar 4)) (cC (.int 4)))) (dSeq (dIf (cTest (cOp eqF (cVar 6) (cC (.int 1)))) (dPut 2 (cVar 5) (cC (.str "third"))) dNext) t_law_marks_3_3)))) t_law_marks_4))))
theorem len_law_marks : ∀ ds Q, f_law_marks ds Q → ds.length = 2 := lenF2
theorem ob_law_marks : ∀ ds (Q : D → Prop), f_law_marks ds Q → t_law_marks { nx := fun _ => Q .non, rt := Q } (start3 ["_law_many", "_law_digits_here", "_law_marks_here", "_law_left", "_law_k", "_law_gap_here", "_law_way", "_law_other"] ds) := by
  rintro ds Q ⟨x, y, rfl, n, dm, b, rfl, h2, h22, h44, hd, h⟩
  simp_arith only [t_law_marks, dWhile]
  refine ⟨by omega, by omega, ?_⟩
  refine comps_map (fun _ => .str "half") _ _ (fun x hx N hN => by simp_arith only [capE]; exact hN) (by simp [intsD, PySem.sizeLine_eq]; omega) ?_
  refine ⟨by omega, by omega, ?_⟩
  have ints_nats : intsD 0 (n : Int).toNat = natsD (List.range n) := by
    unfold intsD natsD
    rw [show (n : Int).toNat = n by omega]
    refine List.map_congr_left fun i _ => ?_
    rw [Int.zero_add]
  refine ⟨fun e => ∃ (left : List Nat) (ms : List Mk) (k : Nat) (k5 k6 k7 : Option Lo), e = [some (.d (.int n)), some (.d y), some (.own (ms.map mkD)), some (.own (natsD left)), some (.d (.int k)), k5, k6, k7] ∧ MarkIn n left ms ∧ k + left.length ≤ n,
    fun e => match e with | [_, _, _, some (.own l), _, _, _, _] => l.length | _ => 0, ⟨List.range n, List.replicate n .half, 0, none, none, none, ?_, ?_, by simp⟩, ?_⟩
  · rw [ints_nats]
    have e : [] ++ (natsD (List.range n)).map (fun _ => D.str (Str.ofString "half")) = (List.replicate n Mk.half).map mkD := by
      unfold natsD
      rw [List.nil_append, List.map_map, List.map_replicate]
      apply List.ext_getElem?
      intro i
      by_cases hi : i < n
      · rw [List.getElem?_map, List.getElem?_range hi, List.getElem?_replicate, if_pos hi]; rfl
      · rw [List.getElem?_eq_none (by simp; omega), List.getElem?_eq_none (by simp; omega)]
    rw [e]; rfl
  · refine ⟨by simp, List.nodup_range, fun i hi => List.mem_range.mp hi, fun i hi => ?_, fun i j hij => ?_⟩
    · rw [List.getElem?_replicate, if_pos (List.mem_range.mp hi)]
    · rw [List.getElem?_replicate] at hij; split at hij <;> cases hij
  rintro env ⟨left, ms, k, k5, k6, k7, rfl, hm, hk⟩
  refine ⟨natsD left, rfl, by rw [natsD, depL_nats]; decide, ?_⟩
  cases left with
  | nil =>
    rw [if_neg (by simp [natsD])]
    simp_arith only [t_law_marks_4]
    have fin : ∀ ms : List Mk, MarkOk n ms → Q (.tup (ms.map mkD)) := h
    by_cases e2 : (n : Int) = 2
    · rw [if_pos e2]
      have en : n = 2 := by omega
      refine ⟨ms.map mkD, rfl, by rw [depL_mk]; decide, by decide, _, rfl, ?_⟩
      rw [if_pos rfl, has_third]
      by_cases ht : Mk.third ∈ ms
      · rw [decide_eq_true ht]
        simp_arith only [and_true]
        refine fin ms ⟨hm.len, hm.pair, fun _ => ⟨ht, fun i j hij => ?_⟩⟩
        obtain ⟨h1, h2⟩ := hm.pair i j hij
        have l1 := (List.getElem?_eq_some_iff.mp hij).1
        have l2 := (List.getElem?_eq_some_iff.mp h2).1
        rw [hm.len] at l1 l2
        obtain ⟨q, hq, eq⟩ := List.getElem_of_mem ht
        rw [hm.len] at hq
        have hqi : q = i ∨ q = j := by omega
        rcases hqi with z | z
        · subst z; rw [List.getElem?_eq_getElem (by rw [hm.len]; exact hq), eq] at hij; cases hij
        · subst z; rw [List.getElem?_eq_getElem (by rw [hm.len]; exact hq), eq] at h2; cases h2
      · rw [decide_eq_false ht]
        simp_arith only [and_true]
        refine fin [.third, .half] ⟨by rw [en]; rfl, fun i j hij => ?_, fun _ => ⟨by simp, fun i j hij => ?_⟩⟩
        · match i with
          | 0 => cases hij
          | 1 => cases hij
          | i + 2 => cases hij
        · match i with
          | 0 => cases hij
          | 1 => cases hij
          | i + 2 => cases hij
    · rw [if_neg e2]
      exact fin ms ⟨hm.len, hm.pair, fun z => absurd (by omega) e2⟩
  | cons g left =>
    rw [if_pos (by simp [natsD])]
    have hg := hm.lt g List.mem_cons_self
    simp only [List.length_cons] at hk
    refine ⟨_, rfl, 0, .int g, rfl, rfl, by decide, ?_⟩
    have eE : (natsD (g :: left)).eraseIdx 0 = natsD left := rfl
    rw [eE]
    simp_arith only [and_true]
    refine dig_at hd (by omega) (by omega) fun v v0 v1 => ?_
    simp_arith only [and_true]
    refine ⟨by (first | exact divL _ (by decide) | exact powL _ _ (by decide) | exact modL _ (by first | decide | omega) | exact mul_ok_l (by decide) (by decide) | exact mul_ok_r (by decide) (by decide) | omega | decide), ?_⟩
    have f := fmod_range (a := v) (b := 4) (by decide)
    generalize v.fmod 4 = w at *
    have hml : (ms.map mkD).length = n := by rw [List.length_map, hm.len]
    have ixg : ∀ (l : List D) (j : Nat), l.length = n → j < n → ixN l.length (j : Int) = some j := fun l j hl hj => by
      unfold ixN
      rw [if_pos (by omega), if_pos (by omega)]; rfl
    have mset : ∀ (j : Nat) (m : Mk), (ms.map mkD).set j (mkD m) = (ms.set j m).map mkD := fun j m => by rw [List.map_set]
    have less : (natsD left).length < (natsD (g :: left)).length := by simp [natsD]
    by_cases c1 : w = 1
    · rw [if_pos c1]
      subst c1
      refine ⟨_, g, rfl, ixg _ _ hml hg, ?_⟩
      simp_arith only [t_law_marks_3_3, t_law_marks_3_4]
      refine ⟨⟨left, ms.set g .third, k + 1, _, _, _, mset g .third, rfl, by omega, rfl, rfl, rfl, hm.third, by omega⟩, less⟩
    · rw [if_neg c1]
      simp_arith only [t_law_marks_3_3, t_law_marks_3_4]
      have skip : (∃ left_1 ms_1 k_1 k5 k6 k7_1, ms.map mkD = List.map mkD ms_1 ∧ natsD left = natsD left_1 ∧ (k : Int) + 1 = ((k_1 : Nat) : Int) ∧ some (Lo.d (D.int g)) = k5 ∧ some (Lo.d (D.int w)) = k6 ∧ k7 = k7_1 ∧ MarkIn n left_1 ms_1 ∧ k_1 + left_1.length ≤ n) ∧ (natsD left).length < (natsD (g :: left)).length :=
        ⟨⟨left, ms, k + 1, _, _, _, rfl, rfl, by omega, rfl, rfl, rfl, hm.skip, by omega⟩, less⟩
      by_cases c2 : 1 < w
      · rw [if_pos c2]
        refine ⟨by rw [natsD, depL_nats]; decide, ?_⟩
        by_cases c3 : (natsD left).isEmpty = false
        · rw [if_pos c3]
          have hl0 : 0 < left.length := by
            cases left with
            | nil => cases c3
            | cons _ _ => simp
          refine dig_at hd (by omega) (by omega) fun u u0 u1 => ?_
          have hll : (natsD left).length = left.length := by simp [natsD]
          rw [hll]
          simp_arith only [and_true]
          refine ⟨by show ((left.length : Nat) : Int) ≠ 0; omega, ?_⟩
          have f2 := fmod_range (a := u) (b := ((left.length : Nat) : Int)) (by omega)
          obtain ⟨a, ea⟩ : ∃ a : Nat, u.fmod ((left.length : Nat) : Int) = (a : Int) := ⟨_, (Int.toNat_of_nonneg f2.1).symm⟩
          rw [ea] at f2 ⊢
          have ha : a < left.length := by omega
          have ho : left[a]? = some left[a] := List.getElem?_eq_getElem ha
          have hol : left[a] < n := hm.lt _ (List.mem_cons_of_mem _ (List.getElem_mem ha))
          refine ⟨a, .int left[a], rfl, by unfold natsD; rw [List.getElem?_map, ho]; rfl, by omega, _, g, rfl, ixg _ _ hml hg, _, left[a], rfl, ixg _ _ (by rw [List.length_set]; exact hml) hol, ?_⟩
          refine ⟨⟨left.eraseIdx a, (ms.set g (.gap left[a])).set left[a] (.gap g), k + 1, _, _, _, ?_, ?_, by omega, rfl, rfl, rfl, hm.two ho, ?_⟩, ?_⟩
          · rw [List.map_set, List.map_set]; rfl
          · unfold natsD; rw [er_map]
          · rw [List.length_eraseIdx, if_pos ha]; omega
          · unfold natsD; rw [List.length_eraseIdx, List.length_map, if_pos ha]; simp; omega
        · rw [if_neg c3]; exact skip
      · rw [if_neg c2]; exact skip
structure FanOk (fs : List Z2) (ms : List Mk) : Prop where
  fr : FracOk fs.length fs
  mar : MarkOk fs.length ms
def fanD (fs : List Z2) (ms : List Mk) : D := .tup [.tup (fs.map frD), .tup (ms.map mkD)]
def pFan (x : D) (Q : D → Prop) : Prop := ∃ c : Int, x = .int c ∧ ∀ fs ms, FanOk fs ms → fs.length ≤ 16 → Q (fanD fs ms)
def f_law_fan : Fw := F1 pFan
def t_law_fan_2 : TS3 := (dSeq (dSet 2 (cCall f_law_row (cCons (cOp fdivD (cVar 0) (cC (.int 720))) (cCons (cC (.int 24)) (cCons (cC (.int 66)) cNil))))) (dRet (cTup (cCons (cCall f_law_fractions (cCons (cVar 1) (cCons (cSl (cVar 2) cNoPart (cPart (cC (.int 22)))) cNil))) (cCons (cCall f_law_marks (cCons (cVar 1) (cCons (cSl (cVar 2) (cPart (cC (.int 22))) cNoPart) cNil))) cNil)))))
def t_law_fan : TS3 := (dSeq (dSet 1 (cOp addD (cC (.int 2)) (cOp modD (cVar 0) (cC (.int 6))))) (dSeq (dIf (cTest (cOp eqF (cOp modD (cOp fdivD (cVar 0) (cC (.int 6))) (cC (.int 8))) (cC (.int 1)))) (dSet 1 (cOp addD (cC (.int 2)) (cOp modD (cOp fdivD (cVar 0) (cC (.int 48))) (cC (.int 15))))) dNext) t_law_fan_2))
theorem len_law_fan : ∀ ds Q, f_law_fan ds Q → ds.length = 1 := lenF1
theorem ob_law_fan : ∀ ds (Q : D → Prop), f_law_fan ds Q → t_law_fan { nx := fun _ => Q .non, rt := Q } (start3 ["_law_cell_here", "_law_many", "_law_digits_here"] ds) := by
  rintro ds Q ⟨x, rfl, c, rfl, h⟩
  simp_arith only [t_law_fan]
  repeat (refine And.intro (by (first | exact divL _ (by decide) | exact powL _ _ (by decide) | exact modL _ (by first | decide | omega) | exact mul_ok_l (by decide) (by decide) | exact mul_ok_r (by decide) (by decide) | omega | decide)) ?_)
  have r1 := fmod_range (a := c) (b := 6) (by decide)
  have r2 := fmod_range (a := c.fdiv 48) (b := 15) (by decide)
  have go : ∀ (m : Int) (k : Option Lo), 2 ≤ m → m ≤ 16 → t_law_fan_2 { nx := fun _ => Q .non, rt := Q } [some (.d (.int c)), some (.d (.int m)), k] := fun m k h1 h2 => by
    simp_arith only [t_law_fan_2, f_law_row, f_law_fractions, f_law_marks, F2_eq, F3_eq, pDigs]
    repeat (refine And.intro (by (first | exact divL _ (by decide) | exact powL _ _ (by decide) | exact modL _ (by first | decide | omega) | exact mul_ok_l (by decide) (by decide) | exact mul_ok_r (by decide) (by decide) | omega | decide)) ?_)
    refine ⟨_, 24, 66, rfl, rfl, rfl, by decide, bits_le (n := 100) (by unfold Bits; decide) (by decide), by decide, fun d hd => ?_⟩
    obtain ⟨xs, rfl, hl, hb⟩ := hd
    have e1 : cutD (xs.map D.int) none (some 22) = (xs.take 22).map D.int := by
      rw [cutD_map]; rw [show (22 : Int) = ((22 : Nat) : Int) from rfl, HT.sIx_nat]
      show (((xs.drop 0).take _).map D.int) = _
      rw [List.drop_zero, hl]; rfl
    have e2 : cutD (xs.map D.int) (some 22) none = (xs.drop 22).map D.int := by
      rw [cutD_map]; rw [show (22 : Int) = ((22 : Nat) : Int) from rfl, HT.sIx_nat, hl]
      show (((xs.drop 22).take (66 - 22)).map D.int) = _
      rw [List.take_of_length_le (by simp [hl])]
    simp_arith only [e1, e2]
    obtain ⟨n, rfl⟩ : ∃ n : Nat, m = n := ⟨m.toNat, by omega⟩
    refine ⟨n, 24, rfl, by omega, by omega, ⟨_, rfl, by simp [hl], fun x hx => hb x (List.mem_of_mem_take hx)⟩, fun fs hf => ?_⟩
    refine ⟨n, 44, 24, rfl, by omega, by omega, by decide, ⟨_, rfl, by simp [hl], fun x hx => hb x (List.mem_of_mem_drop hx)⟩, fun ms hm => ?_⟩
    have := hf.len
    subst this
    exact h fs ms ⟨hf, hm⟩ (by omega)
  have g1 := go (2 + (c.fdiv 48).fmod 15) none (by omega) (by omega)
  have g2 := go (2 + c.fmod 6) none (by omega) (by omega)
  split
  · exact ⟨by (first | exact divL _ (by decide) | exact powL _ _ (by decide) | exact modL _ (by first | decide | omega) | exact mul_ok_l (by decide) (by decide) | exact mul_ok_r (by decide) (by decide) | omega | decide), by (first | exact divL _ (by decide) | exact powL _ _ (by decide) | exact modL _ (by first | decide | omega) | exact mul_ok_l (by decide) (by decide) | exact mul_ok_r (by decide) (by decide) | omega | decide), g1⟩
  · exact g2
end L2.L3
set_option Elab.async false
set_option linter.all false
set_option maxRecDepth 100000
set_option maxHeartbeats 4000000
namespace K14
open PySem L2 L2.L3
def Lf (x : D) : Prop := match x with | .non => True | .bl _ => True | .int i => Bits 100 i | .str _ => True | _ => False
def T1 (x : D) : Prop := Lf x ∨ ∃ xs : List D, (x = .tup xs ∨ x = .lst xs) ∧ xs.length ≤ 100 ∧ ∀ y ∈ xs, Lf y
def T2 (x : D) : Prop := T1 x ∨ ∃ xs : List D, (x = .tup xs ∨ x = .lst xs) ∧ xs.length ≤ 100 ∧ ∀ y ∈ xs, T1 y
def T3 (x : D) : Prop := T2 x ∨ ∃ xs : List D, (x = .tup xs ∨ x = .lst xs) ∧ xs.length ≤ 100 ∧ ∀ y ∈ xs, T2 y
theorem lf_pl {x : D} (h : Lf x) : Pl x := by cases x <;> first | exact h.elim | (intro e; cases e)
theorem lf_dep {x : D} (h : Lf x) : dep x = 0 := by cases x <;> first | exact h.elim | rfl
theorem depL_le {n : Nat} : ∀ {ds : List D}, (∀ d ∈ ds, dep d ≤ n) → depL ds ≤ n
  | [], _ => Nat.zero_le _
  | d :: ds, h => by
    have h1 := h d List.mem_cons_self
    have h2 := depL_le fun y hy => h y (List.mem_cons_of_mem _ hy)
    simp only [depL]; omega
theorem t1_pl {x : D} (h : T1 x) : PlL x := by
  rcases h with h | ⟨xs, e, l, q⟩
  · exact ⟨lf_pl h, fun xs e => by subst e; exact h.elim⟩
  · rcases e with rfl | rfl
    · exact ⟨fun e => (by cases e), fun ys e => by cases e; exact ⟨by omega, fun y hy => lf_pl (q y hy)⟩⟩
    · exact ⟨fun e => (by cases e), fun ys e => (by cases e)⟩
theorem t2_pl {x : D} (h : T2 x) : Pl x := by
  rcases h with h | ⟨xs, e, l, q⟩
  · exact (t1_pl h).1
  · rcases e with rfl | rfl <;> (intro e; cases e)
theorem t3_pl {x : D} (h : T3 x) : Pl x := by
  rcases h with h | ⟨xs, e, l, q⟩
  · exact t2_pl h
  · rcases e with rfl | rfl <;> (intro e; cases e)
theorem t1_dep {x : D} (h : T1 x) : dep x ≤ 1 := by
  rcases h with h | ⟨xs, e, l, q⟩
  · rw [lf_dep h]; omega
  · have := depL_le (n := 0) fun d hd => Nat.le_of_eq (lf_dep (q d hd))
    rcases e with rfl | rfl <;> (simp only [dep]; omega)
theorem t1L_dep {ds : List D} (h : ∀ d ∈ ds, T1 d) : depL ds ≤ 1 := depL_le fun d hd => t1_dep (h d hd)
theorem t2_parts {xs : List D} (h : T2 (.tup xs)) : xs.length ≤ 100 ∧ ∀ y ∈ xs, T1 y := by
  rcases h with (h | ⟨ys, e, l, q⟩) | ⟨ys, e, l, q⟩
  · exact h.elim
  · rcases e with e | e <;> cases e
    exact ⟨l, fun y hy => .inl (q y hy)⟩
  · rcases e with e | e <;> cases e
    exact ⟨l, q⟩
theorem t3_parts {xs : List D} (h : T3 (.tup xs)) : xs.length ≤ 100 ∧ ∀ y ∈ xs, T2 y := by
  rcases h with h | ⟨ys, e, l, q⟩
  · exact ⟨(t2_parts h).1, fun y hy => .inl ((t2_parts h).2 y hy)⟩
  · rcases e with e | e <;> cases e
    exact ⟨l, q⟩
theorem getD_mem {xs : List D} {i : Nat} (h : i < xs.length) : xs.getD i .non ∈ xs := by
  rw [List.getD_eq_getElem?_getD, List.getElem?_eq_getElem h]; exact List.getElem_mem h
theorem ixT {xs : List D} {i : Nat} {Q : D → Prop} (h : i < xs.length) (q : Q (xs.getD i .non)) : ixD (.tup xs) (.int (i : Int)) Q := by
  refine ⟨xs.getD i .non, ?_, q⟩
  rw [atI_nat (by omega) (by omega), Int.toNat_natCast, List.getD_eq_getElem?_getD, List.getElem?_eq_getElem h]; rfl
def pz (x : D) : Z2 := match x with | .tup [.int p, .int q] => (p, q) | _ => (0, 0)
def due (fs : List D) (i : Nat) : Bool :=
  fracD (fs.getD i .non) && (if i = 0 then decide (pz (fs.getD i .non) = (1, 0)) else
    (!decide (pz (fs.getD i .non) = (1, 0)) && decide ((((pz (fs.getD i .non)).1 * (pz (fs.getD (i - 1) .non)).2 - (pz (fs.getD i .non)).2 * (pz (fs.getD (i - 1) .non)).1).natAbs : Int) = 1)
      && (decide (i ≤ 1) || decide ((pz (fs.getD (i - 1) .non)).1 * (pz (fs.getD i .non)).2 < (pz (fs.getD i .non)).1 * (pz (fs.getD (i - 1) .non)).2)) && (decide (i + 1 < fs.length) || decide ((pz (fs.getD i .non)).2 = 1))))
theorem frac_pz {x : D} (h : fracD x = true) : x = frD (pz x) ∧ Fr (pz x) := by
  unfold fracD at h
  split at h
  · rename_i p q
    simp only [Bool.and_eq_true, Bool.or_eq_true, decide_eq_true_eq] at h
    exact ⟨rfl, h.1, h.2⟩
  · cases h
theorem t1_fr {p : Z2} (h : T1 (frD p)) : B2 100 p := by
  rcases h with h | ⟨xs, e, l, q⟩
  · exact h.elim
  · rcases e with e | e <;> cases e
    exact ⟨q (.int p.1) (by simp), q (.int p.2) (by simp)⟩
def isI (i : Nat) : D → Bool | .int k => decide (k = i) | _ => false
def dueM (ms : List D) (i : Nat) : Bool := match ms.getD i .non with
  | .str z => z == "half" || z == "third"
  | .int m => decide (m ≠ i) && decide (0 ≤ m) && decide (m < ms.length) && isI i (ms.getD m.toNat .non)
  | _ => false
def hasN (fs : List D) : Bool := fs.any fun e => eqD e (.tup [.int 0, .int 1])
def manyP (fs ms : List D) : Int := 3 * ((fs.length : Int) - 2) + (ms.countP fun d => eqD d (.str "third") : Nat)
def firstBad (p : Nat → Bool) (n : Nat) : Option Nat := (List.range n).find? fun i => !p i
def faultP (fs ms : List D) : Option (Str × Int) :=
  if ¬ (2 ≤ fs.length ∧ fs.length ≤ 22) then some ("many", 0) else
  match firstBad (due fs) fs.length with
  | some i => some ("fraction", i)
  | none => if hasN fs = false then some ("nought", 0) else if ms.length ≠ fs.length then some ("marks", 0) else
    match firstBad (dueM ms) ms.length with
    | some i => some ("mark", i)
    | none => if 1 ≤ manyP fs ms ∧ manyP fs ms ≤ 60 then none else some ("places", 0)
def faultD (x : D) : Option (Str × Int) := match x with
  | .tup [.tup fs, .tup ms] => faultP fs ms
  | _ => some ("fan", 0)
def resD : Option (Str × Int) → D
  | none => .non
  | some (w, i) => .lst [.str w, .int i]
def twoT (x : D) : Bool := match x with | .tup [.tup _, .tup _] => true | _ => false
def pTwo (x : D) (Q : D → Prop) : Prop := T3 x ∧ Q (.bl (twoT x))
def f_are_two_tuples : Fw := F1 pTwo
def t_are_two_tuples : TS3 := (dSeq (dIf (cOr (cNot (cTest (cIsi "tuple" (cVar 0)))) (cTest (cOp neF (cCall lenF (cCons (cVar 0) cNil)) (cC (.int 2))))) (dRet (cC (.bl false))) dNext) (dRet (cAndV (cIsi "tuple" (cOp ixD (cVar 0) (cC (.int 0)))) (cIsi "tuple" (cOp ixD (cVar 0) (cC (.int 1)))))))
theorem len_are_two_tuples : ∀ ds Q, f_are_two_tuples ds Q → ds.length = 1 := lenF1
theorem ob_are_two_tuples : ∀ ds (Q : D → Prop), f_are_two_tuples ds Q → t_are_two_tuples { nx := fun _ => Q .non, rt := Q } (start3 ["thing"] ds) := by
  rintro ds Q ⟨x, rfl, hx, h⟩
  simp_all_arith! only [t_are_two_tuples]
  refine isi_tup (t3_pl hx) ⟨_, rfl, ?_⟩
  cases x with
  | tup xs =>
    simp_all_arith! only [isTup]
    by_cases hn : (xs.length : Int) = 2
    · obtain ⟨_, hp⟩ := t3_parts hx
      match xs, hn, hp with
      | [a, b], _, hp =>
        have pa := t2_pl (hp a (by simp))
        have pb := t2_pl (hp b (by simp))
        simp_all_arith! only [and_true]
        refine ⟨a, rfl, isi_tup pa ⟨_, rfl, ?_⟩⟩
        cases a with
        | tup as =>
          simp_all_arith! only [isTup]
          refine ⟨b, rfl, isi_tup pb ?_⟩
          cases b <;> exact h
        | _ => simp_all_arith! only [isTup]; exact h
    · rw [if_pos (by simp [hn])]
      have : twoT (.tup xs) = false := by
        unfold twoT
        split
        · rename_i e; cases e; exact absurd rfl hn
        · rfl
      rw [this] at h; exact h
  | _ => simp_all_arith! only [isTup]; exact h
def pNei (x y : D) (Q : D → Prop) : Prop := ∃ (p r : Z2), x = frD p ∧ y = frD r ∧ B2 100 p ∧ B2 100 r ∧ Q (.bl (decide (((p.1 * r.2 - p.2 * r.1).natAbs : Int) = 1)))
def f_are_neighbours : Fw := F2 pNei
def t_are_neighbours : TS3 := (dSeq (dAsg (cVar 0) (kTup 2 (kCons (kName 2) (kCons (kName 3) kNil)))) (dSeq (dAsg (cVar 1) (kTup 2 (kCons (kName 4) (kCons (kName 5) kNil)))) (dRet (cOp eqF (cCall absF (cCons (cOp subD (cOp mulD (cVar 2) (cVar 5)) (cOp mulD (cVar 3) (cVar 4))) cNil)) (cC (.int 1))))))
theorem len_are_neighbours : ∀ ds Q, f_are_neighbours ds Q → ds.length = 2 := lenF2
theorem ob_are_neighbours : ∀ ds (Q : D → Prop), f_are_neighbours ds Q → t_are_neighbours { nx := fun _ => Q .non, rt := Q } (start3 ["one", "other", "p", "q", "r", "s"] ds) := by
  rintro ds Q ⟨x, y, rfl, p, r, rfl, rfl, ⟨h1, h2⟩, ⟨g1, g2⟩, h⟩
  simp_all_arith only [t_are_neighbours, frD]
  exact ⟨mul_ok h1 g2 (by decide), mul_ok h2 g1 (by decide), h⟩
def pAbove (x y : D) (Q : D → Prop) : Prop := ∃ (p r : Z2), x = frD p ∧ y = frD r ∧ B2 100 p ∧ B2 100 r ∧ Q (.bl (decide (r.1 * p.2 < p.1 * r.2)))
def f_is_above : Fw := F2 pAbove
def t_is_above : TS3 := (dSeq (dAsg (cVar 0) (kTup 2 (kCons (kName 2) (kCons (kName 3) kNil)))) (dSeq (dAsg (cVar 1) (kTup 2 (kCons (kName 4) (kCons (kName 5) kNil)))) (dRet (cOp gtD (cOp mulD (cVar 2) (cVar 5)) (cOp mulD (cVar 4) (cVar 3))))))
theorem len_is_above : ∀ ds Q, f_is_above ds Q → ds.length = 2 := lenF2
theorem ob_is_above : ∀ ds (Q : D → Prop), f_is_above ds Q → t_is_above { nx := fun _ => Q .non, rt := Q } (start3 ["one", "other", "p", "q", "r", "s"] ds) := by
  rintro ds Q ⟨x, y, rfl, p, r, rfl, rfl, ⟨h1, h2⟩, ⟨g1, g2⟩, h⟩
  simp_all_arith only [t_is_above, frD]
  exact ⟨mul_ok h1 g2 (by decide), mul_ok g1 h2 (by decide), h⟩
theorem top_fr : D.tup [.int 1, .int 0] = frD (1, 0) := rfl
def pDueF (x y : D) (k : Bool → Bool) (Q : D → Prop) : Prop := ∃ (fs : List D) (i : Nat), x = .tup fs ∧ y = .int i ∧ i < fs.length ∧ fs.length ≤ 100 ∧ (∀ d ∈ fs, T1 d) ∧ (∀ j, j < i → due fs j = true) ∧ Q (.bl (k (due fs i)))
def f_is_due_fraction : Fw := F2 fun x y => pDueF x y id
def t_is_due_fraction : TS3 := (dSeq (dSet 2 (cOp ixD (cVar 0) (cVar 1))) (dSeq (dIf (cNot (cTest (cCall f_is_fraction (cCons (cVar 2) cNil)))) (dRet (cC (.bl false))) dNext) (dSeq (dIf (cTest (cOp eqF (cVar 1) (cC (.int 0)))) (dRet (cOp eqF (cVar 2) (cC (.tup [.int 1, .int 0])))) dNext) (dSeq (dSet 3 (cOp ixD (cVar 0) (cOp subD (cVar 1) (cC (.int 1))))) (dSeq (dIf (cOr (cTest (cOp eqF (cVar 2) (cC (.tup [.int 1, .int 0])))) (cNot (cTest (cCall f_are_neighbours (cCons (cVar 2) (cCons (cVar 3) cNil)))))) (dRet (cC (.bl false))) dNext) (dSeq (dIf (cAnd (cTest (cOp gtD (cVar 1) (cC (.int 1)))) (cNot (cTest (cCall f_is_above (cCons (cVar 2) (cCons (cVar 3) cNil)))))) (dRet (cC (.bl false))) dNext) (dRet (cOrV (cOp ltD (cVar 1) (cOp subD (cCall lenF (cCons (cVar 0) cNil)) (cC (.int 1)))) (cCall f_are_neighbours (cCons (cVar 2) (cCons (cC (.tup [.int 1, .int 0])) cNil)))))))))))
theorem len_is_due_fraction : ∀ ds Q, f_is_due_fraction ds Q → ds.length = 2 := lenF2
theorem ob_is_due_fraction : ∀ ds (Q : D → Prop), f_is_due_fraction ds Q → t_is_due_fraction { nx := fun _ => Q .non, rt := Q } (start3 ["fractions", "at", "one", "ahead"] ds) := by
  rintro ds Q ⟨x, y, rfl, fs, i, rfl, rfl, hi, hl, ht, hb, h⟩
  simp_all_arith! only [t_is_due_fraction, f_is_fraction, f_are_neighbours, f_is_above, F1_eq, F2_eq, pFrac]
  have tm := ht _ (getD_mem hi)
  refine ixT hi ⟨t1_pl tm, ?_⟩
  unfold due at h
  generalize hx : fs.getD i .non = x at *
  cases hf : fracD x with
  | false =>
    rw [hf] at h
    simp_all_arith! only [and_true]
    exact h
  | true =>
    obtain ⟨ex, fp⟩ := frac_pz hf
    rw [hf] at h
    generalize pz x = p at *
    subst ex
    have bp := t1_fr tm
    simp_arith only [dTryR, cCallV, vRaise, vIf, vUp, vSeq, vForR, isxDF, cFldX, kPut, dPopI, dFreezeM, top_fr, eqF_fr, Bool.true_and, id] at h ⊢
    by_cases z : i = 0
    · rw [if_pos (by omega)]
      rw [if_pos z] at h; exact h
    · rw [if_neg (by omega)]
      rw [if_neg z] at h
      rw [show ((i : Int) - 1) = ((i - 1 : Nat) : Int) by omega]
      have hi1 : i - 1 < fs.length := by omega
      have tm1 := ht _ (getD_mem hi1)
      have hd1 := hb (i - 1) (by omega)
      unfold due at hd1
      refine ixT hi1 ?_
      generalize fs.getD (i - 1) .non = y at *
      simp only [Bool.and_eq_true] at hd1
      obtain ⟨ey, fy⟩ := frac_pz hd1.1
      generalize pz y = r at *
      subst ey
      have br := t1_fr tm1
      by_cases c1 : p = (1, 0)
      · simp_arith only [c1, decide_true, dTryR, cCallV, vRaise, vIf, vUp, vSeq, vForR, isxDF, cFldX, kPut, dPopI, dFreezeM, Bool.false_and] at h ⊢
        exact h
      · simp_arith only [c1, decide_false, dTryR, cCallV, vRaise, vIf, vUp, vSeq, vForR, isxDF, cFldX, kPut, dPopI, dFreezeM, Bool.true_and] at h ⊢
        refine ⟨p, r, rfl, rfl, bp, br, ?_⟩
        by_cases c2 : (((p.1 * r.2 - p.2 * r.1).natAbs : Nat) : Int) = 1
        · simp_arith only [c2, decide_true, dTryR, cCallV, vRaise, vIf, vUp, vSeq, vForR, isxDF, cFldX, kPut, dPopI, dFreezeM, Bool.true_and] at h ⊢
          have fin : ∀ {Q : D → Prop}, Q (.bl (decide (i + 1 < fs.length) || decide (p.2 = 1))) → if (i : Int) < (fs.length : Int) - 1 then Q (D.bl true) else pNei (frD p) (frD (1, 0)) Q := fun {Q} h => by
            by_cases e : i + 1 < fs.length
            · rw [if_pos (by omega)]
              rw [decide_eq_true e] at h; exact h
            · rw [if_neg (by omega)]
              rw [decide_eq_false e, Bool.false_or] at h
              refine ⟨_, _, rfl, rfl, bp, b2_le b2_10 (by decide), ?_⟩
              have q0 : 0 < p.2 := by
                rcases fp.2 with q | ⟨q1, q2⟩
                · exact q
                · exact absurd (Prod.ext q2 q1) c1
              have e2 : decide (((p.1 * (1, 0).2 - p.2 * (1, 0).1 : Int).natAbs : Int) = 1) = decide (p.2 = 1) := by
                rw [decide_eq_decide]
                show (((p.1 * 0 - p.2 * 1 : Int).natAbs : Nat) : Int) = 1 ↔ _
                omega
              exact e2 ▸ h
          by_cases c : 1 < i
          · rw [if_pos (by omega)]
            refine ⟨p, r, rfl, rfl, bp, br, ?_⟩
            rw [decide_eq_false (by omega : ¬ i ≤ 1), Bool.false_or] at h
            by_cases c3 : r.1 * p.2 < p.1 * r.2
            · simp_arith only [c3, decide_true, dTryR, cCallV, vRaise, vIf, vUp, vSeq, vForR, isxDF, cFldX, kPut, dPopI, dFreezeM, Bool.true_and] at h ⊢
              exact fin h
            · simp_arith only [c3, decide_false, dTryR, cCallV, vRaise, vIf, vUp, vSeq, vForR, isxDF, cFldX, kPut, dPopI, dFreezeM, Bool.false_and] at h ⊢
              exact h
          · rw [if_neg (by omega)]
            rw [decide_eq_true (by omega : i ≤ 1), Bool.true_or, Bool.true_and] at h
            exact fin h
        · simp_arith only [c2, decide_false, dTryR, cCallV, vRaise, vIf, vUp, vSeq, vForR, isxDF, cFldX, kPut, dPopI, dFreezeM, Bool.false_and] at h ⊢
          exact h
def pDueM (x y : D) (k : Bool → Bool) (Q : D → Prop) : Prop := ∃ (ms : List D) (i : Nat), x = .tup ms ∧ y = .int i ∧ i < ms.length ∧ ms.length ≤ 100 ∧ (∀ d ∈ ms, T1 d) ∧ Q (.bl (k (dueM ms i)))
theorem eqs {x : D} {w : Str} {Q : D → Prop} (h : T1 x) (n : ∀ z, x ≠ .str z) (q : Q (.bl false)) : eqF x (.str w) Q := by
  refine ⟨⟨Nat.le_trans (t1_dep h) (by decide), by simp [dep]⟩, ?_⟩
  have e : eqD x (.str w) = false := by
    cases x <;> first | rfl | exact absurd rfl (n _)
  rw [e]; exact q
def f_is_due_mark : Fw := F2 fun x y => pDueM x y id
def t_is_due_mark : TS3 := (dSeq (dSet 2 (cOp ixD (cVar 0) (cVar 1))) (dSeq (dIf (cOr (cTest (cOp eqF (cVar 2) (cC (.str "half")))) (cTest (cOp eqF (cVar 2) (cC (.str "third"))))) (dRet (cC (.bl true))) dNext) (dSeq (dIf (cOr (cNot (cTest (cCall f_is_whole (cCons (cVar 2) cNil)))) (cOr (cTest (cOp eqF (cVar 2) (cVar 1))) (cNot (cTest (cChain leD ltD (cC (.int 0)) (cVar 2) (cCall lenF (cCons (cVar 0) cNil))))))) (dRet (cC (.bl false))) dNext) (dRet (cAndV (cCall f_is_whole (cCons (cOp ixD (cVar 0) (cVar 2)) cNil)) (cOp eqF (cOp ixD (cVar 0) (cVar 2)) (cVar 1)))))))
theorem len_is_due_mark : ∀ ds Q, f_is_due_mark ds Q → ds.length = 2 := lenF2
theorem ob_is_due_mark : ∀ ds (Q : D → Prop), f_is_due_mark ds Q → t_is_due_mark { nx := fun _ => Q .non, rt := Q } (start3 ["marks", "gap", "mark"] ds) := by
  rintro ds Q ⟨x, y, rfl, ms, i, rfl, rfl, hi, hl, ht, h⟩
  simp_all_arith! only [t_is_due_mark, f_is_whole, F1_eq, pWhole]
  have tm := ht _ (getD_mem hi)
  refine ixT hi ?_
  unfold dueM at h
  generalize hx : ms.getD i .non = x at *
  cases x with
  | str z =>
    replace h : Q (.bl (z == ("half" : Str) || z == ("third" : Str))) := h
    simp_all_arith! only [and_true]
    cases e1 : (z == ("half" : Str)) with
    | true => rw [e1] at h; simp_all_arith! only [and_true]; exact h
    | false =>
      simp_all_arith! only [and_true]
      cases e2 : (z == ("third" : Str)) with
      | true => rw [e1, e2] at h; simp_all_arith! only [and_true]; exact h
      | false =>
        rw [e1, e2] at h
        simp_all_arith! only [wholeD]
        exact ⟨fun e => (by cases e), h⟩
  | int m =>
    refine eqs tm (fun z e => by cases e) ?_
    simp_all_arith! only [and_true]
    refine eqs tm (fun z e => by cases e) ?_
    simp_all_arith! only [wholeD]
    refine ⟨fun e => (by cases e), ?_⟩
    replace h : Q (.bl (decide (m ≠ i) && decide (0 ≤ m) && decide (m < ms.length) && isI i (ms.getD m.toNat .non))) := h
    by_cases c1 : m = i
    · rw [if_pos c1]
      simp only [c1, ne_eq, not_true, decide_false, Bool.false_and] at h
      exact h
    · rw [if_neg c1]
      simp only [c1, ne_eq, not_false_eq_true, decide_true, Bool.true_and] at h
      by_cases c2 : 0 ≤ m
      · rw [if_pos c2]
        by_cases c3 : m < ms.length
        · rw [if_neg (by simp [c3])]
          simp only [c2, c3, decide_true, Bool.true_and] at h
          obtain ⟨j, rfl⟩ : ∃ j : Nat, m = j := ⟨m.toNat, by omega⟩
          rw [Int.toNat_natCast] at h
          have hj : j < ms.length := by omega
          refine ixT hj ⟨(t1_pl (ht _ (getD_mem hj))).1, ?_⟩
          generalize hy : ms.getD j .non = y at *
          cases y with
          | int k =>
            simp_all_arith! only [wholeD]
            refine ixT hj ?_
            rw [hy]
            simp_all_arith! only [and_true]
            exact h
          | _ => simp_all_arith! only [wholeD]; exact h
        · rw [if_pos (by simp [c3])]
          simp only [c2, c3, decide_true, decide_false, Bool.true_and, Bool.false_and] at h
          exact h
      · rw [if_neg c2]
        simp only [c2, decide_false, Bool.false_and] at h
        first | exact h | (rw [if_pos rfl]; exact h)
  | _ =>
    refine eqs tm (fun z e => by cases e) ?_
    simp_all_arith! only [and_true]
    refine eqs tm (fun z e => by cases e) ?_
    simp_all_arith! only [wholeD]
    exact ⟨(t1_pl tm).1, h⟩
def pMany (x : D) (Q : D → Prop) : Prop := ∃ fs ms : List D, x = .tup [.tup fs, .tup ms] ∧ fs.length ≤ 100 ∧ (∀ d ∈ ms, T1 d) ∧ Q (.int (manyP fs ms))
def f_many_places : Fw := F1 pMany
def t_many_places : TS3 := (dSeq (dAsg (cVar 0) (kTup 2 (kCons (kName 1) (kCons (kName 2) kNil)))) (dRet (cOp addD (cOp mulD (cC (.int 3)) (cOp subD (cCall lenF (cCons (cVar 1) cNil)) (cC (.int 2)))) (cCount (cVar 2) (cC (.str "third"))))))
theorem len_many_places : ∀ ds Q, f_many_places ds Q → ds.length = 1 := lenF1
theorem ob_many_places : ∀ ds (Q : D → Prop), f_many_places ds Q → t_many_places { nx := fun _ => Q .non, rt := Q } (start3 ["fan", "fractions", "marks"] ds) := by
  rintro ds Q ⟨x, rfl, fs, ms, rfl, hl, hm, h⟩
  simp_all_arith! only [t_many_places]
  refine ⟨by (first | exact divL _ (by decide) | exact powL _ _ (by decide) | exact modL _ (by first | decide | omega) | exact mul_ok_l (by decide) (by decide) | exact mul_ok_r (by decide) (by decide) | omega | decide), Nat.le_trans (t1L_dep hm) (by decide), by decide, ?_⟩
  exact h
def V1 (P : D → (D → Prop) → (D → Prop) → Prop) : FwV := fun ds Q R => ∃ x, ds = [x] ∧ P x Q R
theorem lenV1 {P} : ∀ ds (Q R : D → Prop), V1 P ds Q R → ds.length = 1 := by rintro ds Q R ⟨x, rfl, _⟩; rfl
theorem V1_eq {P} {x : D} {Q R} : V1 P [x] Q R = P x Q R := by
  apply propext; constructor
  · rintro ⟨y, e, h⟩; cases e; exact h
  · exact fun h => ⟨x, rfl, h⟩
theorem firstBad_some {p : Nat → Bool} {n i : Nat} (hi : i < n) (h : p i = false) (a : ∀ j, j < i → p j = true) : firstBad p n = some i := by
  unfold firstBad
  rw [List.find?_range_eq_some]
  exact ⟨by simp [h], by simp [hi], fun j hj => by simp [a j hj]⟩
theorem firstBad_none {p : Nat → Bool} {n : Nat} (a : ∀ j, j < n → p j = true) : firstBad p n = none := by
  unfold firstBad
  rw [List.find?_eq_none]
  intro j hj
  simp [a j (List.mem_range.mp hj)]
theorem ints_at {n i : Nat} {x : D} (hx : (intsD 0 n)[i]? = some x) : x = .int (i : Int) ∧ i < n := by
  have hi : i < n := by
    have := (List.getElem?_eq_some_iff.mp hx).1
    simpa [intsD] using this
  unfold intsD at hx
  rw [List.getElem?_map, List.getElem?_range hi] at hx
  cases hx
  exact ⟨by show D.int (0 + (i : Int)) = _; rw [Int.zero_add], hi⟩
theorem faultD_not {x : D} (h : twoT x = false) : faultD x = some (("fan" : Str), 0) := by
  unfold faultD
  split
  · cases h
  · rfl
theorem twoT_is {x : D} (h : twoT x = true) : ∃ fs ms, x = .tup [.tup fs, .tup ms] := by
  unfold twoT at h
  split at h
  · exact ⟨_, _, rfl⟩
  · cases h
def noFan (w : Str) (i : Int) : D := excD "NoFan" ["where", "at"] [.str w, .int i]
def outV (o : Option (Str × Int)) (Q R : D → Prop) : Prop := match o with | none => Q .non | some (w, i) => R (noFan w i)
def pLookV (x : D) (Q R : D → Prop) : Prop := T3 x ∧ outV (faultD x) Q R
def fv_look : FwV := V1 pLookV
def tv_look : TS5 := (vSeq (vIf (cNot (cTest (cCall f_are_two_tuples (cCons (cVar 0) cNil)))) (vRaise "NoFan" ["where", "at"] [.int 0] (cCons (cC (.str "fan")) cNil)) (vUp dNext)) (vSeq (vUp (dAsg (cVar 0) (kTup 2 (kCons (kName 1) (kCons (kName 2) kNil))))) (vSeq (vIf (cNot (cTest (cChain leD leD (cC (.int 2)) (cCall lenF (cCons (cVar 1) cNil)) (cC (.int 22))))) (vRaise "NoFan" ["where", "at"] [.int 0] (cCons (cC (.str "many")) cNil)) (vUp dNext)) (vSeq (vForR rng1 (cCons (cCall lenF (cCons (cVar 1) cNil)) cNil) (kName 3) (vIf (cNot (cTest (cCall f_is_due_fraction (cCons (cVar 1) (cCons (cVar 3) cNil))))) (vRaise "NoFan" ["where", "at"] [] (cCons (cC (.str "fraction")) (cCons (cVar 3) cNil))) (vUp dNext))) (vSeq (vIf (cTest (cOp (inLD true) (cC (.tup [.int 0, .int 1])) (cVar 1))) (vRaise "NoFan" ["where", "at"] [.int 0] (cCons (cC (.str "nought")) cNil)) (vUp dNext)) (vSeq (vIf (cTest (cOp neF (cCall lenF (cCons (cVar 2) cNil)) (cCall lenF (cCons (cVar 1) cNil)))) (vRaise "NoFan" ["where", "at"] [.int 0] (cCons (cC (.str "marks")) cNil)) (vUp dNext)) (vSeq (vForR rng1 (cCons (cCall lenF (cCons (cVar 2) cNil)) cNil) (kName 4) (vIf (cNot (cTest (cCall f_is_due_mark (cCons (cVar 2) (cCons (cVar 4) cNil))))) (vRaise "NoFan" ["where", "at"] [] (cCons (cC (.str "mark")) (cCons (cVar 4) cNil))) (vUp dNext))) (vIf (cNot (cTest (cChain leD leD (cC (.int 1)) (cCall f_many_places (cCons (cVar 0) cNil)) (cC (.int 60))))) (vRaise "NoFan" ["where", "at"] [.int 0] (cCons (cC (.str "places")) cNil)) (vUp dNext)))))))))
theorem lenv_look : ∀ ds (Q R : D → Prop), fv_look ds Q R → ds.length = 1 := lenV1
theorem obv_look : ∀ ds (Q R : D → Prop), fv_look ds Q R → tv_look { nx := fun _ => Q .non, rt := Q, xc := R } (start3 ["thing", "fractions", "marks", "at", "gap"] ds) := by
  rintro ds Q R ⟨x, rfl, hx, h⟩
  simp_all_arith! only [tv_look, f_are_two_tuples, F1_eq, pTwo]
  refine ⟨hx, ?_⟩
  cases h2 : twoT x with
  | false =>
    simp_all_arith! only [and_true]
    rw [faultD_not h2] at h
    exact h
  | true =>
    obtain ⟨fs, ms, rfl⟩ := twoT_is h2
    have hfs := t2_parts ((t3_parts hx).2 (.tup fs) (by simp))
    have hms := t2_parts ((t3_parts hx).2 (.tup ms) (by simp))
    replace h : outV (faultP fs ms) Q R := h
    have hE : ∀ w i, faultP fs ms = some (w, i) → R (noFan w i) := fun w i e => by rw [e] at h; exact h
    have hN : faultP fs ms = none → Q .non := fun e => by rw [e] at h; exact h
    simp_all_arith! only [and_true]
    by_cases c1 : 2 ≤ fs.length ∧ fs.length ≤ 22
    · rw [if_pos (by omega), if_neg (by omega)]
      refine ⟨by omega, by omega, ?_⟩
      rw [Int.toNat_natCast]
      have ln : ∀ n : Nat, (intsD 0 n).length = n := fun n => by simp [intsD]
      refine vturns_of (fun i e => (∀ j, j < i → due fs j = true) ∧ ∃ k3 k4, e = [some (.d (.tup [.tup fs, .tup ms])), some (.d (.tup fs)), some (.d (.tup ms)), k3, k4]) ?_ ?_ ⟨fun j hj => absurd hj (Nat.not_lt_zero j), _, _, rfl⟩
      · rintro i x env N hx ⟨hb, k3, k4, rfl⟩ hNn
        obtain ⟨rfl, hi⟩ := ints_at hx
        simp_all_arith! only [f_is_due_fraction, F2_eq, pDueF]
        refine ⟨fs, i, rfl, rfl, hi, hfs.1, hfs.2, hb, ?_⟩
        cases hd : due fs i with
        | false =>
          simp_all_arith! only [id]
          refine hE _ _ ?_
          unfold faultP
          rw [if_neg (by simp [c1]), firstBad_some hi hd hb]
        | true =>
          simp_all_arith! only [id]
          exact hNn _ ⟨fun j hj => by rcases Nat.lt_succ_iff_lt_or_eq.mp hj with z | z; exact hb j z; rw [z]; exact hd, _, _, rfl⟩
      rintro env ⟨hb, k3, k4, rfl⟩
      rw [ln] at hb
      have fb := firstBad_none hb
      simp_all_arith! only [inLD]
      refine ⟨Nat.le_trans (t1L_dep hfs.2) (by decide), by decide, ?_⟩
      cases c2 : hasN fs with
      | false =>
        have c2' := c2
        unfold hasN at c2'
        rw [c2']
        simp_all_arith! only [and_true]
        refine hE _ _ ?_
        unfold faultP
        rw [if_neg (by simp [c1]), fb]
        simp only [c2, if_true]
      | true =>
        have c2' := c2
        unfold hasN at c2'
        rw [c2']
        simp_all_arith! only [neF_ii]
        by_cases c3 : ms.length = fs.length
        · rw [if_neg (by simp [c3])]
          refine ⟨by omega, by omega, ?_⟩
          rw [Int.toNat_natCast]
          refine vturns_of (fun i e => (∀ j, j < i → dueM ms j = true) ∧ ∃ k3 k4, e = [some (.d (.tup [.tup fs, .tup ms])), some (.d (.tup fs)), some (.d (.tup ms)), k3, k4]) ?_ ?_ ⟨fun j hj => absurd hj (Nat.not_lt_zero j), _, _, rfl⟩
          · rintro i x env N hx ⟨hb, k3, k4, rfl⟩ hNn
            obtain ⟨rfl, hi⟩ := ints_at hx
            simp_all_arith! only [f_is_due_mark, F2_eq, pDueM]
            refine ⟨ms, i, rfl, rfl, hi, hms.1, hms.2, ?_⟩
            cases hd : dueM ms i with
            | false =>
              simp_all_arith! only [id]
              refine hE _ _ ?_
              unfold faultP
              rw [if_neg (by simp [c1]), fb]
              simp only [c2, c3, ne_eq, not_true, if_false, Bool.true_eq_false]
              rw [← c3, firstBad_some hi hd hb]
            | true =>
              simp_all_arith! only [id]
              exact hNn _ ⟨fun j hj => by rcases Nat.lt_succ_iff_lt_or_eq.mp hj with z | z; exact hb j z; rw [z]; exact hd, _, _, rfl⟩
          rintro env ⟨hb, k3, k4, rfl⟩
          rw [ln] at hb
          have fm := firstBad_none hb
          have all : ∀ o, (if 1 ≤ manyP fs ms ∧ manyP fs ms ≤ 60 then none else some (("places" : Str), (0 : Int))) = o → faultP fs ms = o := fun o e => by
            unfold faultP
            rw [if_neg (by simp [c1]), fb]
            simp only [c2, c3, ne_eq, not_true, if_false, Bool.true_eq_false]
            rw [← c3, fm]; exact e
          simp_all_arith! only [f_many_places, F1_eq, pMany]
          refine ⟨fs, ms, rfl, rfl, hfs.1, hms.2, ?_⟩
          by_cases c4 : 1 ≤ manyP fs ms
          · rw [if_pos c4]
            by_cases c5 : manyP fs ms ≤ 60
            · rw [if_neg (by simp [c5])]
              exact hN (all _ (if_pos ⟨c4, c5⟩))
            · rw [if_pos c5]
              exact hE _ _ (all _ (if_neg fun z => c5 z.2))
          · rw [if_neg c4]
            exact hE _ _ (all _ (if_neg fun z => c4 z.1))
        · rw [if_pos (by omega)]
          refine hE _ _ ?_
          unfold faultP
          rw [if_neg (by simp [c1]), fb]
          simp only [c2, c3, ne_eq, not_false_eq_true, if_true, if_false, Bool.true_eq_false]
    · have e : faultP fs ms = some (("many" : Str), 0) := by unfold faultP; rw [if_pos c1]
      by_cases c : (2 : Int) ≤ fs.length
      · rw [if_pos c, if_pos (by omega)]; exact hE _ _ e
      · rw [if_neg c]; exact hE _ _ e
def pGcd0 (x y : D) (Q : D → Prop) : Prop := ∃ p q : Int, x = .int p ∧ y = .int q ∧ 0 ≤ q ∧ Q (.int (Int.gcd p q))
def f_law_common : Fw := F2 pGcd0
def t_law_common : TS3 := (dSeq (dSet 0 (cCall absF (cCons (cVar 0) cNil))) (dSeq (dWhile (cTest (cOp gtD (cVar 1) (cC (.int 0)))) (dPar 0 1 (cCons (cVar 1) (cCons (cOp modD (cVar 0) (cVar 1)) cNil)))) (dRet (cVar 0))))
theorem len_law_common : ∀ ds Q, f_law_common ds Q → ds.length = 2 := lenF2
theorem ob_law_common : ∀ ds (Q : D → Prop), f_law_common ds Q → t_law_common { nx := fun _ => Q .non, rt := Q } (start3 ["_law_one", "_law_other"] ds) := by
  rintro ds Q ⟨x, y, rfl, p, q, rfl, rfl, hq, h⟩
  simp_all_arith only [t_law_common, dWhile]
  refine ⟨fun e => ∃ a b : Int, e = [some (.d (.int a)), some (.d (.int b))] ∧ 0 ≤ a ∧ 0 ≤ b ∧ Int.gcd a b = Int.gcd p q,
    fun e => match e with | [_, some (.d (.int b))] => b.toNat | _ => 0, ⟨_, _, rfl, by omega, by omega, by simp [Int.gcd]⟩, ?_⟩
  rintro env ⟨a, b, rfl, ha, hb, hg⟩
  simp_all_arith only [and_true]
  by_cases hz : 0 < b
  · have f := fmod_range (a := a) (b := b) (by omega)
    simp only [hz, if_true, ModOk, ne_eq]
    refine ⟨by omega, ⟨_, _, rfl, rfl, hb, f.1, ?_⟩, by show (a.fmod b).toNat < b.toNat; omega⟩
    rw [← hg]; exact gcd_fmod a b ha (by omega)
  · have hz' : b = 0 := by omega
    subst hz'
    simp only [Int.lt_irrefl, if_false]
    have : ((Int.gcd p q : Nat) : Int) = a := by rw [← hg]; simp; omega
    rw [this] at h; exact h
def pFrac1 (x : D) (Q : D → Prop) : Prop := T1 x ∧ Q (.bl (fracD x))
def f_law_is_fraction : Fw := F1 pFrac1
def t_law_is_fraction : TS3 := (dSeq (dIf (cOr (cNot (cTest (cIsi "tuple" (cVar 0)))) (cOr (cTest (cOp neF (cCall lenF (cCons (cVar 0) cNil)) (cC (.int 2)))) (cOr (cNot (cTest (cCall f_law_whole (cCons (cOp ixD (cVar 0) (cC (.int 0))) cNil)))) (cNot (cTest (cCall f_law_whole (cCons (cOp ixD (cVar 0) (cC (.int 1))) cNil))))))) (dRet (cC (.bl false))) dNext) (dRet (cOrV (cOp eqF (cVar 0) (cTup (cCons (cC (.int 1)) (cCons (cC (.int 0)) cNil)))) (cAndV (cOp gtD (cOp ixD (cVar 0) (cC (.int 1))) (cC (.int 0))) (cOp eqF (cCall f_law_common (cCons (cOp ixD (cVar 0) (cC (.int 0))) (cCons (cOp ixD (cVar 0) (cC (.int 1))) cNil))) (cC (.int 1)))))))
theorem len_law_is_fraction : ∀ ds Q, f_law_is_fraction ds Q → ds.length = 1 := lenF1
theorem ob_law_is_fraction : ∀ ds (Q : D → Prop), f_law_is_fraction ds Q → t_law_is_fraction { nx := fun _ => Q .non, rt := Q } (start3 ["_law_thing_here"] ds) := by
  rintro ds Q ⟨x, rfl, hx, h⟩
  simp_all_arith! only [t_law_is_fraction, f_law_whole, f_law_common, F1_eq, F2_eq, pWhole]
  obtain ⟨p1, p2⟩ := t1_pl hx
  refine isi_tup p1 ⟨_, rfl, ?_⟩
  cases x with
  | tup xs =>
    simp_all_arith! only [isTup]
    by_cases hn : (xs.length : Int) = 2
    · have hp := (p2 xs rfl).2
      match xs, hn, hp, h with
      | [a, b], _, hp, h =>
        have pa := hp a (by simp)
        have pb := hp b (by simp)
        simp_all_arith! only [and_true]
        refine ⟨a, rfl, pa, ?_⟩
        cases a with
        | int p =>
          simp_all_arith! only [wholeD]
          refine ⟨b, rfl, pb, ?_⟩
          cases b with
          | int q =>
            simp_all_arith! only [wholeD]
            rw [show D.tup [.int p, .int q] = frD (p, q) from rfl, show D.tup [.int 1, .int 0] = frD (1, 0) from rfl, eqF_fr]
            simp_all_arith! only [and_true]
            by_cases c1 : (p, q) = ((1, 0) : Z2)
            · rw [if_pos c1]
              cases c1
              exact h
            · rw [if_neg c1]
              simp_all_arith! only [ixfr0, ixfr1]
              by_cases c2 : 0 < q
              · rw [if_pos c2]
                refine ⟨p, q, rfl, rfl, by omega, ?_⟩
                simp_all_arith! only [and_true]
                have e : fracD (.tup [.int p, .int q]) = decide (((Int.gcd p q : Nat) : Int) = 1) := by
                  simp only [fracD, c2, decide_true, Bool.true_or, Bool.and_true]
                  rw [decide_eq_decide]; omega
                rw [e] at h; exact h
              · rw [if_neg c2]
                have e : fracD (.tup [.int p, .int q]) = false := by
                  simp only [fracD, c2, decide_false, Bool.false_or]
                  by_cases z : q = 0
                  · have : p ≠ 1 := fun w => c1 (by rw [w, z])
                    simp [this]
                  · simp [z]
                rw [e] at h; exact h
          | _ => simp_all_arith! only [wholeD]; exact h
        | _ => simp_all_arith! only [wholeD]; cases b <;> exact h
    · rw [if_pos (by simp [hn])]
      have : fracD (.tup xs) = false := by
        unfold fracD
        split
        · rename_i e; cases e; exact absurd rfl hn
        · rfl
      rw [this] at h; exact h
  | _ => simp_all_arith! only [isTup]; exact h
def f_law_bad_fraction : Fw := F2 fun x y => pDueF x y not
def t_law_bad_fraction : TS3 := (dSeq (dSet 2 (cOp ixD (cVar 0) (cVar 1))) (dSeq (dIf (cOr (cNot (cTest (cCall f_law_is_fraction (cCons (cVar 2) cNil)))) (cTest (cOp neF (cOp eqF (cVar 1) (cC (.int 0))) (cOp eqF (cVar 2) (cTup (cCons (cC (.int 1)) (cCons (cC (.int 0)) cNil))))))) (dRet (cC (.bl true))) dNext) (dSeq (dIf (cTest (cOp eqF (cVar 1) (cC (.int 0)))) (dRet (cC (.bl false))) dNext) (dSeq (dSet 3 (cOp ixD (cVar 0) (cOp subD (cVar 1) (cC (.int 1))))) (dSeq (dIf (cTest (cOp neF (cCall absF (cCons (cOp subD (cOp mulD (cOp ixD (cVar 3) (cC (.int 0))) (cOp ixD (cVar 2) (cC (.int 1)))) (cOp mulD (cOp ixD (cVar 3) (cC (.int 1))) (cOp ixD (cVar 2) (cC (.int 0))))) cNil)) (cC (.int 1)))) (dRet (cC (.bl true))) dNext) (dSeq (dIf (cAnd (cTest (cOp gtD (cVar 1) (cC (.int 1)))) (cTest (cOp leD (cOp mulD (cOp ixD (cVar 2) (cC (.int 0))) (cOp ixD (cVar 3) (cC (.int 1)))) (cOp mulD (cOp ixD (cVar 3) (cC (.int 0))) (cOp ixD (cVar 2) (cC (.int 1))))))) (dRet (cC (.bl true))) dNext) (dRet (cAndV (cOp eqF (cVar 1) (cOp subD (cCall lenF (cCons (cVar 0) cNil)) (cC (.int 1)))) (cOp neF (cOp ixD (cVar 2) (cC (.int 1))) (cC (.int 1)))))))))))
theorem len_law_bad_fraction : ∀ ds Q, f_law_bad_fraction ds Q → ds.length = 2 := lenF2
theorem ob_law_bad_fraction : ∀ ds (Q : D → Prop), f_law_bad_fraction ds Q → t_law_bad_fraction { nx := fun _ => Q .non, rt := Q } (start3 ["_law_fractions_here", "_law_i", "_law_here", "_law_ahead"] ds) := by
  rintro ds Q ⟨x, y, rfl, fs, i, rfl, rfl, hi, hl, ht, hb, h⟩
  simp_all_arith! only [t_law_bad_fraction, f_law_is_fraction, F1_eq, pFrac1]
  have tm := ht _ (getD_mem hi)
  refine ixT hi ⟨tm, ?_⟩
  unfold due at h
  generalize hx : fs.getD i .non = x at *
  cases hf : fracD x with
  | false =>
    rw [hf] at h
    simp_all_arith! only [and_true]
    exact h
  | true =>
    obtain ⟨ex, fp⟩ := frac_pz hf
    rw [hf] at h
    generalize pz x = p at *
    subst ex
    have bp := t1_fr tm
    simp_arith only [dTryR, cCallV, vRaise, vIf, vUp, vSeq, vForR, isxDF, cFldX, kPut, dPopI, dFreezeM, top_fr, eqF_fr, Bool.true_and] at h ⊢
    refine ⟨⟨by simp [dep], by simp [dep]⟩, ?_⟩
    have eb : ∀ a b : Bool, eqD (.bl a) (.bl b) = (a == b) := fun a b => rfl
    rw [eb]
    by_cases z : i = 0
    · have z' : (i : Int) = 0 := by omega
      rw [if_pos z] at h
      rw [decide_eq_true z']
      by_cases c1 : p = (1, 0)
      · simp_arith only [c1, decide_true, dTryR, cCallV, vRaise, vIf, vUp, vSeq, vForR, isxDF, cFldX, kPut, dPopI, dFreezeM, beq_self_eq_true] at h ⊢
        rw [if_pos z']; exact h
      · simp_arith only [c1, decide_false, dTryR, cCallV, vRaise, vIf, vUp, vSeq, vForR, isxDF, cFldX, kPut, dPopI, dFreezeM] at h ⊢
        exact h
    · have z' : ¬ (i : Int) = 0 := by omega
      rw [if_neg z] at h
      rw [decide_eq_false z']
      by_cases c1 : p = (1, 0)
      · simp_arith only [c1, decide_true, dTryR, cCallV, vRaise, vIf, vUp, vSeq, vForR, isxDF, cFldX, kPut, dPopI, dFreezeM, Bool.false_and] at h ⊢
        exact h
      · simp_arith only [c1, decide_false, dTryR, cCallV, vRaise, vIf, vUp, vSeq, vForR, isxDF, cFldX, kPut, dPopI, dFreezeM, Bool.true_and, beq_self_eq_true] at h ⊢
        rw [if_neg z']
        rw [show ((i : Int) - 1) = ((i - 1 : Nat) : Int) by omega]
        have hi1 : i - 1 < fs.length := by omega
        have tm1 := ht _ (getD_mem hi1)
        have hd1 := hb (i - 1) (by omega)
        unfold due at hd1
        refine ixT hi1 ?_
        generalize fs.getD (i - 1) .non = y at *
        simp only [Bool.and_eq_true] at hd1
        obtain ⟨ey, fy⟩ := frac_pz hd1.1
        generalize pz y = r at *
        subst ey
        have br := t1_fr tm1
        simp_all_arith! only [ixfr0, ixfr1, neF_ii]
        refine ⟨mul_ok br.1 bp.2 (by decide), mul_ok br.2 bp.1 (by decide), ?_⟩
        have q0 : 0 < p.2 := by
          rcases fp.2 with q | ⟨q1, q2⟩
          · exact q
          · exact absurd (Prod.ext q2 q1) c1
        have en : (((r.1 * p.2 - r.2 * p.1).natAbs : Nat) : Int) = (((p.1 * r.2 - p.2 * r.1).natAbs : Nat) : Int) := by
          rw [Int.mul_comm r.1, Int.mul_comm r.2]; omega
        rw [en]
        by_cases c2 : (((p.1 * r.2 - p.2 * r.1).natAbs : Nat) : Int) = 1
        · rw [if_neg (by simp [c2])]
          simp_arith only [c2, decide_true, dTryR, cCallV, vRaise, vIf, vUp, vSeq, vForR, isxDF, cFldX, kPut, dPopI, dFreezeM, Bool.true_and] at h ⊢
          have fin : Q (.bl (!(decide (i + 1 < fs.length) || decide (p.2 = 1)))) → if (i : Int) = (fs.length : Int) - 1 then Q (D.bl (!decide (p.2 = 1))) else Q (.bl false) := fun h => by
            by_cases e : i + 1 < fs.length
            · rw [if_neg (by omega)]
              rw [decide_eq_true e] at h; exact h
            · rw [if_pos (by omega)]
              rw [decide_eq_false e, Bool.false_or] at h
              exact h
          by_cases c : 1 < i
          · rw [if_pos (by omega)]
            refine ⟨mul_ok bp.1 br.2 (by decide), mul_ok br.1 bp.2 (by decide), ?_⟩
            rw [decide_eq_false (by omega : ¬ i ≤ 1), Bool.false_or] at h
            by_cases c3 : r.1 * p.2 < p.1 * r.2
            · rw [if_neg (by omega)]
              simp only [c3, decide_true, Bool.true_and] at h
              exact fin h
            · rw [if_pos (by omega)]
              simp only [c3, decide_false, Bool.false_and] at h
              exact h
          · rw [if_neg (by omega)]
            rw [decide_eq_true (by omega : i ≤ 1), Bool.true_or, Bool.true_and] at h
            exact fin h
        · rw [if_pos (by simp [c2])]
          simp only [c2, decide_false, Bool.false_and] at h
          exact h
def f_law_bad_mark : Fw := F2 fun x y => pDueM x y not
def t_law_bad_mark : TS3 := (dSeq (dSet 2 (cOp ixD (cVar 0) (cVar 1))) (dSeq (dIf (cTest (cIsi "str" (cVar 2))) (dRet (cOp (inLD true) (cVar 2) (cLst (cCons (cC (.str "half")) (cCons (cC (.str "third")) cNil))))) dNext) (dSeq (dIf (cOr (cNot (cTest (cCall f_law_whole (cCons (cVar 2) cNil)))) (cOr (cTest (cOp ltD (cVar 2) (cC (.int 0)))) (cOr (cTest (cOp geD (cVar 2) (cCall lenF (cCons (cVar 0) cNil)))) (cTest (cOp eqF (cVar 2) (cVar 1)))))) (dRet (cC (.bl true))) dNext) (dRet (cOrV (cNotV (cCall f_law_whole (cCons (cOp ixD (cVar 0) (cVar 2)) cNil))) (cOp neF (cOp ixD (cVar 0) (cVar 2)) (cVar 1)))))))
theorem len_law_bad_mark : ∀ ds Q, f_law_bad_mark ds Q → ds.length = 2 := lenF2
theorem ob_law_bad_mark : ∀ ds (Q : D → Prop), f_law_bad_mark ds Q → t_law_bad_mark { nx := fun _ => Q .non, rt := Q } (start3 ["_law_marks_here", "_law_i", "_law_mark"] ds) := by
  rintro ds Q ⟨x, y, rfl, ms, i, rfl, rfl, hi, hl, ht, h⟩
  simp_all_arith! only [t_law_bad_mark, f_law_whole, F1_eq, pWhole]
  have tm := ht _ (getD_mem hi)
  refine ixT hi (isi_str (t1_pl tm).1 ⟨_, rfl, ?_⟩)
  unfold dueM at h
  generalize hx : ms.getD i .non = x at *
  cases x with
  | str z =>
    replace h : Q (.bl (!(z == ("half" : Str) || z == ("third" : Str)))) := h
    simp_all_arith! only [isStr, inLD]
    refine ⟨by decide, by simp [dep], ?_⟩
    simp only [List.any_cons, List.any_nil, Bool.or_false, eqD]
    have e : ∀ a b : Str, (a == b) = (b == a) := fun a b => by
      by_cases z : a = b
      · rw [z]
      · rw [beq_eq_false_iff_ne.mpr z, beq_eq_false_iff_ne.mpr (Ne.symm z)]
    rw [e "half" z, e "third" z]
    exact h
  | int m =>
    simp_all_arith! only [isStr, wholeD]
    refine ⟨fun e => (by cases e), ?_⟩
    replace h : Q (.bl (!(decide (m ≠ i) && decide (0 ≤ m) && decide (m < ms.length) && isI i (ms.getD m.toNat .non)))) := h
    by_cases c2 : m < 0
    · rw [if_pos c2]
      simp only [show ¬ (0 ≤ m) by omega, decide_false, Bool.and_false, Bool.false_and] at h
      exact h
    · rw [if_neg c2]
      by_cases c3 : (ms.length : Int) ≤ m
      · rw [if_pos c3]
        simp only [show ¬ (m < ms.length) by omega, decide_false, Bool.and_false, Bool.false_and] at h
        exact h
      · rw [if_neg c3]
        by_cases c1 : m = i
        · rw [if_pos c1]
          simp only [c1, ne_eq, not_true, decide_false, Bool.false_and] at h
          exact h
        · rw [if_neg c1]
          simp only [c1, ne_eq, not_false_eq_true, show 0 ≤ m by omega, show m < ms.length by omega, decide_true, Bool.true_and] at h
          obtain ⟨j, rfl⟩ : ∃ j : Nat, m = j := ⟨m.toNat, by omega⟩
          rw [Int.toNat_natCast] at h
          have hj : j < ms.length := by omega
          refine ixT hj ⟨(t1_pl (ht _ (getD_mem hj))).1, ?_⟩
          generalize hy : ms.getD j .non = y at *
          cases y with
          | int k =>
            simp_all_arith! only [wholeD]
            refine ixT hj ?_
            rw [hy]
            simp_all_arith! only [neF_ii]
            exact h
          | _ => simp_all_arith! only [wholeD]; exact h
  | _ =>
    simp_all_arith! only [isStr, wholeD]
    exact ⟨(t1_pl tm).1, h⟩
def pFault (x : D) (Q : D → Prop) : Prop := T3 x ∧ Q (resD (faultD x))
def f_law_fault : Fw := F1 pFault
def t_law_fault : TS3 := (dSeq (dIf (cOr (cNot (cTest (cIsi "tuple" (cVar 0)))) (cOr (cTest (cOp neF (cCall lenF (cCons (cVar 0) cNil)) (cC (.int 2)))) (cNot (cTest (cCall allF (cCons (cFresh (cComp [] (cVar 0) cTrue (cIsi "tuple" (cVar 0)))) cNil)))))) (dRet (cLst (cCons (cC (.str "fan")) (cCons (cC (.int 0)) cNil)))) dNext) (dSeq (dAsg (cVar 0) (kTup 2 (kCons (kName 1) (kCons (kName 2) kNil)))) (dSeq (dIf (cNot (cTest (cChain leD leD (cC (.int 2)) (cCall lenF (cCons (cVar 1) cNil)) (cC (.int 22))))) (dRet (cLst (cCons (cC (.str "many")) (cCons (cC (.int 0)) cNil)))) dNext) (dSeq (dForR rng1 (cCons (cCall lenF (cCons (cVar 1) cNil)) cNil) (kName 3) (dIf (cTest (cCall f_law_bad_fraction (cCons (cVar 1) (cCons (cVar 3) cNil)))) (dRet (cLst (cCons (cC (.str "fraction")) (cCons (cVar 3) cNil)))) dNext)) (dSeq (dIf (cTest (cOp (inLD true) (cTup (cCons (cC (.int 0)) (cCons (cC (.int 1)) cNil))) (cVar 1))) (dRet (cLst (cCons (cC (.str "nought")) (cCons (cC (.int 0)) cNil)))) dNext) (dSeq (dIf (cTest (cOp neF (cCall lenF (cCons (cVar 2) cNil)) (cCall lenF (cCons (cVar 1) cNil)))) (dRet (cLst (cCons (cC (.str "marks")) (cCons (cC (.int 0)) cNil)))) dNext) (dSeq (dForR rng1 (cCons (cCall lenF (cCons (cVar 2) cNil)) cNil) (kName 3) (dIf (cTest (cCall f_law_bad_mark (cCons (cVar 2) (cCons (cVar 3) cNil)))) (dRet (cLst (cCons (cC (.str "mark")) (cCons (cVar 3) cNil)))) dNext)) (dSeq (dSet 4 (cOp addD (cOp mulD (cC (.int 3)) (cOp subD (cCall lenF (cCons (cVar 1) cNil)) (cC (.int 2)))) (cCall lenF (cCons (cFresh (cComp [] (cVar 2) (cTest (cOp eqF (cVar 0) (cC (.str "third")))) (cVar 0))) cNil)))) (dSeq (dIf (cOr (cTest (cOp ltD (cVar 4) (cC (.int 1)))) (cTest (cOp gtD (cVar 4) (cC (.int 60))))) (dRet (cLst (cCons (cC (.str "places")) (cCons (cC (.int 0)) cNil)))) dNext) (dRet (cC .non)))))))))))
theorem len_law_fault : ∀ ds Q, f_law_fault ds Q → ds.length = 1 := lenF1
theorem ob_law_fault : ∀ ds (Q : D → Prop), f_law_fault ds Q → t_law_fault { nx := fun _ => Q .non, rt := Q } (start3 ["_law_thing_here", "_law_fractions_here", "_law_marks_here", "_law_i", "_law_many"] ds) := by
  rintro ds Q ⟨x, rfl, hx, h⟩
  simp_all_arith! only [t_law_fault]
  refine isi_tup (t3_pl hx) ⟨_, rfl, ?_⟩
  have two : twoT x = false → Q (.lst [.str "fan", .int 0]) := fun z => by
    rw [faultD_not z] at h; exact h
  cases x with
  | tup xs =>
    simp_all_arith! only [isTup]
    by_cases hn : (xs.length : Int) = 2
    · obtain ⟨_, hp⟩ := t3_parts hx
      match xs, hn, hp, h, two with
      | [a, b], _, hp, h, two =>
        have pa := t2_pl (hp a (by simp))
        have pb := t2_pl (hp b (by simp))
        simp_all_arith! only [and_true]
        refine comps_map (fun x => .bl (isTup x)) [a, b] [] (fun x hx N hN => ?_) (by simp [PySem.sizeLine_eq]) ?_
        · simp_all_arith! only [capE]
          refine isi_tup ?_ hN
          rcases List.mem_cons.mp hx with rfl | hx
          · exact pa
          · rw [List.mem_singleton.mp hx]; exact pb
        refine ⟨[isTup a, isTup b], rfl, ?_⟩
        cases h2 : twoT (.tup [a, b]) with
        | false =>
          have e : ([isTup a, isTup b].all id) = false := by
            cases a <;> cases b <;> first | rfl | cases h2
          rw [e]
          simp_all_arith! only [and_true]
          exact two h2
        | true =>
          obtain ⟨fs, ms, e⟩ := twoT_is h2
          cases e
          have hfs := t2_parts (hp (.tup fs) (by simp))
          have hms := t2_parts (hp (.tup ms) (by simp))
          replace h : Q (resD (faultP fs ms)) := h
          have hE : ∀ w i, faultP fs ms = some (w, i) → Q (.lst [.str w, .int i]) := fun w i e => by rw [e] at h; exact h
          have hN : faultP fs ms = none → Q .non := fun e => by rw [e] at h; exact h
          simp_all_arith! only [isTup, List.all_cons, List.all_nil, id, Bool.and_true]
          by_cases c1 : 2 ≤ fs.length ∧ fs.length ≤ 22
          · rw [if_pos (by omega), if_neg (by omega)]
            refine ⟨by omega, by omega, ?_⟩
            rw [Int.toNat_natCast]
            have ln : ∀ n : Nat, (intsD 0 n).length = n := fun n => by simp [intsD]
            refine turns_of (fun i e => (∀ j, j < i → due fs j = true) ∧ ∃ k3 k4, e = [some (.d (.tup [.tup fs, .tup ms])), some (.d (.tup fs)), some (.d (.tup ms)), k3, k4]) ?_ ?_ ⟨fun j hj => absurd hj (Nat.not_lt_zero j), _, _, rfl⟩
            · rintro i x env N hx ⟨hb, k3, k4, rfl⟩ hNn
              obtain ⟨rfl, hi⟩ := ints_at hx
              simp_all_arith! only [f_law_bad_fraction, F2_eq, pDueF]
              refine ⟨fs, i, rfl, rfl, hi, hfs.1, hfs.2, hb, ?_⟩
              cases hd : due fs i with
              | false =>
                simp_all_arith! only [and_true]
                refine hE _ _ ?_
                unfold faultP
                rw [if_neg (by simp [c1]), firstBad_some hi hd hb]
              | true =>
                simp_all_arith! only [and_true]
                exact hNn _ ⟨fun j hj => by rcases Nat.lt_succ_iff_lt_or_eq.mp hj with z | z; exact hb j z; rw [z]; exact hd, _, _, rfl⟩
            rintro env ⟨hb, k3, k4, rfl⟩
            rw [ln] at hb
            have fb := firstBad_none hb
            simp_all_arith! only [inLD]
            refine ⟨Nat.le_trans (t1L_dep hfs.2) (by decide), by decide, ?_⟩
            cases c2 : hasN fs with
            | false =>
              have c2' := c2
              unfold hasN at c2'
              rw [c2']
              simp_all_arith! only [and_true]
              refine hE _ _ ?_
              unfold faultP
              rw [if_neg (by simp [c1]), fb]
              simp only [c2, if_true]
            | true =>
              have c2' := c2
              unfold hasN at c2'
              rw [c2']
              simp_all_arith! only [neF_ii]
              by_cases c3 : ms.length = fs.length
              · rw [if_neg (by simp [c3])]
                refine ⟨by omega, by omega, ?_⟩
                rw [Int.toNat_natCast]
                refine turns_of (fun i e => (∀ j, j < i → dueM ms j = true) ∧ ∃ k3 k4, e = [some (.d (.tup [.tup fs, .tup ms])), some (.d (.tup fs)), some (.d (.tup ms)), k3, k4]) ?_ ?_ ⟨fun j hj => absurd hj (Nat.not_lt_zero j), _, _, rfl⟩
                · rintro i x env N hx ⟨hb, k3, k4, rfl⟩ hNn
                  obtain ⟨rfl, hi⟩ := ints_at hx
                  simp_all_arith! only [f_law_bad_mark, F2_eq, pDueM]
                  refine ⟨ms, i, rfl, rfl, hi, hms.1, hms.2, ?_⟩
                  cases hd : dueM ms i with
                  | false =>
                    simp_all_arith! only [and_true]
                    refine hE _ _ ?_
                    unfold faultP
                    rw [if_neg (by simp [c1]), fb]
                    simp only [c2, c3, ne_eq, not_true, if_false, Bool.true_eq_false]
                    rw [← c3, firstBad_some hi hd hb]
                  | true =>
                    simp_all_arith! only [and_true]
                    exact hNn _ ⟨fun j hj => by rcases Nat.lt_succ_iff_lt_or_eq.mp hj with z | z; exact hb j z; rw [z]; exact hd, _, _, rfl⟩
                rintro env ⟨hb, k3, k4, rfl⟩
                rw [ln] at hb
                have fm := firstBad_none hb
                have all : ∀ o, (if 1 ≤ manyP fs ms ∧ manyP fs ms ≤ 60 then none else some (("places" : Str), (0 : Int))) = o → faultP fs ms = o := fun o e => by
                  unfold faultP
                  rw [if_neg (by simp [c1]), fb]
                  simp only [c2, c3, ne_eq, not_true, if_false, Bool.true_eq_false]
                  rw [← c3, fm]; exact e
                simp_all_arith! only [and_true]
                refine ⟨mul_ok_l (by decide) (by decide), ?_⟩
                refine comps_filter (fun d => eqD d (.str "third")) (fun d => d) ms [] (fun d hd N hN' => ?_) (fun d hd _ N hN' => ?_) (by rw [PySem.sizeLine_eq]; simp; omega) ?_
                · simp_all_arith! only [capE]
                  exact ⟨⟨Nat.le_trans (t1_dep (hms.2 d hd)) (by decide), by simp [dep]⟩, _, rfl, hN'⟩
                · simp_all_arith! only [capE]
                  exact hN'
                have e : (([] ++ (ms.filter fun d => eqD d (.str "third")).map fun d => d).length : Int) = (ms.countP fun d => eqD d (.str "third") : Nat) := by
                  rw [List.nil_append, List.length_map, List.countP_eq_length_filter]
                rw [e]
                have em : 3 * ((fs.length : Int) - 2) + (ms.countP fun d => eqD d (.str "third") : Nat) = manyP fs ms := rfl
                rw [em]
                by_cases c4 : manyP fs ms < 1
                · rw [if_pos c4]; exact hE _ _ (all _ (if_neg fun z => by omega))
                · rw [if_neg c4]
                  by_cases c5 : 60 < manyP fs ms
                  · rw [if_pos c5]; exact hE _ _ (all _ (if_neg fun z => by omega))
                  · rw [if_neg c5]; exact hN (all _ (if_pos (by omega)))
              · rw [if_pos (by omega)]
                refine hE _ _ ?_
                unfold faultP
                rw [if_neg (by simp [c1]), fb]
                simp only [c2, c3, ne_eq, not_false_eq_true, if_true, if_false, Bool.true_eq_false]
          · have e : faultP fs ms = some (("many" : Str), 0) := by unfold faultP; rw [if_pos c1]
            by_cases c : (2 : Int) ≤ fs.length
            · rw [if_pos c, if_pos (by omega)]; exact hE _ _ e
            · rw [if_neg c]; exact hE _ _ e
    · rw [if_pos (by simp [hn])]
      refine two ?_
      unfold twoT
      split
      · rename_i e; cases e; exact absurd rfl hn
      · rfl
  | _ => simp_all_arith! only [isTup]; exact two rfl
end K14
set_option Elab.async false
set_option linter.all false
set_option maxRecDepth 100000
set_option maxHeartbeats 4000000
namespace K14
open PySem L2 L2.L3
def It (x : D) : Prop := (∃ i, x = .int i ∧ Bits 30 i) ∨ (∃ z, x = .str z) ∨ ∃ p, x = frD p ∧ B2 30 p
def pChanged (x y : D) (Q : D → Prop) : Prop := ∃ (xs : List D) (m : Nat), x = .tup xs ∧ xs ≠ [] ∧ xs.length ≤ 25 ∧ (∀ d ∈ xs, It d) ∧ Digs m 23 y ∧ 4 ≤ m ∧ ∀ ys : List D, ys.length ≤ 100 → (∀ d ∈ ys, T1 d) → Q (.tup ys)
def f_law_changed : Fw := F2 pChanged
def t_law_changed_11 : TS3 := (dFreezeM 0 (dRet (cCall tupleF (cCons (cVar 0) cNil))))
def t_law_changed_10 : TS3 := (dSeq (dIf (cTest (cOp eqF (cVar 3) (cC (.int 8)))) (dPut 0 (cVar 2) (cOp subD (cOp modD (cOp ixD (cVar 1) (cC (.int 2))) (cOp addD (cLenOwn 0) (cC (.int 2)))) (cC (.int 1)))) dNext) t_law_changed_11)
def t_law_changed_9 : TS3 := (dSeq (dIf (cAnd (cTest (cOp eqF (cVar 3) (cC (.int 7)))) (cTest (cIsi "tuple" (cIxOwn 0 (cVar 2))))) (dPut 0 (cVar 2) (cOp ixD (cLst (cCons (cCall listF (cCons (cIxOwn 0 (cVar 2)) cNil)) (cCons (cSl (cIxOwn 0 (cVar 2)) cNoPart (cPart (cC (.int 1)))) (cCons (cTup (cCons (cOp ixD (cIxOwn 0 (cVar 2)) (cC (.int 0))) (cCons (cC (.bl true)) cNil))) cNil)))) (cOp modD (cOp ixD (cVar 1) (cC (.int 2))) (cC (.int 3))))) dNext) t_law_changed_10)
def t_law_changed_8 : TS3 := (dSeq (dIf (cTest (cOp eqF (cVar 3) (cC (.int 6)))) (dFreezeM 0 (dSet 0 (cOp addD (cVar 0) (cSl (cSl (cLst (cCons (cC (.str "half")) (cCons (cTup (cCons (cC (.int 5)) (cCons (cC (.int 1)) cNil))) (cCons (cC (.str "third")) cNil)))) (cPart (cOp modD (cOp ixD (cVar 1) (cC (.int 2))) (cC (.int 3)))) cNoPart) cNoPart (cPart (cC (.int 1))))))) dNext) t_law_changed_9)
def t_law_changed_7 : TS3 := (dSeq (dIf (cTest (cOp eqF (cVar 3) (cC (.int 5)))) (dSeq (dSet 4 (cLst (cCons (cC .non) (cCons (cC (.bl true)) (cCons (cC (.str "half")) (cCons (cC (.str "third")) (cCons (cC (.str "Half")) (cCons (cC (.int 0)) (cCons (cUn negD (cC (.int 1))) (cCons (cC (.int 1)) (cCons (cTup (cCons (cC (.int 2)) (cCons (cC (.int 1)) cNil))) (cCons (cLst (cCons (cC (.int 0)) (cCons (cC (.int 1)) cNil))) (cCons (cTup (cCons (cC (.int 1)) (cCons (cC (.int 0)) cNil))) (cCons (cTup (cCons (cC (.int 0)) (cCons (cC (.int 1)) cNil))) (cCons (cTup (cCons (cC (.str "0")) (cCons (cC (.str "1")) cNil))) cNil))))))))))))))) (dPut 0 (cVar 2) (cOp ixD (cVar 4) (cOp modD (cOp ixD (cVar 1) (cC (.int 2))) (cC (.int 13)))))) dNext) t_law_changed_8)
def t_law_changed_6 : TS3 := (dSeq (dIf (cAnd (cTest (cOp eqF (cVar 3) (cC (.int 4)))) (cTest (cIsi "tuple" (cIxOwn 0 (cVar 2))))) (dPut 0 (cVar 2) (cTup (cCons (cOp subD (cOp addD (cOp ixD (cIxOwn 0 (cVar 2)) (cC (.int 0))) (cOp modD (cOp ixD (cVar 1) (cC (.int 2))) (cC (.int 3)))) (cC (.int 1))) (cCons (cOp subD (cOp addD (cOp ixD (cIxOwn 0 (cVar 2)) (cC (.int 1))) (cOp modD (cOp ixD (cVar 1) (cC (.int 3))) (cC (.int 3)))) (cC (.int 1))) cNil)))) dNext) t_law_changed_7)
def t_law_changed_5 : TS3 := (dSeq (dIf (cAnd (cTest (cOp eqF (cVar 3) (cC (.int 3)))) (cTest (cOp gtD (cVar 2) (cC (.int 0))))) (dAsg (cTup (cCons (cIxOwn 0 (cOp subD (cVar 2) (cC (.int 1)))) (cCons (cIxOwn 0 (cVar 2)) cNil))) (kTup 2 (kCons (kPut 0 (cVar 2)) (kCons (kPut 0 (cOp subD (cVar 2) (cC (.int 1)))) kNil)))) dNext) t_law_changed_6)
def t_law_changed_4 : TS3 := (dSeq (dIf (cTest (cOp eqF (cVar 3) (cC (.int 2)))) (dInsert 0 (cVar 2) (cIxOwn 0 (cVar 2))) dNext) t_law_changed_5)
def t_law_changed_3 : TS3 := (dSeq (dIf (cTest (cOp eqF (cVar 3) (cC (.int 1)))) (dPopI 0 (cVar 2)) dNext) t_law_changed_4)
def t_law_changed : TS3 := (dSeq (dSetOwn 0 (cListOf (cCons (cVar 0) cNil))) (dSeq (dSet 2 (cOp modD (cOp ixD (cVar 1) (cC (.int 0))) (cLenOwn 0))) (dSeq (dSet 3 (cOp modD (cOp ixD (cVar 1) (cC (.int 1))) (cC (.int 9)))) t_law_changed_3)))
theorem len_law_changed : ∀ ds Q, f_law_changed ds Q → ds.length = 2 := lenF2
section
variable {Z : Ends3} {y : D} {i w : Int} {s0 k : Option Lo}
theorem if_hit {A B : TS3} {c : Int} {env : En} (he : env[3]? = some (some (.d (.int c)))) (q : A Z env) : dIf (cTest (cOp eqF (cVar 3) (cC (.int c)))) A B Z env := by
  refine ⟨_, he, ?_⟩
  simp only [cC, eqF_ii]
  exact ⟨_, rfl, by rw [if_pos (by simp)]; exact q⟩
theorem if_miss {A B : TS3} {c w : Int} {env : En} (he : env[3]? = some (some (.d (.int w)))) (hw : w ≠ c) (q : B Z env) : dIf (cTest (cOp eqF (cVar 3) (cC (.int c)))) A B Z env := by
  refine ⟨_, he, ?_⟩
  simp only [cC, eqF_ii]
  exact ⟨_, rfl, by rw [if_neg (by simp [hw])]; exact q⟩
theorem and_hit {A B : TS3} {u : TB} {c : Int} {env : En} (he : env[3]? = some (some (.d (.int c)))) (q : u env fun k => if k = true then A Z env else B Z env) : dIf (cAnd (cTest (cOp eqF (cVar 3) (cC (.int c)))) u) A B Z env := by
  refine ⟨_, he, ?_⟩
  simp only [cC, eqF_ii]
  exact ⟨_, rfl, by rw [if_pos (by simp)]; exact q⟩
theorem and_miss {A B : TS3} {u : TB} {c w : Int} {env : En} (he : env[3]? = some (some (.d (.int w)))) (hw : w ≠ c) (q : B Z env) : dIf (cAnd (cTest (cOp eqF (cVar 3) (cC (.int c)))) u) A B Z env := by
  refine ⟨_, he, ?_⟩
  simp only [cC, eqF_ii]
  exact ⟨_, rfl, by rw [if_neg (by simp [hw]), if_neg (by decide)]; exact q⟩
theorem sk3 (h : w ≠ 1) (q : t_law_changed_4 Z [s0, some (.d y), some (.d (.int i)), some (.d (.int w)), k]) : t_law_changed_3 Z [s0, some (.d y), some (.d (.int i)), some (.d (.int w)), k] := by
  unfold t_law_changed_3 dSeq
  exact if_miss rfl h q
theorem sk4 (h : w ≠ 2) (q : t_law_changed_5 Z [s0, some (.d y), some (.d (.int i)), some (.d (.int w)), k]) : t_law_changed_4 Z [s0, some (.d y), some (.d (.int i)), some (.d (.int w)), k] := by
  unfold t_law_changed_4 dSeq
  exact if_miss rfl h q
theorem sk5 (h : w ≠ 3) (q : t_law_changed_6 Z [s0, some (.d y), some (.d (.int i)), some (.d (.int w)), k]) : t_law_changed_5 Z [s0, some (.d y), some (.d (.int i)), some (.d (.int w)), k] := by
  unfold t_law_changed_5 dSeq
  exact and_miss rfl h q
theorem sk6 (h : w ≠ 4) (q : t_law_changed_7 Z [s0, some (.d y), some (.d (.int i)), some (.d (.int w)), k]) : t_law_changed_6 Z [s0, some (.d y), some (.d (.int i)), some (.d (.int w)), k] := by
  unfold t_law_changed_6 dSeq
  exact and_miss rfl h q
theorem sk7 (h : w ≠ 5) (q : t_law_changed_8 Z [s0, some (.d y), some (.d (.int i)), some (.d (.int w)), k]) : t_law_changed_7 Z [s0, some (.d y), some (.d (.int i)), some (.d (.int w)), k] := by
  unfold t_law_changed_7 dSeq
  exact if_miss rfl h q
theorem sk8 (h : w ≠ 6) (q : t_law_changed_9 Z [s0, some (.d y), some (.d (.int i)), some (.d (.int w)), k]) : t_law_changed_8 Z [s0, some (.d y), some (.d (.int i)), some (.d (.int w)), k] := by
  unfold t_law_changed_8 dSeq
  exact if_miss rfl h q
theorem sk9 (h : w ≠ 7) (q : t_law_changed_10 Z [s0, some (.d y), some (.d (.int i)), some (.d (.int w)), k]) : t_law_changed_9 Z [s0, some (.d y), some (.d (.int i)), some (.d (.int w)), k] := by
  unfold t_law_changed_9 dSeq
  exact and_miss rfl h q
theorem sk10 (h : w ≠ 8) (q : t_law_changed_11 Z [s0, some (.d y), some (.d (.int i)), some (.d (.int w)), k]) : t_law_changed_10 Z [s0, some (.d y), some (.d (.int i)), some (.d (.int w)), k] := by
  unfold t_law_changed_10 dSeq
  exact if_miss rfl h q
theorem fin11 {zs : List D} (q : Z.rt (.tup zs)) : t_law_changed_11 Z [some (.own zs), some (.d y), some (.d (.int i)), some (.d (.int w)), k] := .inl ⟨zs, rfl, by simp_all_arith! only [and_true]; exact q⟩
theorem fin11d {zs : List D} (q : Z.rt (.tup zs)) : t_law_changed_11 Z [some (.d (.lst zs)), some (.d y), some (.d (.int i)), some (.d (.int w)), k] := .inr ⟨_, rfl, by simp_all_arith! only [and_true]; exact q⟩
end
theorem le2 (x y : D) : [x, y].length ≤ sizeLine := by rw [PySem.sizeLine_eq]; simp
def lfB : D → Bool | .non => true | .bl _ => true | .int i => decide (i.natAbs < 2 ^ 100) | .str _ => true | _ => false
def seqB (f : D → Bool) : D → Bool | .tup xs => decide (xs.length ≤ 100) && xs.all f | .lst xs => decide (xs.length ≤ 100) && xs.all f | _ => false
def t1B (x : D) : Bool := lfB x || seqB lfB x
def t2B (x : D) : Bool := t1B x || seqB t1B x
def t3B (x : D) : Bool := t2B x || seqB t2B x
theorem lfB_lf {x : D} (h : lfB x = true) : Lf x := by
  cases x <;> first | exact True.intro | (cases h; done) | skip
  simp only [lfB, decide_eq_true_eq] at h; exact h
theorem seqB_of {f : D → Bool} {x : D} (h : seqB f x = true) : ∃ xs : List D, (x = .tup xs ∨ x = .lst xs) ∧ xs.length ≤ 100 ∧ ∀ y ∈ xs, f y = true := by
  cases x <;> first | (cases h; done) | skip
  · rename_i xs
    simp only [seqB, Bool.and_eq_true, decide_eq_true_eq, List.all_eq_true] at h
    exact ⟨xs, .inl rfl, h⟩
  · rename_i xs
    simp only [seqB, Bool.and_eq_true, decide_eq_true_eq, List.all_eq_true] at h
    exact ⟨xs, .inr rfl, h⟩
theorem t1B_t1 {x : D} (h : t1B x = true) : T1 x := by
  rcases Bool.or_eq_true_iff.mp h with h | h
  · exact .inl (lfB_lf h)
  · obtain ⟨xs, e, l, q⟩ := seqB_of h
    exact .inr ⟨xs, e, l, fun y hy => lfB_lf (q y hy)⟩
theorem t2B_t2 {x : D} (h : t2B x = true) : T2 x := by
  rcases Bool.or_eq_true_iff.mp h with h | h
  · exact .inl (t1B_t1 h)
  · obtain ⟨xs, e, l, q⟩ := seqB_of h
    exact .inr ⟨xs, e, l, fun y hy => t1B_t1 (q y hy)⟩
theorem t3B_t3 {x : D} (h : t3B x = true) : T3 x := by
  rcases Bool.or_eq_true_iff.mp h with h | h
  · exact .inl (t2B_t2 h)
  · obtain ⟨xs, e, l, q⟩ := seqB_of h
    exact .inr ⟨xs, e, l, fun y hy => t2B_t2 (q y hy)⟩
theorem it_t1 {x : D} (h : It x) : T1 x := by
  rcases h with ⟨i, rfl, hb⟩ | ⟨z, rfl⟩ | ⟨p, rfl, hb⟩
  · exact .inl (bits_le hb (by decide))
  · exact .inl True.intro
  · refine .inr ⟨_, .inl rfl, by simp, fun y hy => ?_⟩
    simp only [List.mem_cons, List.not_mem_nil, or_false] at hy
    rcases hy with rfl | rfl
    · exact bits_le hb.1 (by decide)
    · exact bits_le hb.2 (by decide)
theorem ob_law_changed : ∀ ds (Q : D → Prop), f_law_changed ds Q → t_law_changed { nx := fun _ => Q .non, rt := Q } (start3 ["_law_row_here", "_law_digits_here", "_law_i", "_law_way", "_law_others"] ds) := by
  rintro ds Q ⟨x, y, rfl, xs, m, rfl, hne, hl, hit, hd, hm, h⟩
  have hp : 0 < xs.length := List.length_pos_iff.mpr hne
  simp_all_arith! only [t_law_changed]
  refine dig_at hd (by decide) (by omega) fun a a0 a1 => ?_
  simp_all_arith! only [and_true]
  refine ⟨modL _ (by omega), ?_⟩
  refine dig_at hd (by decide) (by omega) fun b b0 b1 => ?_
  simp_all_arith! only [and_true]
  refine ⟨modL _ (by decide), ?_⟩
  obtain ⟨i, hi, ei⟩ : ∃ i : Nat, i < xs.length ∧ a.fmod xs.length = i := by
    have := fmod_range (a := a) (b := (xs.length : Int)) (by omega)
    exact ⟨(a.fmod xs.length).toNat, by omega, by omega⟩
  rw [ei]
  have hw := fmod_range (a := b) (b := 9) (by decide)
  generalize b.fmod 9 = w at *
  have hw' : w = 0 ∨ w = 1 ∨ w = 2 ∨ w = 3 ∨ w = 4 ∨ w = 5 ∨ w = 6 ∨ w = 7 ∨ w = 8 := by omega
  have hT : ∀ d ∈ xs, T1 d := fun d hd => it_t1 (hit d hd)
  have gm := getD_mem hi
  have hat : atI xs (i : Int) = some (xs.getD i .non) := by
    rw [atI_nat (by omega) (by omega), Int.toNat_natCast, List.getD_eq_getElem?_getD, List.getElem?_eq_getElem hi]; rfl
  have hix : ixN xs.length (i : Int) = some i := by unfold ixN; rw [if_pos (by omega), if_pos (by omega)]; simp
  have hset : ∀ v, T1 v → Q (.tup (xs.set i v)) := fun v hv => h _ (by simp; omega) fun d hd => by
    rcases List.mem_or_eq_of_mem_set hd with z | z
    · exact hT d z
    · rw [z]; exact hv
  rcases hw' with rfl | rfl | rfl | rfl | rfl | rfl | rfl | rfl | rfl
  · exact sk3 (by decide) (sk4 (by decide) (sk5 (by decide) (sk6 (by decide) (sk7 (by decide) (sk8 (by decide) (sk9 (by decide) (sk10 (by decide) (fin11 (h xs (by omega) hT)))))))))
  · unfold t_law_changed_3 dSeq
    refine if_hit rfl ?_
    refine ⟨xs, rfl, _, rfl, i, rfl, hi, by omega, ?_⟩
    exact sk4 (by decide) (sk5 (by decide) (sk6 (by decide) (sk7 (by decide) (sk8 (by decide) (sk9 (by decide) (sk10 (by decide) (fin11 (h _ (Nat.le_trans (List.length_eraseIdx_le ..) (by omega)) fun d hd => hT d (List.mem_of_mem_eraseIdx hd)))))))))
  · refine sk3 (by decide) ?_
    unfold t_law_changed_4 dSeq
    refine if_hit rfl ?_
    refine ⟨xs, rfl, _, rfl, xs, rfl, _, rfl, i, _, rfl, hat, i, rfl, by omega, by omega, by rw [PySem.sizeLine_eq]; omega, ?_⟩
    refine sk5 (by decide) (sk6 (by decide) (sk7 (by decide) (sk8 (by decide) (sk9 (by decide) (sk10 (by decide) (fin11 (h _ ?_ ?_)))))))
    · simp; omega
    · intro d hd
      rcases List.mem_append.mp hd with z | z
      · exact hT d (List.mem_of_mem_take z)
      · rcases List.mem_cons.mp z with z | z
        · rw [z]; exact hT _ gm
        · exact hT d (List.mem_of_mem_drop z)
  · refine sk3 (by decide) (sk4 (by decide) ?_)
    unfold t_law_changed_5 dSeq
    refine and_hit rfl ?_
    refine ⟨_, rfl, True.intro, _, rfl, ?_⟩
    dsimp only
    by_cases c : 0 < i
    · rw [if_pos (by simp [c])]
      have hi1 : i - 1 < xs.length := by omega
      have hat1 : atI xs ((i : Int) - 1) = some (xs.getD (i - 1) .non) := by
        rw [show ((i : Int) - 1) = ((i - 1 : Nat) : Int) by omega, atI_nat (by omega) (by omega), Int.toNat_natCast, List.getD_eq_getElem?_getD, List.getElem?_eq_getElem hi1]; rfl
      have hix1 : ∀ v, ixN (xs.set i v).length ((i : Int) - 1) = some (i - 1) := fun v => by unfold ixN; rw [List.length_set, if_pos (by omega), if_pos (by omega)]; congr 1; omega
      refine ⟨xs, rfl, _, rfl, True.intro, (i : Int) - 1, _, rfl, hat1, xs, rfl, _, rfl, i, _, rfl, hat, le2 _ _, _, rfl, rfl, ?_⟩
      refine ⟨_, _, rfl, xs, rfl, _, rfl, i, i, rfl, hix, _, _, rfl, xs.set i _, rfl, _, rfl, True.intro, (i : Int) - 1, i - 1, rfl, hix1 _, rfl, ?_⟩
      refine sk6 (by decide) (sk7 (by decide) (sk8 (by decide) (sk9 (by decide) (sk10 (by decide) (fin11 (h _ (by simp; omega) ?_))))))
      intro d hd
      rcases List.mem_or_eq_of_mem_set hd with z | z
      · rcases List.mem_or_eq_of_mem_set z with z | z
        · exact hT d z
        · rw [z]; exact hT _ (getD_mem hi1)
      · rw [z]; exact hT _ gm
    · rw [if_neg (by simp [c])]
      exact sk6 (by decide) (sk7 (by decide) (sk8 (by decide) (sk9 (by decide) (sk10 (by decide) (fin11 (h xs (by omega) hT))))))
  · refine sk3 (by decide) (sk4 (by decide) (sk5 (by decide) ?_))
    unfold t_law_changed_6 dSeq
    refine and_hit rfl ?_
    refine ⟨xs, rfl, _, rfl, i, _, rfl, hat, isi_tup (t1_pl (hT _ gm)).1 ⟨_, rfl, ?_⟩⟩
    rcases hit _ gm with ⟨j, e, hb⟩ | ⟨z, e⟩ | ⟨p, e, hb⟩
    · rw [e, if_neg (by simp [isTup])]
      exact sk7 (by decide) (sk8 (by decide) (sk9 (by decide) (sk10 (by decide) (fin11 (h xs (by omega) hT)))))
    · rw [e, if_neg (by simp [isTup])]
      exact sk7 (by decide) (sk8 (by decide) (sk9 (by decide) (sk10 (by decide) (fin11 (h xs (by omega) hT)))))
    · rw [e, if_pos (by rfl)]
      rw [e] at hat
      refine ⟨xs, rfl, _, rfl, i, _, rfl, hat, ?_⟩
      refine ⟨.int p.1, rfl, _, rfl, dig_at hd (by decide) (by omega) fun c c0 c1 => ⟨modL _ (by decide), ?_⟩⟩
      refine ⟨True.intro, xs, rfl, _, rfl, i, _, rfl, hat, .int p.2, rfl, _, rfl, dig_at hd (by decide) (by omega) fun c' c0' c1' => ⟨modL _ (by decide), True.intro, le2 _ _, xs, rfl, _, rfl, i, i, rfl, hix, ?_⟩⟩
      refine sk7 (by decide) (sk8 (by decide) (sk9 (by decide) (sk10 (by decide) (fin11 (hset _ ?_)))))
      have f1 := fmod_range (a := c) (b := 3) (by decide)
      have f2 := fmod_range (a := c') (b := 3) (by decide)
      refine .inr ⟨_, .inl rfl, by simp, fun y hy => ?_⟩
      simp only [List.mem_cons, List.not_mem_nil, or_false] at hy
      have b1 := hb.1
      have b2 := hb.2
      unfold Bits at b1 b2
      rcases hy with rfl | rfl
      · show Bits 100 _
        refine bits_le (n := 31) (bitsL _ _ ?_) (by decide)
        have : (2 : Nat) ^ 31 = 2 ^ 30 + 2 ^ 30 := by decide
        omega
      · show Bits 100 _
        refine bits_le (n := 31) (bitsL _ _ ?_) (by decide)
        have : (2 : Nat) ^ 31 = 2 ^ 30 + 2 ^ 30 := by decide
        omega
  · refine sk3 (by decide) (sk4 (by decide) (sk5 (by decide) (sk6 (by decide) ?_)))
    unfold t_law_changed_7 dSeq
    refine if_hit rfl ?_
    refine And.intro (le2 _ _) (And.intro (le2 _ _) (And.intro (le2 _ _) (And.intro (le2 _ _) (And.intro (le2 _ _) (And.intro (by rw [PySem.sizeLine_eq]; decide) ?_)))))
    refine ⟨_, rfl, _, rfl, dig_at hd (by decide) (by omega) fun c c0 c1 => ⟨modL _ (by decide), ixr (fun v hv => ?_) (by rfl) (by decide)⟩⟩
    refine ⟨xs, rfl, _, rfl, i, i, rfl, hix, ?_⟩
    refine sk8 (by decide) (sk9 (by decide) (sk10 (by decide) (fin11 (hset _ ?_))))
    exact t1B_t1 (List.all_eq_true.mp (by decide : ([.non, .bl true, .str "half", .str "third", .str "Half", .int 0, .int (-1), .int 1, .tup [.int 2, .int 1], .lst [.int 0, .int 1], .tup [.int 1, .int 0], .tup [.int 0, .int 1], .tup [.str "0", .str "1"]] : List D).all t1B = true) v hv)
  · refine sk3 (by decide) (sk4 (by decide) (sk5 (by decide) (sk6 (by decide) (sk7 (by decide) ?_))))
    unfold t_law_changed_8 dSeq
    refine if_hit rfl ?_
    refine .inl ⟨xs, rfl, ?_⟩
    refine ⟨_, rfl, And.intro (le2 _ _) (And.intro (by rw [PySem.sizeLine_eq]; decide) ?_)⟩
    refine ⟨_, rfl, dig_at hd (by decide) (by omega) fun c c0 c1 => ⟨modL _ (by decide), _, rfl, ?_⟩⟩
    refine ⟨_, rfl, ?_⟩
    have hc1 := cutD_len (cutD [.str "half", .tup [.int 5, .int 1], .str "third"] (some (c.fmod 3)) none) none (some 1)
    have hc2 := cutD_len [.str "half", .tup [.int 5, .int 1], .str "third"] (some (c.fmod 3)) none
    have hc3 : ([.str "half", .tup [.int 5, .int 1], .str "third"] : List D).length = 3 := rfl
    refine And.intro ?_ ?_
    · rw [PySem.sizeLine_eq]; omega
    refine sk9 (by decide) (sk10 (by decide) (fin11d (h _ ?_ ?_)))
    · rw [List.length_append]; omega
    · intro d hd
      rcases List.mem_append.mp hd with z | z
      · exact hT d z
      · exact t1B_t1 (List.all_eq_true.mp (by decide : ([.str "half", .tup [.int 5, .int 1], .str "third"] : List D).all t1B = true) d (cutD_mem (cutD_mem z)))
  · refine sk3 (by decide) (sk4 (by decide) (sk5 (by decide) (sk6 (by decide) (sk7 (by decide) (sk8 (by decide) ?_)))))
    unfold t_law_changed_9 dSeq
    refine and_hit rfl ?_
    refine ⟨xs, rfl, _, rfl, i, _, rfl, hat, isi_tup (t1_pl (hT _ gm)).1 ⟨_, rfl, ?_⟩⟩
    rcases hit _ gm with ⟨j, e, hb⟩ | ⟨z, e⟩ | ⟨p, e, hb⟩
    · rw [e, if_neg (by simp [isTup])]
      exact sk10 (by decide) (fin11 (h xs (by omega) hT))
    · rw [e, if_neg (by simp [isTup])]
      exact sk10 (by decide) (fin11 (h xs (by omega) hT))
    · rw [e, if_pos (by rfl)]
      rw [e] at hat
      refine ⟨xs, rfl, _, rfl, i, _, rfl, hat, ?_⟩
      refine ⟨xs, rfl, _, rfl, i, _, rfl, hat, _, rfl, ?_⟩
      refine And.intro (by simp [HT.sIx]) ?_
      refine ⟨xs, rfl, _, rfl, i, _, rfl, hat, .int p.1, rfl, And.intro (le2 _ _) (And.intro (by rw [PySem.sizeLine_eq]; simp) ?_)⟩
      refine ⟨_, rfl, dig_at hd (by decide) (by omega) fun c c0 c1 => ⟨modL _ (by decide), ixr (fun v hv => ?_) (by rfl) (by decide)⟩⟩
      refine ⟨xs, rfl, _, rfl, i, i, rfl, hix, ?_⟩
      refine sk10 (by decide) (fin11 (hset _ ?_))
      have l1 : Lf (.int p.1) := bits_le hb.1 (by decide)
      have l2 : Lf (.int p.2) := bits_le hb.2 (by decide)
      simp only [List.mem_cons, List.not_mem_nil, or_false] at hv
      rcases hv with rfl | rfl | rfl
      · refine .inr ⟨_, .inr rfl, by simp, fun y hy => ?_⟩
        simp only [List.mem_cons, List.not_mem_nil, or_false] at hy
        rcases hy with rfl | rfl
        · exact l1
        · exact l2
      · refine .inr ⟨_, .inl rfl, Nat.le_trans (cutD_len ..) (by simp), fun y hy => ?_⟩
        have := cutD_mem hy
        simp only [List.mem_cons, List.not_mem_nil, or_false] at this
        rcases this with rfl | rfl
        · exact l1
        · exact l2
      · refine .inr ⟨_, .inl rfl, by simp, fun y hy => ?_⟩
        simp only [List.mem_cons, List.not_mem_nil, or_false] at hy
        rcases hy with rfl | rfl
        · exact l1
        · exact True.intro
  · refine sk3 (by decide) (sk4 (by decide) (sk5 (by decide) (sk6 (by decide) (sk7 (by decide) (sk8 (by decide) (sk9 (by decide) ?_))))))
    unfold t_law_changed_10 dSeq
    refine if_hit rfl ?_
    refine ⟨_, rfl, dig_at hd (by decide) (by omega) fun c c0 c1 => ⟨xs, rfl, modL _ (by omega), True.intro, xs, rfl, _, rfl, i, i, rfl, hix, ?_⟩⟩
    refine fin11 (hset _ (.inl ?_))
    have f1 := fmod_range (a := c) (b := (xs.length : Int) + 2) (by omega)
    show Bits 100 _
    refine bits_le (n := 10) (bitsL _ _ ?_) (by decide)
    have : (2 : Nat) ^ 10 = 1024 := by decide
    omega
def f_law_found : Fw := F1 pFault
def t_law_found : TS3 := (dSeq (dTryR 1 "NoFan" (cCallV fv_look (cCons (cVar 0) cNil)) (dSeq (dSet 2 (cCall (isxDF "NoFan" (.tup [.cls "Full", .cls "NoFraction", .cls "NoName", .cls "NoPaper", .cls "NoRoot", .cls "NoRow", .cls "NoTable"]) false) (cCons (cVar 1) (cCons (cTup (cCons (cC (.cls "Full")) (cCons (cC (.cls "NoFraction")) (cCons (cC (.cls "NoName")) (cCons (cC (.cls "NoPaper")) (cCons (cC (.cls "NoRoot")) (cCons (cC (.cls "NoRow")) (cCons (cC (.cls "NoTable")) cNil)))))))) cNil)))) (dSeq (dSet 2 (cOrV (cVar 2) (cCall (isxDF "NoFan" (.tup [.cls "NoText", .cls "NoTurning", .cls "NotIn", .cls "Open", .cls "TooLong", .cls "TooMany"]) false) (cCons (cVar 1) (cCons (cTup (cCons (cC (.cls "NoText")) (cCons (cC (.cls "NoTurning")) (cCons (cC (.cls "NotIn")) (cCons (cC (.cls "Open")) (cCons (cC (.cls "TooLong")) (cCons (cC (.cls "TooMany")) cNil))))))) cNil))))) (dIf (cAnd (cTest (cCall (isxDF "NoFan" (.cls "FanError") true) (cCons (cVar 1) (cCons (cC (.cls "FanError")) cNil)))) (cAnd (cTest (cCall (isxDF "NoFan" (.ty "ValueError") true) (cCons (cVar 1) (cCons (cC (.ty "ValueError")) cNil)))) (cNot (cTest (cVar 2))))) (dRet (cLst (cCons (cFldX "NoFan" "where" (cVar 1)) (cCons (cFldX "NoFan" "at" (cVar 1)) cNil)))) dNext)))) (dRet (cLst (cCons (cC (.str "another")) (cCons (cC (.int 0)) cNil)))))
theorem len_law_found : ∀ ds Q, f_law_found ds Q → ds.length = 1 := lenF1
theorem ob_law_found : ∀ ds (Q : D → Prop), f_law_found ds Q → t_law_found { nx := fun _ => Q .non, rt := Q } (start3 ["_law_thing_here", "e", "_law_others"] ds) := by
  rintro ds Q ⟨x, rfl, hx, h⟩
  simp_all_arith! only [t_law_found, fv_look, V1_eq, pLookV]
  refine ⟨hx, ?_⟩
  cases e : faultD x with
  | none => rw [e] at h; exact h
  | some o =>
    obtain ⟨w, i⟩ := o
    rw [e] at h
    replace h : Q (.lst [.str w, .int i]) := h
    simp only [outV, noFan]
    refine ⟨⟨_, _, rfl⟩, _, _, rfl, ?_⟩
    exact ⟨_, _, rfl, _, _, rfl, _, _, rfl, _, _, _, rfl, rfl, _, _, _, rfl, rfl, h⟩
def pThing (x y : D) (Q : D → Prop) : Prop := ∃ (fs ms : List D) (m : Nat), x = .tup [.tup fs, .tup ms] ∧ fs ≠ [] ∧ ms ≠ [] ∧ fs.length ≤ 25 ∧ ms.length ≤ 25 ∧ (∀ d ∈ fs, It d) ∧ (∀ d ∈ ms, It d) ∧ Digs m 23 y ∧ 10 ≤ m ∧ ∀ d, T3 d → Q d
def f_law_thing : Fw := F2 pThing
theorem t3_two {a b : List D} (ha : a.length ≤ 100) (hA : ∀ d ∈ a, T1 d) (hb : b.length ≤ 100) (hB : ∀ d ∈ b, T1 d) : T3 (.tup [.tup a, .tup b]) := by
  refine .inr ⟨_, .inl rfl, by simp, fun y hy => ?_⟩
  simp only [List.mem_cons, List.not_mem_nil, or_false] at hy
  rcases hy with rfl | rfl
  · exact .inr ⟨_, .inl rfl, ha, hA⟩
  · exact .inr ⟨_, .inl rfl, hb, hB⟩
theorem dig_rest {m : Nat} {b : Int} {d : D} (h : Digs m b d) {i : Nat} {Q : D → Prop} (hi : i ≤ m) (q : ∀ d', Digs (m - i) b d' → Q d') : slD d (some (i : Int)) none Q := by
  obtain ⟨xs, rfl, hl, hb⟩ := h
  rw [slD_l, cutD_map, HT.sIx_nat]
  refine q _ ⟨_, rfl, ?_, fun x hx => hb x (List.mem_of_mem_drop (List.mem_of_mem_take hx))⟩
  show ((xs.drop _).take (xs.length - _)).length = _
  rw [List.length_take, List.length_drop]; omega
theorem dig_restZ {m : Nat} {b : Int} {d : D} (h : Digs m b d) (k : Nat) {i : Int} {Q : D → Prop} (e : i = (k : Int)) (hk : k ≤ m) (q : ∀ d', Digs (m - k) b d' → Q d') : slD d (some i) none Q := by
  subst e; exact dig_rest h hk q
def t_law_thing_4 : TS3 := (dRet (cTup (cCons (cCall f_law_changed (cCons (cOp ixD (cVar 0) (cC (.int 0))) (cCons (cVar 1) cNil))) (cCons (cCall f_law_changed (cCons (cOp ixD (cVar 0) (cC (.int 1))) (cCons (cSl (cVar 1) (cPart (cC (.int 6))) cNoPart) cNil))) cNil))))
def t_law_thing_3 : TS3 := (dSeq (dIf (cTest (cOp eqF (cVar 2) (cC (.int 6)))) (dRet (cOp ixD (cLst (cCons (cCall listF (cCons (cVar 0) cNil)) (cCons (cTup (cCons (cCall listF (cCons (cOp ixD (cVar 0) (cC (.int 0))) cNil)) (cCons (cOp ixD (cVar 0) (cC (.int 1))) cNil))) (cCons (cTup (cCons (cOp ixD (cVar 0) (cC (.int 0))) (cCons (cCall listF (cCons (cOp ixD (cVar 0) (cC (.int 1))) cNil)) cNil))) (cCons (cSl (cVar 0) cNoPart (cPart (cC (.int 1)))) (cCons (cOp addD (cVar 0) (cTup (cCons (cTup cNil) cNil))) (cCons (cOp ixD (cVar 0) (cC (.int 0))) cNil))))))) (cOp modD (cOp ixD (cVar 1) (cC (.int 5))) (cC (.int 6))))) dNext) t_law_thing_4)
def t_law_thing_2 : TS3 := (dSeq (dIf (cTest (cOp ltD (cVar 2) (cC (.int 6)))) (dRet (cTup (cCons (cOp ixD (cVar 0) (cC (.int 0))) (cCons (cCall f_law_changed (cCons (cOp ixD (cVar 0) (cC (.int 1))) (cCons (cVar 1) cNil))) cNil)))) dNext) t_law_thing_3)
def t_law_thing_1 : TS3 := (dSeq (dIf (cTest (cOp ltD (cVar 2) (cC (.int 3)))) (dRet (cTup (cCons (cCall f_law_changed (cCons (cOp ixD (cVar 0) (cC (.int 0))) (cCons (cVar 1) cNil))) (cCons (cOp ixD (cVar 0) (cC (.int 1))) cNil)))) dNext) t_law_thing_2)
def t_law_thing : TS3 := (dSeq (dSet 2 (cOp modD (cOp ixD (cVar 1) (cC (.int 4))) (cC (.int 8)))) t_law_thing_1)
theorem len_law_thing : ∀ ds Q, f_law_thing ds Q → ds.length = 2 := lenF2
theorem ob_law_thing : ∀ ds (Q : D → Prop), f_law_thing ds Q → t_law_thing { nx := fun _ => Q .non, rt := Q } (start3 ["_law_fan_here", "_law_digits_here", "_law_way"] ds) := by
  rintro ds Q ⟨x, y, rfl, fs, ms, m, rfl, hf0, hm0, hf1, hm1, hf, hm, hd, h10, h⟩
  have tf : ∀ d ∈ fs, T1 d := fun d hd => it_t1 (hf d hd)
  have tm : ∀ d ∈ ms, T1 d := fun d hd => it_t1 (hm d hd)
  unfold t_law_thing dSeq
  refine ⟨_, rfl, dig_at hd (by decide) (by omega) fun a a0 a1 => ⟨modL _ (by decide), ?_⟩⟩
  have hw := fmod_range (a := a) (b := 8) (by decide)
  show t_law_thing_1 _ [some (.d (.tup [.tup fs, .tup ms])), some (.d y), some (.d (.int (a.fmod 8)))]
  generalize a.fmod 8 = w at *
  unfold t_law_thing_1 dSeq
  refine ⟨_, rfl, True.intro, _, rfl, ?_⟩
  dsimp only
  by_cases c1 : w < 3
  · rw [if_pos (by simp [c1])]
    refine ⟨_, rfl, _, rfl, _, rfl, _, _, rfl, fs, m, rfl, hf0, hf1, hf, hd, by omega, fun ys hl hy => ?_⟩
    exact ⟨_, rfl, _, rfl, le2 _ _, h _ (t3_two hl hy (by omega) tm)⟩
  rw [if_neg (by simp [c1])]
  show t_law_thing_2 _ [some (.d (.tup [.tup fs, .tup ms])), some (.d y), some (.d (.int w))]
  unfold t_law_thing_2 dSeq
  refine ⟨_, rfl, True.intro, _, rfl, ?_⟩
  dsimp only
  by_cases c2 : w < 6
  · rw [if_pos (by simp [c2])]
    refine ⟨_, rfl, _, rfl, _, rfl, _, rfl, _, rfl, _, _, rfl, ms, m, rfl, hm0, hm1, hm, hd, by omega, fun ys hl hy => ?_⟩
    exact ⟨le2 _ _, h _ (t3_two (by omega) tf hl hy)⟩
  rw [if_neg (by simp [c2])]
  show t_law_thing_3 _ [some (.d (.tup [.tup fs, .tup ms])), some (.d y), some (.d (.int w))]
  unfold t_law_thing_3 dSeq
  refine ⟨_, rfl, ?_⟩
  simp only [cC, eqF_ii]
  refine ⟨_, rfl, ?_⟩
  by_cases c3 : w = 6
  · rw [if_pos (by simp [c3])]
    refine ⟨_, rfl, ?_⟩
    refine ⟨_, rfl, _, rfl, _, rfl, _, rfl, le2 _ _, ?_⟩
    refine ⟨_, rfl, _, rfl, _, rfl, _, rfl, le2 _ _, ?_⟩
    refine ⟨_, rfl, _, rfl, And.intro (by simp [HT.sIx]) ?_⟩
    refine ⟨_, rfl, And.intro (by rw [PySem.sizeLine_eq]; simp) (And.intro (by rw [PySem.sizeLine_eq]; simp) (And.intro (by rw [PySem.sizeLine_eq]; simp) ?_))⟩
    refine ⟨_, rfl, _, rfl, And.intro (by rw [PySem.sizeLine_eq]; simp) ?_⟩
    refine ⟨_, rfl, dig_at hd (by decide) (by omega) fun c c0 c1 => ⟨modL _ (by decide), ixr (fun v hv => h v ?_) (by rfl) (by decide)⟩⟩
    have T2f : T2 (.tup fs) := .inr ⟨_, .inl rfl, by omega, tf⟩
    have T2m : T2 (.tup ms) := .inr ⟨_, .inl rfl, by omega, tm⟩
    have T2fl : T2 (.lst fs) := .inr ⟨_, .inr rfl, by omega, tf⟩
    have T2ml : T2 (.lst ms) := .inr ⟨_, .inr rfl, by omega, tm⟩
    simp only [List.mem_cons, List.not_mem_nil, or_false] at hv
    rcases hv with rfl | rfl | rfl | rfl | rfl | rfl
    · refine .inr ⟨_, .inr rfl, by simp, fun y hy => ?_⟩
      simp only [List.mem_cons, List.not_mem_nil, or_false] at hy
      rcases hy with rfl | rfl
      · exact T2f
      · exact T2m
    · refine .inr ⟨_, .inl rfl, by simp, fun y hy => ?_⟩
      simp only [List.mem_cons, List.not_mem_nil, or_false] at hy
      rcases hy with rfl | rfl
      · exact T2fl
      · exact T2m
    · refine .inr ⟨_, .inl rfl, by simp, fun y hy => ?_⟩
      simp only [List.mem_cons, List.not_mem_nil, or_false] at hy
      rcases hy with rfl | rfl
      · exact T2f
      · exact T2ml
    · refine .inr ⟨_, .inl rfl, Nat.le_trans (cutD_len ..) (by simp), fun y hy => ?_⟩
      have := cutD_mem hy
      simp only [List.mem_cons, List.not_mem_nil, or_false] at this
      rcases this with rfl | rfl
      · exact T2f
      · exact T2m
    · refine .inr ⟨_, .inl rfl, by simp, fun y hy => ?_⟩
      simp only [List.cons_append, List.nil_append, List.mem_cons, List.not_mem_nil, or_false] at hy
      rcases hy with rfl | rfl | rfl
      · exact T2f
      · exact T2m
      · exact .inr ⟨[], .inl rfl, by simp, fun y hy => by simp at hy⟩
    · exact .inl T2f
  · rw [if_neg (by simp [c3])]
    show t_law_thing_4 _ [some (.d (.tup [.tup fs, .tup ms])), some (.d y), some (.d (.int w))]
    refine ⟨_, rfl, _, rfl, _, rfl, _, _, rfl, fs, m, rfl, hf0, hf1, hf, hd, by omega, fun ys hl hy => ?_⟩
    refine ⟨_, rfl, _, rfl, _, rfl, _, rfl, ?_⟩
    dsimp only [cNoPart]
    refine dig_restZ (i := 6) hd 6 rfl (by omega) fun d' hd' => ?_
    refine ⟨_, _, rfl, ms, m - 6, rfl, hm0, hm1, hm, hd', by omega, fun zs zl hz => ?_⟩
    exact ⟨le2 _ _, h _ (t3_two hl hy zl hz)⟩
theorem it_fs {n : Nat} {fs : List Z2} (h : FracOk n fs) : ∀ d ∈ fs.map frD, It d := fun d hd => by
  obtain ⟨p, hp, rfl⟩ := List.mem_map.mp hd
  exact .inr (.inr ⟨p, rfl, h.bits p hp⟩)
theorem it_ms {n : Nat} {ms : List Mk} (h : MarkOk n ms) (hn : n ≤ 22) : ∀ d ∈ ms.map mkD, It d := fun d hd => by
  obtain ⟨x, hx, rfl⟩ := List.mem_map.mp hd
  cases x with
  | half => exact .inr (.inl ⟨_, rfl⟩)
  | third => exact .inr (.inl ⟨_, rfl⟩)
  | gap j =>
    refine .inl ⟨_, rfl, bits_le (n := 10) (bitsL _ _ ?_) (by decide)⟩
    obtain ⟨i, hi⟩ := List.getElem?_of_mem hx
    have hj := (List.getElem?_eq_some_iff.mp (h.pair i j hi).2).1
    have hl := h.len
    have : (2 : Nat) ^ 10 = 1024 := by decide
    omega
structure Good (A B : List D) : Prop where
  a0 : A ≠ []
  b0 : B ≠ []
  a1 : A.length ≤ 25
  b1 : B.length ≤ 25
  ai : ∀ d ∈ A, It d
  bi : ∀ d ∈ B, It d
theorem Good.t3 {A B : List D} (g : Good A B) : T3 (.tup [.tup A, .tup B]) := t3_two (Nat.le_trans g.a1 (by decide)) (fun d hd => it_t1 (g.ai d hd)) (Nat.le_trans g.b1 (by decide)) fun d hd => it_t1 (g.bi d hd)
theorem good_of {n k : Nat} {fs : List Z2} {ms : List Mk} (hf : FracOk n fs) (hm : MarkOk k ms) (hk : 2 ≤ k) (hk2 : k ≤ 22) : Good (fs.map frD) (ms.map mkD) := by
  have h1 := hf.len
  have h2 := hf.two
  have h3 := hf.most
  have h4 := hm.len
  refine ⟨fun e => ?_, fun e => ?_, by simp; omega, by simp; omega, it_fs hf, it_ms hm hk2⟩
  · have := congrArg List.length e; simp at this; subst this; simp at h1; omega
  · have := congrArg List.length e; simp at this; subst this; simp at h4; omega
theorem res_eq (o : Option (Str × Int)) : eqD (resD o) (resD o) = true ∧ dep (resD o) ≤ 60 := by
  cases o with
  | none => exact ⟨rfl, by decide⟩
  | some p => obtain ⟨w, i⟩ := p; exact ⟨by simp [resD, eqD, eqDs], by simp [resD, dep, depL]⟩
def t_law_4 : TS3 := (dRet (cCall allF (cCons (cFresh (cComp [] (cVar 6) cTrue (cOp eqF (cCall f_law_found (cCons (cVar 0) cNil)) (cCall f_law_fault (cCons (cVar 0) cNil))))) cNil)))
def t_law_0_4 : TS3 := (dFor (cLst (cCons (cVar 3) (cCons (cCall f_law_thing (cCons (cVar 3) (cCons (cSl (cVar 4) (cPart (cC (.int 70))) cNoPart) cNil))) (cCons (cCall f_law_thing (cCons (cVar 3) (cCons (cSl (cVar 4) (cPart (cC (.int 78))) cNoPart) cNil))) cNil)))) (kName 5) (dIf (cTest (cOp neF (cCall f_law_found (cCons (cVar 5) cNil)) (cCall f_law_fault (cCons (cVar 5) cNil)))) (dRet (cC (.bl false))) dNext))
def t_law_1 : TS3 := (dSeq (dSet 6 (cLst (cCons (cC .non) (cCons (cC (.int 5)) (cCons (cC (.str "")) (cCons (cTup cNil) (cCons (cLst cNil) (cCons (cTup (cCons (cTup cNil) (cCons (cTup cNil) cNil))) (cCons (cTup (cCons (cTup (cCons (cTup (cCons (cC (.int 1)) (cCons (cC (.int 0)) cNil))) cNil)) (cCons (cTup (cCons (cC (.str "half")) cNil)) cNil))) (cCons (cTup (cCons (cTup (cCons (cTup (cCons (cC (.int 1)) (cCons (cC (.int 0)) cNil))) (cCons (cTup (cCons (cC (.int 0)) (cCons (cC (.int 1)) cNil))) cNil))) (cCons (cTup (cCons (cC (.str "half")) (cCons (cC (.str "half")) cNil))) cNil))) cNil)))))))))) (dSeq (dSet 6 (cOp addD (cVar 6) (cLst (cCons (cTup (cCons (cTup (cCons (cTup (cCons (cC (.int 1)) (cCons (cC (.int 0)) cNil))) (cCons (cTup (cCons (cC (.int 0)) (cCons (cC (.int 1)) cNil))) cNil))) (cCons (cTup (cCons (cC (.int 1)) (cCons (cC (.int 0)) cNil))) cNil))) (cCons (cTup (cCons (cTup (cCons (cTup (cCons (cC (.int 1)) (cCons (cC (.int 0)) cNil))) (cCons (cTup (cCons (cC (.int 0)) (cCons (cC (.int 1)) cNil))) cNil))) (cCons (cTup (cCons (cC (.str "third")) (cCons (cC (.str "half")) cNil))) cNil))) cNil))))) (dSeq (dSet 6 (cOp addD (cVar 6) (cLst (cCons (cTup (cCons (cTup (cCons (cTup (cCons (cC (.int 1)) (cCons (cC (.int 0)) cNil))) (cCons (cTup (cCons (cC (.int 1)) (cCons (cC (.int 1)) cNil))) cNil))) (cCons (cTup (cCons (cC (.str "third")) (cCons (cC (.str "half")) cNil))) cNil))) cNil)))) t_law_4)))
def t_law : TS3 := (dSeq (dForR rng1 (cCons (cCall maxF (cCons (cC (.int 1)) (cCons (cCall minF (cCons (cC (.int 6)) (cCons (cCall lenF (cCons (cVar 0) cNil)) cNil))) cNil))) cNil) (kName 1) (dSeq (dSet 2 (cCall f_law_cell (cCons (cVar 0) (cCons (cVar 1) cNil)))) (dSeq (dSet 3 (cCall f_law_fan (cCons (cVar 2) cNil))) (dSeq (dSet 4 (cCall f_law_row (cCons (cVar 2) (cCons (cC (.int 23)) (cCons (cC (.int 90)) cNil))))) (dSeq (dIf (cTest (cOp eqF (cOp modD (cOp ixD (cVar 4) (cC (.int 0))) (cC (.int 8))) (cC (.int 1)))) (dSet 3 (cTup (cCons (cCall f_law_fractions (cCons (cC (.int 22)) (cCons (cSl (cVar 4) cNoPart (cPart (cC (.int 22)))) cNil))) (cCons (cCall f_law_marks (cCons (cC (.int 22)) (cCons (cSl (cVar 4) (cPart (cC (.int 22))) cNoPart) cNil))) cNil)))) dNext) t_law_0_4))))) t_law_1)
theorem law_things {A B : List D} (g : Good A B) {d x0 x1 x2 : D} {s5 s6 : Option Lo} (hd : Digs 90 23 d) {N : En → Prop} (hN : ∀ k5, N [some (.d x0), some (.d x1), some (.d x2), some (.d (.tup [.tup A, .tup B])), some (.d d), k5, s6]) {Z : Ends3} (hz : Z.nx = N) :
    t_law_0_4 Z [some (.d x0), some (.d x1), some (.d x2), some (.d (.tup [.tup A, .tup B])), some (.d d), s5, s6] := by
  unfold t_law_0_4 dFor
  refine ⟨_, rfl, ?_⟩
  refine ⟨_, rfl, _, rfl, _, rfl, ?_⟩
  dsimp only [cNoPart]
  refine dig_restZ (i := 70) hd 70 rfl (by decide) fun d1 hd1 => ?_
  refine ⟨_, _, rfl, A, B, 20, rfl, g.a0, g.b0, g.a1, g.b1, g.ai, g.bi, hd1, by decide, fun t1 ht1 => ?_⟩
  refine ⟨_, rfl, _, rfl, _, rfl, ?_⟩
  dsimp only [cNoPart]
  refine dig_restZ (i := 78) hd 78 rfl (by decide) fun d2 hd2 => ?_
  refine ⟨_, _, rfl, A, B, 12, rfl, g.a0, g.b0, g.a1, g.b1, g.ai, g.bi, hd2, by decide, fun t2 ht2 => ?_⟩
  refine ⟨by rw [PySem.sizeLine_eq]; simp, _, rfl, ?_⟩
  refine turns_of (fun _ e => ∃ k5, e = [some (.d x0), some (.d x1), some (.d x2), some (.d (.tup [.tup A, .tup B])), some (.d d), k5, s6]) ?_ ?_ ⟨_, rfl⟩
  · rintro i x env N' hx ⟨k5, rfl⟩ hN'
    have hT : T3 x := by
      have := List.mem_of_getElem? hx
      simp only [List.mem_cons, List.not_mem_nil, or_false] at this
      rcases this with rfl | rfl | rfl
      · exact g.t3
      · exact ht1
      · exact ht2
    simp_all_arith! only [f_law_found, f_law_fault, F1_eq, pFault]
    obtain ⟨e1, e2⟩ := res_eq (faultD x)
    refine ⟨hT, hT, ⟨e2, e2⟩, ?_⟩
    rw [e1]
    simp_all_arith! only [and_true]
    exact hN' _ ⟨_, rfl⟩
  · rintro env ⟨k5, rfl⟩
    rw [hz]; exact hN k5
theorem law_some {Q : D → Prop} (h : Q (.bl true)) (L : List D) (hL : ∀ v ∈ L, T3 v) (hl : L.length ≤ 100) {x0 : Lo} {k1 k2 k3 k4 k5 : Option Lo} : t_law_4 { nx := fun _ => Q .non, rt := Q } [some x0, k1, k2, k3, k4, k5, some (.d (.lst L))] := by
  simp_all_arith! only [t_law_4, f_law_found, f_law_fault, F1_eq]
  refine comps_map (fun _ => .bl true) L [] (fun x hx N hN => ?_) (by rw [PySem.sizeLine_eq]; simp; omega) ?_
  · simp_all_arith! only [capE, F1_eq, pFault]
    obtain ⟨e1, e2⟩ := res_eq (faultD x)
    refine ⟨hL x hx, hL x hx, ⟨e2, e2⟩, ?_⟩
    rw [e1]; exact hN
  · refine ⟨L.map fun _ => true, ?_, ?_⟩
    · rw [List.nil_append, ← boolsOf_map, List.map_map]; rfl
    · rw [List.all_map]
      rw [show (L.all (id ∘ fun _ => true)) = true from List.all_eq_true.mpr fun _ _ => rfl]
      exact h
theorem len_law : ∀ ds Q, fLaw 63 ds Q → ds.length = 1 := by rintro ds Q ⟨ns, rfl, _⟩; rfl
theorem ob_law : ∀ ds (Q : D → Prop), fLaw 63 ds Q → t_law { nx := fun _ => Q .non, rt := Q } (start3 ["_law_script", "_law_k", "_law_cell_here", "_law_fan_here", "_law_digits_here", "_law_thing_here", "_law_some"] ds) := by
  rintro ds Q ⟨ns, rfl, hl, h⟩
  simp_all_arith! only [t_law, List.length_map]
  refine ⟨by omega, by omega, ?_⟩
  refine turns_of (fun _ e => ∃ k1 k2 k3 k4 k5, e = [some (.d (.lst (ns.map D.int))), k1, k2, k3, k4, k5, none]) ?_ ?_ ⟨_, _, _, _, _, rfl⟩
  · rintro i x env N hx ⟨k1, k2, k3, k4, k5, rfl⟩ hN
    have hi := (List.getElem?_eq_some_iff.mp hx).1
    have hxe : x = .int (0 + (i : Int)) := by
      unfold intsD at hx
      rw [List.getElem?_map] at hx
      simp [intsD] at hi
      rw [List.getElem?_range (by omega)] at hx
      cases hx; rfl
    subst hxe
    simp_all_arith! only [f_law_cell, f_law_fan, f_law_row, f_law_fractions, f_law_marks, F1_eq, F2_eq, F3_eq, pCell, pFan, pDigs]
    refine ⟨ns, _, rfl, rfl, by omega, fun fs ms hf h16 => ?_⟩
    refine ⟨_, 23, 90, rfl, rfl, rfl, by decide, bits_le (n := 100) (by unfold Bits; decide) (by decide), by decide, fun d hd => ?_⟩
    refine dig_at hd (by decide) (by decide) fun a a0 a1 => ?_
    simp_all_arith! only [and_true]
    refine ⟨modL _ (by decide), ?_⟩
    have hm2 := hf.fr.two
    have hm3 := hf.fr.most
    have hml := hf.mar.len
    split
    · obtain ⟨vs, rfl, hvl, hvb⟩ := hd
      have e1 : cutD (vs.map D.int) none (some 22) = (vs.take 22).map D.int := by
        rw [cutD_map]; rw [show (22 : Int) = ((22 : Nat) : Int) from rfl, HT.sIx_nat]
        show (((vs.drop 0).take _).map D.int) = _
        rw [List.drop_zero, hvl]; rfl
      have e2 : cutD (vs.map D.int) (some 22) none = (vs.drop 22).map D.int := by
        rw [cutD_map]; rw [show (22 : Int) = ((22 : Nat) : Int) from rfl, HT.sIx_nat, hvl]
        show (((vs.drop 22).take (90 - 22)).map D.int) = _
        rw [List.take_of_length_le (by simp [hvl])]
      simp only [slD_l, e1, e2]
      refine ⟨22, 23, rfl, by decide, by decide, ⟨_, rfl, by simp [hvl], fun x hx => hvb x (List.mem_of_mem_take hx)⟩, fun fs2 hf2 => ?_⟩
      refine ⟨22, 68, 23, rfl, by decide, by decide, by decide, ⟨_, rfl, by simp [hvl], fun x hx => hvb x (List.mem_of_mem_drop hx)⟩, fun ms2 hm2 => ?_⟩
      exact law_things (good_of hf2 hm2 (by decide) (by decide)) ⟨vs, rfl, hvl, hvb⟩ (fun k5 => hN _ ⟨_, _, _, _, _, rfl⟩) rfl
    · exact law_things (good_of hf.fr hf.mar (by omega) (by omega)) hd (fun k5 => hN _ ⟨_, _, _, _, _, rfl⟩) rfl
  · rintro env ⟨k1, k2, k3, k4, k5, rfl⟩
    unfold t_law_1 dSeq
    repeat refine And.intro (by rw [PySem.sizeLine_eq]; decide) ?_
    refine ⟨_, rfl, ?_⟩
    repeat refine And.intro (by rw [PySem.sizeLine_eq]; decide) ?_
    refine ⟨_, rfl, ?_⟩
    repeat refine And.intro (by rw [PySem.sizeLine_eq]; decide) ?_
    exact law_some h _ (fun v hv => t3B_t3 (List.all_eq_true.mp (by decide) v hv)) (by decide)
end K14
set_option Elab.async false
set_option linter.all false
set_option maxRecDepth 100000
set_option maxHeartbeats 8000000
namespace K14
open PySem L2 L2.L3
def top (i : Nat) : Stmt := PySem.Challenge.pw_fanglue_k14_fans_looked_at.main.body.getD i (.Pass ⟨0, 0, 0, 0⟩)
abbrev si_NoFan : Stmt := (clsBody (top 4)).getD 0 (.Pass ⟨0, 0, 0, 0⟩)
structure Nm where
  c_NoFan : Addr
  c_NoTable : Addr
  c_NoRow : Addr
  c_NoRoot : Addr
  c_NoPaper : Addr
  c_NoName : Addr
  c_NoFraction : Addr
  c_Full : Addr
  c_TooMany : Addr
  c_TooLong : Addr
  c_Open : Addr
  c_NotIn : Addr
  c_NoTurning : Addr
  c_NoText : Addr
  c_FanError : Addr
  a_TOP : Addr
  its_TOP : Array Value
  n_TOP : Nat
  sl_TOP : Array (Option Value)
  t_MOST_PLACES : Tok
  a_NOUGHT : Addr
  its_NOUGHT : Array Value
  n_NOUGHT : Nat
  sl_NOUGHT : Array (Option Value)
  t_MOST_FRACTIONS : Tok
  fi_NoFan : Addr
  oc_NoFan : Value
  kV_NoFan : Value
  dc_NoFan : Value
  pm_NoFan : Value
  cd_NoFan : Value
  ct_NoFan : Value
  od_NoFan : Option Addr
  an_NoFan : Option Addr
  sl_NoFan : Array (Option Value)
  ta_NoFan : Addr
  tn_NoFan : Nat
  ts_NoFan : Array (Option Value)
  tt_NoFan : Tok
structure Tc (K : PySem.W.Frag) (w : World) (n : Nm) : Prop where
  g_TOP : PySem.W.nsIn K mainGlobals "TOP" = some (some (.ref n.a_TOP))
  l_TOP : K.lookup n.a_TOP = some ⟨.type "tuple", none, .seq n.its_TOP n.n_TOP, n.sl_TOP⟩
  s_TOP : n.its_TOP.size ≤ sizeLine
  v_TOP : L2.Vals ([1, 0].map L2.V.int) n.its_TOP.toList
  g_MOST_PLACES : PySem.W.nsIn K mainGlobals "MOST_PLACES" = some (some (.int 60 n.t_MOST_PLACES))
  g_NOUGHT : PySem.W.nsIn K mainGlobals "NOUGHT" = some (some (.ref n.a_NOUGHT))
  l_NOUGHT : K.lookup n.a_NOUGHT = some ⟨.type "tuple", none, .seq n.its_NOUGHT n.n_NOUGHT, n.sl_NOUGHT⟩
  s_NOUGHT : n.its_NOUGHT.size ≤ sizeLine
  v_NOUGHT : L2.Vals ([0, 1].map L2.V.int) n.its_NOUGHT.toList
  g_MOST_FRACTIONS : PySem.W.nsIn K mainGlobals "MOST_FRACTIONS" = some (some (.int 22 n.t_MOST_FRACTIONS))
  n_NoFan : PySem.W.nsIn K mainGlobals "NoFan" = some (some (.ref n.c_NoFan))
  n_NoTable : PySem.W.nsIn K mainGlobals "NoTable" = some (some (.ref n.c_NoTable))
  n_NoRow : PySem.W.nsIn K mainGlobals "NoRow" = some (some (.ref n.c_NoRow))
  n_NoRoot : PySem.W.nsIn K mainGlobals "NoRoot" = some (some (.ref n.c_NoRoot))
  n_NoPaper : PySem.W.nsIn K mainGlobals "NoPaper" = some (some (.ref n.c_NoPaper))
  n_NoName : PySem.W.nsIn K mainGlobals "NoName" = some (some (.ref n.c_NoName))
  n_NoFraction : PySem.W.nsIn K mainGlobals "NoFraction" = some (some (.ref n.c_NoFraction))
  n_Full : PySem.W.nsIn K mainGlobals "Full" = some (some (.ref n.c_Full))
  n_TooMany : PySem.W.nsIn K mainGlobals "TooMany" = some (some (.ref n.c_TooMany))
  n_TooLong : PySem.W.nsIn K mainGlobals "TooLong" = some (some (.ref n.c_TooLong))
  n_Open : PySem.W.nsIn K mainGlobals "Open" = some (some (.ref n.c_Open))
  n_NotIn : PySem.W.nsIn K mainGlobals "NotIn" = some (some (.ref n.c_NotIn))
  n_NoTurning : PySem.W.nsIn K mainGlobals "NoTurning" = some (some (.ref n.c_NoTurning))
  n_NoText : PySem.W.nsIn K mainGlobals "NoText" = some (some (.ref n.c_NoText))
  n_FanError : PySem.W.nsIn K mainGlobals "FanError" = some (some (.ref n.c_FanError))
  j_NoFan : PySem.W.findIn K (.ref n.c_NoFan) "__init__" = some (some (.ref n.fi_NoFan))
  l_NoFan : K.lookup n.fi_NoFan = some ⟨n.oc_NoFan, n.od_NoFan, .func (PySem.W.fnOf "__init__" "NoFan.__init__" (defArgs si_NoFan) (defBody si_NoFan) (defScope si_NoFan) (.ref n.ta_NoFan) n.kV_NoFan n.dc_NoFan n.pm_NoFan n.an_NoFan n.cd_NoFan n.ct_NoFan), n.sl_NoFan⟩
  q_NoFan : PySem.W.codeIn K n.cd_NoFan "NoFan.__init__" = true
  dl_NoFan : K.lookup n.ta_NoFan = some ⟨.type "tuple", none, .seq #[.int 0 n.tt_NoFan] n.tn_NoFan, n.ts_NoFan⟩
  x_NoFan : excInI K n.c_NoFan n.fi_NoFan = true
  t_NoFan : PySem.W.typeIn K (.ref n.fi_NoFan) = some (.type "function")
  sa_NoFan : PySem.W.findIn K (.ref n.c_NoFan) "__setattr__" = some (some (.builtin "object.__setattr__"))
  a_NoFan_where : PySem.W.findIn K (.ref n.c_NoFan) "where" = some none
  a_NoFan_at : PySem.W.findIn K (.ref n.c_NoFan) "at" = some none
  o1_NoFan : PySem.W.findIn K (.ref n.c_NoFan) "__getattribute__" = some (some (.builtin "BaseException.__getattribute__"))
  o2_NoFan : PySem.W.findIn K (.ref n.c_NoFan) "__getattr__" = some none
  o3_NoFan : PySem.W.hasDictIn K n.c_NoFan = true
  o4_NoFan : PySem.W.findIn K (.ref n.c_NoFan) "__class__" = some (some (.builtin "object.__class__"))
  o5_NoFan : PySem.W.specialIn K (.builtin "object.__class__") "__get__" = some (some (.builtin "getset_descriptor.__get__"))
  o6_NoFan : PySem.W.takesIn K (.builtin "object.__class__") = some true
  o7_NoFan : PySem.W.mroIn K n.c_NoFan (.type "object") = some true
  o8_NoFan : PySem.W.subIn K (.ref n.c_NoFan) (.type "BaseException") = some true
  kt0 : PySem.W.kitAny K (.ref n.c_NoFan) [.ref n.c_Full, .ref n.c_NoFraction, .ref n.c_NoName, .ref n.c_NoPaper, .ref n.c_NoRoot, .ref n.c_NoRow, .ref n.c_NoTable] = some false
  kt1 : PySem.W.kitAny K (.ref n.c_NoFan) [.ref n.c_NoText, .ref n.c_NoTurning, .ref n.c_NotIn, .ref n.c_Open, .ref n.c_TooLong, .ref n.c_TooMany] = some false
  kt2 : PySem.W.kitOne K (.ref n.c_NoFan) (.type "ValueError") = some true
  kt3 : PySem.W.kitOne K (.ref n.c_NoFan) (.ref n.c_FanError) = some true
theorem si_sc_NoFan : FnScope ["self", "where", "at"] ["self", "where", "at"] (defScope si_NoFan) := ⟨rfl, rfl, rfl, by decide +kernel, rfl, by decide +kernel, by decide +kernel⟩
theorem Tc.f_NoFan {K : PySem.W.Frag} {w : World} {n : Nm} (TC : Tc K w n) {P : Program} {mg : Str → Option Value} {base : Heap} : FnOk P w K mg base CX0 1 n.fi_NoFan (PySem.W.fnOf "__init__" "NoFan.__init__" (defArgs si_NoFan) (defBody si_NoFan) (defScope si_NoFan) (.ref n.ta_NoFan) n.kV_NoFan n.dc_NoFan n.pm_NoFan n.an_NoFan n.cd_NoFan n.ct_NoFan) ["self", "where", "at"] (spI n.c_NoFan ["where", "at"]) := init_two TC.l_NoFan TC.q_NoFan si_sc_NoFan (.inl rfl) (.inl rfl) (.inl rfl) ⟨by decide, by decide⟩ ⟨by decide, by decide⟩ TC.x_NoFan TC.sa_NoFan TC.a_NoFan_where TC.a_NoFan_at (by decide)
theorem Tc.b0_NoFan {K : PySem.W.Frag} {w : World} {n : Nm} (TC : Tc K w n) : Binds K (PySem.W.fnOf "__init__" "NoFan.__init__" (defArgs si_NoFan) (defBody si_NoFan) (defScope si_NoFan) (.ref n.ta_NoFan) n.kV_NoFan n.dc_NoFan n.pm_NoFan n.an_NoFan n.cd_NoFan n.ct_NoFan) ["self", "where", "at"] [] := fun s us KX hl => match us, hl with | [_, _, _], _ => PySem.W.binds_K KX rfl TC.dl_NoFan rfl rfl rfl
theorem Tc.b1_NoFan {K : PySem.W.Frag} {w : World} {n : Nm} (TC : Tc K w n) : Binds K (PySem.W.fnOf "__init__" "NoFan.__init__" (defArgs si_NoFan) (defBody si_NoFan) (defScope si_NoFan) (.ref n.ta_NoFan) n.kV_NoFan n.dc_NoFan n.pm_NoFan n.an_NoFan n.cd_NoFan n.ct_NoFan) ["self", "where", "at"] [.int 0 n.tt_NoFan] := fun s us KX hl => match us, (show us.length = 2 by simpa using hl) with | [_, _], _ => PySem.W.binds_K KX rfl TC.dl_NoFan rfl rfl rfl
theorem Tc.v1_NoFan {K : PySem.W.Frag} {w : World} {n : Nm} (TC : Tc K w n) : Vals [.int 0] [.int 0 n.tt_NoFan] := .cons ⟨_, rfl⟩ .nil
theorem Tc.v0_NoFan {K : PySem.W.Frag} {w : World} {n : Nm} (TC : Tc K w n) : Vals ([] : List V) ([] : List Value) := .nil
theorem Tc.o_NoFan {K : PySem.W.Frag} {w : World} {n : Nm} (TC : Tc K w n) : XcOk K n.c_NoFan := ⟨TC.o1_NoFan, TC.o2_NoFan, TC.o3_NoFan, TC.o4_NoFan, TC.o5_NoFan, TC.o6_NoFan, TC.o7_NoFan, TC.o8_NoFan⟩
abbrev s_is_whole : Stmt := top 17
abbrev s_are_wholes : Stmt := top 18
abbrev s_are_two_tuples : Stmt := top 19
abbrev s_common_part : Stmt := top 21
abbrev s_upright : Stmt := top 22
abbrev s_is_fraction : Stmt := top 23
abbrev s_are_neighbours : Stmt := top 24
abbrev s_is_above : Stmt := top 25
abbrev s_is_due_fraction : Stmt := top 31
abbrev s_is_due_mark : Stmt := top 32
abbrev s_many_places : Stmt := top 33
abbrev s_look : Stmt := top 34
abbrev s_law_cell : Stmt := top 36
abbrev s_law_digits : Stmt := top 37
abbrev s_law_mixed : Stmt := top 38
abbrev s_law_row : Stmt := top 39
abbrev s_law_fractions : Stmt := top 40
abbrev s_law_marks : Stmt := top 41
abbrev s_law_fan : Stmt := top 42
abbrev s_law_whole : Stmt := top 43
abbrev s_law_common : Stmt := top 44
abbrev s_law_is_fraction : Stmt := top 45
abbrev s_law_bad_fraction : Stmt := top 46
abbrev s_law_bad_mark : Stmt := top 47
abbrev s_law_fault : Stmt := top 48
abbrev s_law_changed : Stmt := top 49
abbrev s_law_found : Stmt := top 50
abbrev s_law_thing : Stmt := top 51
abbrev s_law : Stmt := top 52
structure Txt (mg : Str → Option Value) : Prop where
  ValueError : mg "ValueError" = none
  abs : mg "abs" = none
  all : mg "all" = none
  bool : mg "bool" = none
  int : mg "int" = none
  isinstance : mg "isinstance" = none
  len : mg "len" = none
  list : mg "list" = none
  max : mg "max" = none
  min : mg "min" = none
  range : mg "range" = none
  str : mg "str" = none
  tuple : mg "tuple" = none
theorem sc_is_whole : FnScope ["thing"] ["thing"] (defScope s_is_whole) := ⟨rfl, rfl, rfl, by decide +kernel, rfl, by decide +kernel, by decide +kernel⟩
theorem sc_are_wholes : FnScope ["thing", "many"] ["thing", "many"] (defScope s_are_wholes) := ⟨rfl, rfl, rfl, by decide +kernel, rfl, by decide +kernel, by decide +kernel⟩
theorem sc_are_two_tuples : FnScope ["thing"] ["thing"] (defScope s_are_two_tuples) := ⟨rfl, rfl, rfl, by decide +kernel, rfl, by decide +kernel, by decide +kernel⟩
theorem sc_common_part : FnScope ["p", "q", "high", "low"] ["p", "q"] (defScope s_common_part) := ⟨rfl, rfl, rfl, by decide +kernel, rfl, by decide +kernel, by decide +kernel⟩
theorem sc_upright : FnScope ["p", "q"] ["p", "q"] (defScope s_upright) := ⟨rfl, rfl, rfl, by decide +kernel, rfl, by decide +kernel, by decide +kernel⟩
theorem sc_is_fraction : FnScope ["thing", "p", "q"] ["thing"] (defScope s_is_fraction) := ⟨rfl, rfl, rfl, by decide +kernel, rfl, by decide +kernel, by decide +kernel⟩
theorem sc_are_neighbours : FnScope ["one", "other", "p", "q", "r", "s"] ["one", "other"] (defScope s_are_neighbours) := ⟨rfl, rfl, rfl, by decide +kernel, rfl, by decide +kernel, by decide +kernel⟩
theorem sc_is_above : FnScope ["one", "other", "p", "q", "r", "s"] ["one", "other"] (defScope s_is_above) := ⟨rfl, rfl, rfl, by decide +kernel, rfl, by decide +kernel, by decide +kernel⟩
theorem sc_is_due_fraction : FnScope ["fractions", "at", "one", "ahead"] ["fractions", "at"] (defScope s_is_due_fraction) := ⟨rfl, rfl, rfl, by decide +kernel, rfl, by decide +kernel, by decide +kernel⟩
theorem sc_is_due_mark : FnScope ["marks", "gap", "mark"] ["marks", "gap"] (defScope s_is_due_mark) := ⟨rfl, rfl, rfl, by decide +kernel, rfl, by decide +kernel, by decide +kernel⟩
theorem sc_many_places : FnScope ["fan", "fractions", "marks"] ["fan"] (defScope s_many_places) := ⟨rfl, rfl, rfl, by decide +kernel, rfl, by decide +kernel, by decide +kernel⟩
theorem sc_look : FnScope ["thing", "fractions", "marks", "at", "gap"] ["thing"] (defScope s_look) := ⟨rfl, rfl, rfl, by decide +kernel, rfl, by decide +kernel, by decide +kernel⟩
theorem sc_law_cell : FnScope ["_law_script", "_law_k"] ["_law_script", "_law_k"] (defScope s_law_cell) := ⟨rfl, rfl, rfl, by decide +kernel, rfl, by decide +kernel, by decide +kernel⟩
theorem sc_law_digits : FnScope ["_law_cell_here", "_law_base", "_law_many", "_law_row_here", "_law_k"] ["_law_cell_here", "_law_base", "_law_many"] (defScope s_law_digits) := ⟨rfl, rfl, rfl, by decide +kernel, rfl, by decide +kernel, by decide +kernel⟩
theorem sc_law_mixed : FnScope ["_law_cell_here", "_law_base", "_law_many", "_law_row_here", "_law_k", "_law_one", "_law_two"] ["_law_cell_here", "_law_base", "_law_many"] (defScope s_law_mixed) := ⟨rfl, rfl, rfl, by decide +kernel, rfl, by decide +kernel, by decide +kernel⟩
theorem sc_law_row : FnScope ["_law_cell_here", "_law_base", "_law_many"] ["_law_cell_here", "_law_base", "_law_many"] (defScope s_law_row) := ⟨rfl, rfl, rfl, by decide +kernel, rfl, by decide +kernel, by decide +kernel⟩
theorem sc_law_fractions : FnScope ["_law_many", "_law_digits_here", "_law_row_here", "_law_k", "_law_at"] ["_law_many", "_law_digits_here"] (defScope s_law_fractions) := ⟨rfl, rfl, rfl, by decide +kernel, rfl, by decide +kernel, by decide +kernel⟩
theorem sc_law_marks : FnScope ["_law_many", "_law_digits_here", "_law_marks_here", "_law_left", "_law_k", "_law_gap", "_law_way", "_law_other"] ["_law_many", "_law_digits_here"] (defScope s_law_marks) := ⟨rfl, rfl, rfl, by decide +kernel, rfl, by decide +kernel, by decide +kernel⟩
theorem sc_law_fan : FnScope ["_law_cell_here", "_law_many", "_law_digits_here"] ["_law_cell_here"] (defScope s_law_fan) := ⟨rfl, rfl, rfl, by decide +kernel, rfl, by decide +kernel, by decide +kernel⟩
theorem sc_law_whole : FnScope ["_law_thing_here"] ["_law_thing_here"] (defScope s_law_whole) := ⟨rfl, rfl, rfl, by decide +kernel, rfl, by decide +kernel, by decide +kernel⟩
theorem sc_law_common : FnScope ["_law_one", "_law_other"] ["_law_one", "_law_other"] (defScope s_law_common) := ⟨rfl, rfl, rfl, by decide +kernel, rfl, by decide +kernel, by decide +kernel⟩
theorem sc_law_is_fraction : FnScope ["_law_thing_here"] ["_law_thing_here"] (defScope s_law_is_fraction) := ⟨rfl, rfl, rfl, by decide +kernel, rfl, by decide +kernel, by decide +kernel⟩
theorem sc_law_bad_fraction : FnScope ["_law_fractions_here", "_law_i", "_law_here", "_law_ahead"] ["_law_fractions_here", "_law_i"] (defScope s_law_bad_fraction) := ⟨rfl, rfl, rfl, by decide +kernel, rfl, by decide +kernel, by decide +kernel⟩
theorem sc_law_bad_mark : FnScope ["_law_marks_here", "_law_i", "_law_mark"] ["_law_marks_here", "_law_i"] (defScope s_law_bad_mark) := ⟨rfl, rfl, rfl, by decide +kernel, rfl, by decide +kernel, by decide +kernel⟩
theorem sc_law_fault : FnScope ["_law_thing_here", "_law_fractions_here", "_law_marks_here", "_law_i", "_law_many"] ["_law_thing_here"] (defScope s_law_fault) := ⟨rfl, rfl, rfl, by decide +kernel, rfl, by decide +kernel, by decide +kernel⟩
theorem sc_law_changed : FnScope ["_law_row_here", "_law_digits_here", "_law_i", "_law_way", "_law_others"] ["_law_row_here", "_law_digits_here"] (defScope s_law_changed) := ⟨rfl, rfl, rfl, by decide +kernel, rfl, by decide +kernel, by decide +kernel⟩
theorem sc_law_found : FnScope ["_law_thing_here", "e", "_law_others"] ["_law_thing_here"] (defScope s_law_found) := ⟨rfl, rfl, rfl, by decide +kernel, rfl, by decide +kernel, by decide +kernel⟩
theorem sc_law_thing : FnScope ["_law_fan_here", "_law_digits_here", "_law_way"] ["_law_fan_here", "_law_digits_here"] (defScope s_law_thing) := ⟨rfl, rfl, rfl, by decide +kernel, rfl, by decide +kernel, by decide +kernel⟩
theorem sc_law : FnScope ["_law_script", "_law_k", "_law_cell_here", "_law_fan_here", "_law_digits_here", "_law_thing_here", "_law_some"] ["_law_script"] (defScope s_law) := ⟨rfl, rfl, rfl, by decide +kernel, rfl, by decide +kernel, by decide +kernel⟩
section
variable {P : Program} {w : World} {K : PySem.W.Frag} {mg : Str → Option Value} {base : Heap}
theorem kn_is_whole {fa : Addr} {fd : FuncData} (F : Fun K "is_whole" "is_whole" s_is_whole fa fd) (hmg : mg "is_whole" = some (.ref fa)) (hb : Binds K fd ["thing"] []) (T : Txt mg)      : Known P w K mg base 1 "is_whole" f_is_whole := by
  have nd := sc_is_whole.nd
  exact Fun.known F sc_is_whole hmg hb len_is_whole (fun cdv A outer s H E hr => ⟨t_is_whole, (qss_one (qs_ret (qe_and (q_isi T.isinstance T.int boot_int' (qv 0)) (qe_one (qe_not (q_isi T.isinstance T.bool boot_bool' (qv 0))))))), ob_is_whole⟩)
theorem kn_are_wholes {fa : Addr} {fd : FuncData} (F : Fun K "are_wholes" "are_wholes" s_are_wholes fa fd) (hmg : mg "are_wholes" = some (.ref fa)) (hb : Binds K fd ["thing", "many"] []) (T : Txt mg)  (k_is_whole : Known P w K mg base 1 "is_whole" f_is_whole)    : Known P w K mg base 2 "are_wholes" f_are_wholes := by
  have nd := sc_are_wholes.nd
  exact Fun.known F sc_are_wholes hmg hb len_are_wholes (fun cdv A outer s H E hr => ⟨t_are_wholes, (qss_cons (qs_if (QW.t (qw_or (qt_not (qt_val (q_isi T.isinstance T.tuple boot_tuple' (qv 0)))) (qw_or1 (t_ne hr.units (q_len T.len (qa_cons (qv 0) qa_nil)) (qv 1))))) (qss_one (qs_ret qbl)) qss_nil) (qss_one (qs_ret (q_all T.all (qa_cons (QF.e (qf_comp (N' := ["each"]) (ix := []) rfl (CompOk.of (defScope s_are_wholes) rfl rfl (by decide +kernel) (by decide +kernel) (by decide +kernel) (fun j i h => by simp at h) rfl) (by decide) rfl rfl (qv 0) (fun C s H fp pins => qifs_nil) (fun C s H fp pins => (q_call k_is_whole (hr.mono (by decide)) (qa_cons (qv 0) qa_nil))))) qa_nil))))), ob_are_wholes⟩)
theorem kn_are_two_tuples {fa : Addr} {fd : FuncData} (F : Fun K "are_two_tuples" "are_two_tuples" s_are_two_tuples fa fd) (hmg : mg "are_two_tuples" = some (.ref fa)) (hb : Binds K fd ["thing"] []) (T : Txt mg)      : Known P w K mg base 1 "are_two_tuples" f_are_two_tuples := by
  have nd := sc_are_two_tuples.nd
  exact Fun.known F sc_are_two_tuples hmg hb len_are_two_tuples (fun cdv A outer s H E hr => ⟨t_are_two_tuples, (qss_cons (qs_if (QW.t (qw_or (qt_not (qt_val (q_isi T.isinstance T.tuple boot_tuple' (qv 0)))) (qw_or1 (t_ne hr.units (q_len T.len (qa_cons (qv 0) qa_nil)) qint)))) (qss_one (qs_ret qbl)) qss_nil) (qss_one (qs_ret (qe_and (q_isi T.isinstance T.tuple boot_tuple' (q_ix (qv 0) qint (fun _ _ => rfl))) (qe_one (q_isi T.isinstance T.tuple boot_tuple' (q_ix (qv 0) qint (fun _ _ => rfl)))))))), ob_are_two_tuples⟩)
theorem kn_common_part {fa : Addr} {fd : FuncData} (F : Fun K "common_part" "common_part" s_common_part fa fd) (hmg : mg "common_part" = some (.ref fa)) (hb : Binds K fd ["p", "q"] []) (T : Txt mg)      : Known P w K mg base 1 "common_part" f_common_part := by
  have nd := sc_common_part.nd
  exact Fun.known F sc_common_part hmg hb len_common_part (fun cdv A outer s H E hr => ⟨t_common_part, (qss_cons (qs_set 2 nd (q_abs T.abs (qa_cons (qv 0) qa_nil))) (qss_cons (qs_set 3 nd (q_abs T.abs (qa_cons (qv 1) qa_nil))) (qss_cons (qs_while PassesOwn.never (t_ne hr.units (qv 3) qint) (qss_one (qs_par 2 3 rfl nd (qa_cons (qv 3) (qa_cons (q_mod (qv 2) (qv 3)) qa_nil))))) (qss_one (qs_ret (qv 2)))))), ob_common_part⟩)
theorem kn_upright {fa : Addr} {fd : FuncData} (F : Fun K "upright" "upright" s_upright fa fd) (hmg : mg "upright" = some (.ref fa)) (hb : Binds K fd ["p", "q"] []) (T : Txt mg)      : Known P w K mg base 1 "upright" f_upright := by
  have nd := sc_upright.nd
  exact Fun.known F sc_upright hmg hb len_upright (fun cdv A outer s H E hr => ⟨t_upright, (qss_cons (qs_if (QW.t (qw_or (t_lt (qv 1) qint) (qw_or1 (QW.t (qw_and (t_eq hr.units (qv 1) qint) (qw_and1 (t_lt (qv 0) qint))))))) (qss_one (qs_ret (qe_tup (qa_cons (q_neg (qv 0)) (qa_cons (q_neg (qv 1)) qa_nil))))) qss_nil) (qss_one (qs_ret (qe_tup (qa_cons (qv 0) (qa_cons (qv 1) qa_nil)))))), ob_upright⟩)
theorem kn_is_fraction {fa : Addr} {fd : FuncData} (F : Fun K "is_fraction" "is_fraction" s_is_fraction fa fd) (hmg : mg "is_fraction" = some (.ref fa)) (hb : Binds K fd ["thing"] []) (T : Txt mg)  (k_are_wholes : Known P w K mg base 2 "are_wholes" f_are_wholes) (k_common_part : Known P w K mg base 1 "common_part" f_common_part) (k_upright : Known P w K mg base 1 "upright" f_upright)    : Known P w K mg base 3 "is_fraction" f_is_fraction := by
  have nd := sc_is_fraction.nd
  exact Fun.known F sc_is_fraction hmg hb len_is_fraction (fun cdv A outer s H E hr => ⟨t_is_fraction, (qss_cons (qs_if (qt_not (qt_val (q_call k_are_wholes (hr.mono (by decide)) (qa_cons (qv 0) (qa_cons qint qa_nil))))) (qss_one (qs_ret qbl)) qss_nil) (qss_cons (qs_asg (qv 0) (qg_tup rfl (qgs_cons (qg_name 1 nd) (qgs_cons (qg_name 2 nd) qgs_nil)))) (qss_one (qs_ret (qe_and (q_eq hr.units (q_call k_common_part (hr.mono (by decide)) (qa_cons (qv 1) (qa_cons (qv 2) qa_nil))) qint) (qe_one (q_eq hr.units (q_call k_upright (hr.mono (by decide)) (qa_cons (qv 1) (qa_cons (qv 2) qa_nil))) (qe_tup (qa_cons (qv 1) (qa_cons (qv 2) qa_nil)))))))))), ob_is_fraction⟩)
theorem kn_are_neighbours {fa : Addr} {fd : FuncData} (F : Fun K "are_neighbours" "are_neighbours" s_are_neighbours fa fd) (hmg : mg "are_neighbours" = some (.ref fa)) (hb : Binds K fd ["one", "other"] []) (T : Txt mg)      : Known P w K mg base 1 "are_neighbours" f_are_neighbours := by
  have nd := sc_are_neighbours.nd
  exact Fun.known F sc_are_neighbours hmg hb len_are_neighbours (fun cdv A outer s H E hr => ⟨t_are_neighbours, (qss_cons (qs_asg (qv 0) (qg_tup rfl (qgs_cons (qg_name 2 nd) (qgs_cons (qg_name 3 nd) qgs_nil)))) (qss_cons (qs_asg (qv 1) (qg_tup rfl (qgs_cons (qg_name 4 nd) (qgs_cons (qg_name 5 nd) qgs_nil)))) (qss_one (qs_ret (q_eq hr.units (q_abs T.abs (qa_cons (q_sub (q_mul (qv 2) (qv 5)) (q_mul (qv 3) (qv 4))) qa_nil)) qint))))), ob_are_neighbours⟩)
theorem kn_is_above {fa : Addr} {fd : FuncData} (F : Fun K "is_above" "is_above" s_is_above fa fd) (hmg : mg "is_above" = some (.ref fa)) (hb : Binds K fd ["one", "other"] []) (T : Txt mg)      : Known P w K mg base 1 "is_above" f_is_above := by
  have nd := sc_is_above.nd
  exact Fun.known F sc_is_above hmg hb len_is_above (fun cdv A outer s H E hr => ⟨t_is_above, (qss_cons (qs_asg (qv 0) (qg_tup rfl (qgs_cons (qg_name 2 nd) (qgs_cons (qg_name 3 nd) qgs_nil)))) (qss_cons (qs_asg (qv 1) (qg_tup rfl (qgs_cons (qg_name 4 nd) (qgs_cons (qg_name 5 nd) qgs_nil)))) (qss_one (qs_ret (q_gt (q_mul (qv 2) (qv 5)) (q_mul (qv 4) (qv 3))))))), ob_is_above⟩)
theorem kn_is_due_fraction {fa : Addr} {fd : FuncData} (F : Fun K "is_due_fraction" "is_due_fraction" s_is_due_fraction fa fd) (hmg : mg "is_due_fraction" = some (.ref fa)) (hb : Binds K fd ["fractions", "at"] []) (T : Txt mg)  {n : Nm} (TC : Tc K w n) (k_are_neighbours : Known P w K mg base 1 "are_neighbours" f_are_neighbours) (k_is_above : Known P w K mg base 1 "is_above" f_is_above) (k_is_fraction : Known P w K mg base 3 "is_fraction" f_is_fraction)    : Known P w K mg base 4 "is_due_fraction" f_is_due_fraction := by
  have nd := sc_is_due_fraction.nd
  exact Fun.known F sc_is_due_fraction hmg hb len_is_due_fraction (fun cdv A outer s H E hr => ⟨t_is_due_fraction, (qss_cons (qs_set 2 nd (q_ix (qv 0) (qv 1) (fun _ _ => rfl))) (qss_cons (qs_if (qt_not (qt_val (q_call k_is_fraction (hr.mono (by decide)) (qa_cons (qv 2) qa_nil)))) (qss_one (qs_ret qbl)) qss_nil) (qss_cons (qs_if (t_eq hr.units (qv 1) qint) (qss_one (qs_ret (q_eq hr.units (qv 2) (qgt (ns := [1, 0]) TC.g_TOP TC.l_TOP TC.s_TOP TC.v_TOP)))) qss_nil) (qss_cons (qs_set 3 nd (q_ix (qv 0) (q_sub (qv 1) qint) (fun _ _ => rfl))) (qss_cons (qs_if (QW.t (qw_or (t_eq hr.units (qv 2) (qgt (ns := [1, 0]) TC.g_TOP TC.l_TOP TC.s_TOP TC.v_TOP)) (qw_or1 (qt_not (qt_val (q_call k_are_neighbours (hr.mono (by decide)) (qa_cons (qv 2) (qa_cons (qv 3) qa_nil)))))))) (qss_one (qs_ret qbl)) qss_nil) (qss_cons (qs_if (QW.t (qw_and (t_gt (qv 1) qint) (qw_and1 (qt_not (qt_val (q_call k_is_above (hr.mono (by decide)) (qa_cons (qv 2) (qa_cons (qv 3) qa_nil)))))))) (qss_one (qs_ret qbl)) qss_nil) (qss_one (qs_ret (qe_or (q_lt (qv 1) (q_sub (q_len T.len (qa_cons (qv 0) qa_nil)) qint)) (qe_one (q_call k_are_neighbours (hr.mono (by decide)) (qa_cons (qv 2) (qa_cons (qgt (ns := [1, 0]) TC.g_TOP TC.l_TOP TC.s_TOP TC.v_TOP) qa_nil))))))))))))), ob_is_due_fraction⟩)
theorem kn_is_due_mark {fa : Addr} {fd : FuncData} (F : Fun K "is_due_mark" "is_due_mark" s_is_due_mark fa fd) (hmg : mg "is_due_mark" = some (.ref fa)) (hb : Binds K fd ["marks", "gap"] []) (T : Txt mg)  (k_is_whole : Known P w K mg base 1 "is_whole" f_is_whole)    : Known P w K mg base 2 "is_due_mark" f_is_due_mark := by
  have nd := sc_is_due_mark.nd
  exact Fun.known F sc_is_due_mark hmg hb len_is_due_mark (fun cdv A outer s H E hr => ⟨t_is_due_mark, (qss_cons (qs_set 2 nd (q_ix (qv 0) (qv 1) (fun _ _ => rfl))) (qss_cons (qs_if (QW.t (qw_or (t_eq hr.units (qv 2) qstr) (qw_or1 (t_eq hr.units (qv 2) qstr)))) (qss_one (qs_ret qbl)) qss_nil) (qss_cons (qs_if (QW.t (qw_or (qt_not (qt_val (q_call k_is_whole (hr.mono (by decide)) (qa_cons (qv 2) qa_nil)))) (qw_or (t_eq hr.units (qv 2) (qv 1)) (qw_or1 (qt_not (t_lelt qint (qv 2) (q_len T.len (qa_cons (qv 0) qa_nil)))))))) (qss_one (qs_ret qbl)) qss_nil) (qss_one (qs_ret (qe_and (q_call k_is_whole (hr.mono (by decide)) (qa_cons (q_ix (qv 0) (qv 2) (fun _ _ => rfl)) qa_nil)) (qe_one (q_eq hr.units (q_ix (qv 0) (qv 2) (fun _ _ => rfl)) (qv 1))))))))), ob_is_due_mark⟩)
theorem kn_many_places {fa : Addr} {fd : FuncData} (F : Fun K "many_places" "many_places" s_many_places fa fd) (hmg : mg "many_places" = some (.ref fa)) (hb : Binds K fd ["fan"] []) (T : Txt mg)      : Known P w K mg base 1 "many_places" f_many_places := by
  have nd := sc_many_places.nd
  exact Fun.known F sc_many_places hmg hb len_many_places (fun cdv A outer s H E hr => ⟨t_many_places, (qss_cons (qs_asg (qv 0) (qg_tup rfl (qgs_cons (qg_name 1 nd) (qgs_cons (qg_name 2 nd) qgs_nil)))) (qss_one (qs_ret (q_add (q_mul qint (q_sub (q_len T.len (qa_cons (qv 1) qa_nil)) qint)) (q_countT hr.units (qv 2) qstr))))), ob_many_places⟩)
theorem knv_look {fa : Addr} {fd : FuncData} (F : Fun K "look" "look" s_look fa fd) (hmg : mg "look" = some (.ref fa)) (hb : Binds K fd ["thing"] []) (T : Txt mg)  {n : Nm} (TC : Tc K w n) (k_are_two_tuples : Known P w K mg base 1 "are_two_tuples" f_are_two_tuples) (k_is_due_fraction : Known P w K mg base 4 "is_due_fraction" f_is_due_fraction) (k_is_due_mark : Known P w K mg base 2 "is_due_mark" f_is_due_mark) (k_many_places : Known P w K mg base 1 "many_places" f_many_places)    : KnownV P w K mg base 5 "look" fv_look := by
  have nd := sc_look.nd
  exact Fun.knownV F sc_look hmg hb lenv_look (fun cdv A outer s H E hr => ⟨tv_look, (qvs_cons (qv_if (qt_not (qt_val (q_call k_are_two_tuples (hr.mono (by decide)) (qa_cons (qv 0) qa_nil)))) (qvs_one (qv_raise (dds := [.int 0]) TC.n_NoFan TC.x_NoFan TC.f_NoFan TC.t_NoFan TC.b1_NoFan TC.v1_NoFan (fun _ => (denL_cons den_int denL_nil)) (hr.mono (by decide)) (qa_cons qstr qa_nil))) (qvs_up qss_nil)) (qvs_cons (qv_up (qs_asg (qv 0) (qg_tup rfl (qgs_cons (qg_name 1 nd) (qgs_cons (qg_name 2 nd) qgs_nil))))) (qvs_cons (qv_if (qt_not (t_lele qint (q_len T.len (qa_cons (qv 1) qa_nil)) (qgi TC.g_MOST_FRACTIONS))) (qvs_one (qv_raise (dds := [.int 0]) TC.n_NoFan TC.x_NoFan TC.f_NoFan TC.t_NoFan TC.b1_NoFan TC.v1_NoFan (fun _ => (denL_cons den_int denL_nil)) (hr.mono (by decide)) (qa_cons qstr qa_nil))) (qvs_up qss_nil)) (qvs_cons (qv_forR1 rfl rfl T.range (qa_cons (q_len T.len (qa_cons (qv 1) qa_nil)) qa_nil) (qg_name 3 nd) (qvs_one (qv_if (qt_not (qt_val (q_call k_is_due_fraction (hr.mono (by decide)) (qa_cons (qv 1) (qa_cons (qv 3) qa_nil))))) (qvs_one (qv_raise (dds := []) TC.n_NoFan TC.x_NoFan TC.f_NoFan TC.t_NoFan TC.b0_NoFan TC.v0_NoFan (fun _ => denL_nil) (hr.mono (by decide)) (qa_cons qstr (qa_cons (qv 3) qa_nil)))) (qvs_up qss_nil)))) (qvs_cons (qv_if (t_ninL hr.units (qgt (ns := [0, 1]) TC.g_NOUGHT TC.l_NOUGHT TC.s_NOUGHT TC.v_NOUGHT) (qv 1)) (qvs_one (qv_raise (dds := [.int 0]) TC.n_NoFan TC.x_NoFan TC.f_NoFan TC.t_NoFan TC.b1_NoFan TC.v1_NoFan (fun _ => (denL_cons den_int denL_nil)) (hr.mono (by decide)) (qa_cons qstr qa_nil))) (qvs_up qss_nil)) (qvs_cons (qv_if (t_ne hr.units (q_len T.len (qa_cons (qv 2) qa_nil)) (q_len T.len (qa_cons (qv 1) qa_nil))) (qvs_one (qv_raise (dds := [.int 0]) TC.n_NoFan TC.x_NoFan TC.f_NoFan TC.t_NoFan TC.b1_NoFan TC.v1_NoFan (fun _ => (denL_cons den_int denL_nil)) (hr.mono (by decide)) (qa_cons qstr qa_nil))) (qvs_up qss_nil)) (qvs_cons (qv_forR1 rfl rfl T.range (qa_cons (q_len T.len (qa_cons (qv 2) qa_nil)) qa_nil) (qg_name 4 nd) (qvs_one (qv_if (qt_not (qt_val (q_call k_is_due_mark (hr.mono (by decide)) (qa_cons (qv 2) (qa_cons (qv 4) qa_nil))))) (qvs_one (qv_raise (dds := []) TC.n_NoFan TC.x_NoFan TC.f_NoFan TC.t_NoFan TC.b0_NoFan TC.v0_NoFan (fun _ => denL_nil) (hr.mono (by decide)) (qa_cons qstr (qa_cons (qv 4) qa_nil)))) (qvs_up qss_nil)))) (qvs_one (qv_if (qt_not (t_lele qint (q_call k_many_places (hr.mono (by decide)) (qa_cons (qv 0) qa_nil)) (qgi TC.g_MOST_PLACES))) (qvs_one (qv_raise (dds := [.int 0]) TC.n_NoFan TC.x_NoFan TC.f_NoFan TC.t_NoFan TC.b1_NoFan TC.v1_NoFan (fun _ => (denL_cons den_int denL_nil)) (hr.mono (by decide)) (qa_cons qstr qa_nil))) (qvs_up qss_nil)))))))))), obv_look⟩)
theorem kn_law_cell {fa : Addr} {fd : FuncData} (F : Fun K "_law_cell" "_law_cell" s_law_cell fa fd) (hmg : mg "_law_cell" = some (.ref fa)) (hb : Binds K fd ["_law_script", "_law_k"] []) (T : Txt mg)      : Known P w K mg base 1 "_law_cell" f_law_cell := by
  have nd := sc_law_cell.nd
  exact Fun.known F sc_law_cell hmg hb len_law_cell (fun cdv A outer s H E hr => ⟨t_law_cell, (qss_cons (qs_if (t_lt (qv 1) (q_len T.len (qa_cons (qv 0) qa_nil))) (qss_one (qs_ret (q_ix (qv 0) (qv 1) (fun _ _ => rfl)))) qss_nil) (qss_one (qs_ret qint))), ob_law_cell⟩)
theorem kn_law_digits {fa : Addr} {fd : FuncData} (F : Fun K "_law_digits" "_law_digits" s_law_digits fa fd) (hmg : mg "_law_digits" = some (.ref fa)) (hb : Binds K fd ["_law_cell_here", "_law_base", "_law_many"] []) (T : Txt mg)      : Known P w K mg base 1 "_law_digits" f_law_digits := by
  have nd := sc_law_digits.nd
  exact Fun.known F sc_law_digits hmg hb len_law_digits (fun cdv A outer s H E hr => ⟨t_law_digits, (qss_cons (qs_setOwn 3 nd (qf_lst qa_nil)) (qss_cons (qs_forR1 PassesOwn.never rfl rfl T.range (qa_cons (qv 2) qa_nil) (qg_name 4 nd) (qss_cons (qs_append 3 (q_mod (qv 0) (qv 1))) (qss_one (qs_set 0 nd (q_fdiv (qv 0) (qv 1)))))) (qss_one (qs_freeze 3 (qs_ret (qv 3)))))), ob_law_digits⟩)
theorem kn_law_mixed {fa : Addr} {fd : FuncData} (F : Fun K "_law_mixed" "_law_mixed" s_law_mixed fa fd) (hmg : mg "_law_mixed" = some (.ref fa)) (hb : Binds K fd ["_law_cell_here", "_law_base", "_law_many"] []) (T : Txt mg)      : Known P w K mg base 1 "_law_mixed" f_law_mixed := by
  have nd := sc_law_mixed.nd
  exact Fun.known F sc_law_mixed hmg hb len_law_mixed (fun cdv A outer s H E hr => ⟨t_law_mixed, (qss_cons (qs_setOwn 3 nd (qf_lst qa_nil)) (qss_cons (qs_forR1 PassesOwn.never rfl rfl T.range (qa_cons (qv 2) qa_nil) (qg_name 4 nd) (qss_cons (qs_set 5 nd (q_mod (q_mul (q_add (q_add (q_add (q_mod (qv 0) qint) (q_mul (q_mul qint (qv 4)) (qv 4))) (q_mul qint (qv 4))) qint) qint) qint)) (qss_cons (qs_set 6 nd (q_mod (q_mul (q_add (q_add (q_fdiv (qv 5) qint) (q_mul (q_mod (q_fdiv (qv 0) qint) qint) qint)) (qv 4)) qint) qint)) (qss_one (qs_append 3 (q_mod (q_fdiv (qv 6) qint) (qv 1))))))) (qss_one (qs_freeze 3 (qs_ret (qv 3)))))), ob_law_mixed⟩)
theorem kn_law_row {fa : Addr} {fd : FuncData} (F : Fun K "_law_row" "_law_row" s_law_row fa fd) (hmg : mg "_law_row" = some (.ref fa)) (hb : Binds K fd ["_law_cell_here", "_law_base", "_law_many"] []) (T : Txt mg)  (k_law_digits : Known P w K mg base 1 "_law_digits" f_law_digits) (k_law_mixed : Known P w K mg base 1 "_law_mixed" f_law_mixed)    : Known P w K mg base 2 "_law_row" f_law_row := by
  have nd := sc_law_row.nd
  exact Fun.known F sc_law_row hmg hb len_law_row (fun cdv A outer s H E hr => ⟨t_law_row, (qss_cons (qs_if (t_ge (q_abs T.abs (qa_cons (qv 0) qa_nil)) (q_pow qint qint)) (qss_one (qs_ret (q_call k_law_digits (hr.mono (by decide)) (qa_cons (qv 0) (qa_cons (qv 1) (qa_cons (qv 2) qa_nil)))))) qss_nil) (qss_one (qs_ret (q_call k_law_mixed (hr.mono (by decide)) (qa_cons (qv 0) (qa_cons (qv 1) (qa_cons (qv 2) qa_nil))))))), ob_law_row⟩)
theorem kn_law_fractions {fa : Addr} {fd : FuncData} (F : Fun K "_law_fractions" "_law_fractions" s_law_fractions fa fd) (hmg : mg "_law_fractions" = some (.ref fa)) (hb : Binds K fd ["_law_many", "_law_digits_here"] []) (T : Txt mg)      : Known P w K mg base 1 "_law_fractions" f_law_fractions := by
  have nd := sc_law_fractions.nd
  exact Fun.known F sc_law_fractions hmg hb len_law_fractions (fun cdv A outer s H E hr => ⟨t_law_fractions, (qss_cons (qs_setOwn 2 nd (qf_lst (qa_cons (qe_tup (qa_cons (q_neg qint) (qa_cons qint qa_nil))) (qa_cons (qe_tup (qa_cons qint (qa_cons qint qa_nil))) (qa_cons (qe_tup (qa_cons qint (qa_cons qint qa_nil))) qa_nil))))) (qss_cons (qs_forR1 PassesOwn.never rfl rfl T.range (qa_cons (q_sub (qv 0) qint) qa_nil) (qg_name 3 nd) (qss_cons (qs_set 4 nd (q_mod (q_ix (qv 1) (qv 3) (fun _ _ => rfl)) (q_sub (q_lenOwn 2 T.len) qint))) (qss_one (qs_insert 2 (q_add (qv 4) qint) (qe_tup (qa_cons (q_add (q_ix (q_ixOwn 2 (qv 4) (fun _ _ => rfl)) qint (fun _ _ => rfl)) (q_ix (q_ixOwn 2 (q_add (qv 4) qint) (fun _ _ => rfl)) qint (fun _ _ => rfl))) (qa_cons (q_add (q_ix (q_ixOwn 2 (qv 4) (fun _ _ => rfl)) qint (fun _ _ => rfl)) (q_ix (q_ixOwn 2 (q_add (qv 4) qint) (fun _ _ => rfl)) qint (fun _ _ => rfl))) qa_nil))))))) (qss_one (qs_freeze 2 (qs_ret (q_tupleOf T.tuple (qa_cons (q_add (qe_lst (qa_cons (qe_tup (qa_cons qint (qa_cons qint qa_nil))) qa_nil)) (q_sl (qv 2) (qo_some qint) (qo_some (q_sub (q_len T.len (qa_cons (qv 2) qa_nil)) qint)))) qa_nil))))))), ob_law_fractions⟩)
theorem kn_law_marks {fa : Addr} {fd : FuncData} (F : Fun K "_law_marks" "_law_marks" s_law_marks fa fd) (hmg : mg "_law_marks" = some (.ref fa)) (hb : Binds K fd ["_law_many", "_law_digits_here"] []) (T : Txt mg)      : Known P w K mg base 1 "_law_marks" f_law_marks := by
  have nd := sc_law_marks.nd
  exact Fun.known F sc_law_marks hmg hb len_law_marks (fun cdv A outer s H E hr => ⟨t_law_marks, (qss_cons (qs_setOwnCompR1 2 nd (N' := ["_law_gap"]) (ix := []) rfl (CompOk.of (defScope s_law_marks) rfl rfl (by decide +kernel) (by decide +kernel) (by decide +kernel) (fun j i h => by simp at h) rfl) (by decide) rfl rfl rfl T.range (qa_cons (qv 0) qa_nil) (fun C s H fp pins => qifs_nil) (fun C s H fp pins => qstr)) (qss_cons (qs_setOwn 3 nd (qf_listR T.list T.range (qa_cons (qv 0) qa_nil))) (qss_cons (qs_set 4 nd qint) (qss_cons (qs_while PassesOwn.never (t_ownNe 3 hr.units) (qss_cons (qs_setPop 5 3 nd qint) (qss_cons (qs_set 6 nd (q_mod (q_ix (qv 1) (qv 4) (fun _ _ => rfl)) qint)) (qss_cons (qs_if (t_eq hr.units (qv 6) qint) (qss_one (qs_put 2 (qv 5) qstr)) qss_nil) (qss_cons (qs_if (QW.t (qw_and (t_gt (qv 6) qint) (qw_and1 (t_ownNe 3 hr.units)))) (qss_cons (qs_setPop 7 3 nd (q_mod (q_ix (qv 1) (q_add (qv 4) qint) (fun _ _ => rfl)) (q_lenOwn 3 T.len))) (qss_cons (qs_put 2 (qv 5) (qv 7)) (qss_one (qs_put 2 (qv 7) (qv 5))))) qss_nil) (qss_one (qs_set 4 nd (q_add (qv 4) qint)))))))) (qss_cons (qs_freeze 2 (qs_if (QW.t (qw_and (t_eq hr.units (qv 0) qint) (qw_and1 (t_ninL hr.units qstr (qv 2))))) (qss_one (qs_set 2 nd (qe_lst (qa_cons qstr (qa_cons qstr qa_nil))))) qss_nil)) (qss_one (qs_ret (q_tupleOf T.tuple (qa_cons (qv 2) qa_nil))))))))), ob_law_marks⟩)
theorem kn_law_fan {fa : Addr} {fd : FuncData} (F : Fun K "_law_fan" "_law_fan" s_law_fan fa fd) (hmg : mg "_law_fan" = some (.ref fa)) (hb : Binds K fd ["_law_cell_here"] []) (T : Txt mg)  (k_law_fractions : Known P w K mg base 1 "_law_fractions" f_law_fractions) (k_law_marks : Known P w K mg base 1 "_law_marks" f_law_marks) (k_law_row : Known P w K mg base 2 "_law_row" f_law_row)    : Known P w K mg base 3 "_law_fan" f_law_fan := by
  have nd := sc_law_fan.nd
  exact Fun.known F sc_law_fan hmg hb len_law_fan (fun cdv A outer s H E hr => ⟨t_law_fan, (qss_cons (qs_set 1 nd (q_add qint (q_mod (qv 0) qint))) (qss_cons (qs_if (t_eq hr.units (q_mod (q_fdiv (qv 0) qint) qint) qint) (qss_one (qs_set 1 nd (q_add qint (q_mod (q_fdiv (qv 0) qint) qint)))) qss_nil) (qss_cons (qs_set 2 nd (q_call k_law_row (hr.mono (by decide)) (qa_cons (q_fdiv (qv 0) qint) (qa_cons qint (qa_cons qint qa_nil))))) (qss_one (qs_ret (qe_tup (qa_cons (q_call k_law_fractions (hr.mono (by decide)) (qa_cons (qv 1) (qa_cons (q_sl (qv 2) qo_none (qo_some qint)) qa_nil))) (qa_cons (q_call k_law_marks (hr.mono (by decide)) (qa_cons (qv 1) (qa_cons (q_sl (qv 2) (qo_some qint) qo_none) qa_nil))) qa_nil)))))))), ob_law_fan⟩)
theorem kn_law_whole {fa : Addr} {fd : FuncData} (F : Fun K "_law_whole" "_law_whole" s_law_whole fa fd) (hmg : mg "_law_whole" = some (.ref fa)) (hb : Binds K fd ["_law_thing_here"] []) (T : Txt mg)      : Known P w K mg base 1 "_law_whole" f_law_whole := by
  have nd := sc_law_whole.nd
  exact Fun.known F sc_law_whole hmg hb len_law_whole (fun cdv A outer s H E hr => ⟨t_law_whole, (qss_one (qs_ret (qe_and (q_isi T.isinstance T.int boot_int' (qv 0)) (qe_one (qe_not (q_isi T.isinstance T.bool boot_bool' (qv 0))))))), ob_law_whole⟩)
theorem kn_law_common {fa : Addr} {fd : FuncData} (F : Fun K "_law_common" "_law_common" s_law_common fa fd) (hmg : mg "_law_common" = some (.ref fa)) (hb : Binds K fd ["_law_one", "_law_other"] []) (T : Txt mg)      : Known P w K mg base 1 "_law_common" f_law_common := by
  have nd := sc_law_common.nd
  exact Fun.known F sc_law_common hmg hb len_law_common (fun cdv A outer s H E hr => ⟨t_law_common, (qss_cons (qs_set 0 nd (q_abs T.abs (qa_cons (qv 0) qa_nil))) (qss_cons (qs_while PassesOwn.never (t_gt (qv 1) qint) (qss_one (qs_par 0 1 rfl nd (qa_cons (qv 1) (qa_cons (q_mod (qv 0) (qv 1)) qa_nil))))) (qss_one (qs_ret (qv 0))))), ob_law_common⟩)
theorem kn_law_is_fraction {fa : Addr} {fd : FuncData} (F : Fun K "_law_is_fraction" "_law_is_fraction" s_law_is_fraction fa fd) (hmg : mg "_law_is_fraction" = some (.ref fa)) (hb : Binds K fd ["_law_thing_here"] []) (T : Txt mg)  (k_law_common : Known P w K mg base 1 "_law_common" f_law_common) (k_law_whole : Known P w K mg base 1 "_law_whole" f_law_whole)    : Known P w K mg base 2 "_law_is_fraction" f_law_is_fraction := by
  have nd := sc_law_is_fraction.nd
  exact Fun.known F sc_law_is_fraction hmg hb len_law_is_fraction (fun cdv A outer s H E hr => ⟨t_law_is_fraction, (qss_cons (qs_if (QW.t (qw_or (qt_not (qt_val (q_isi T.isinstance T.tuple boot_tuple' (qv 0)))) (qw_or (t_ne hr.units (q_len T.len (qa_cons (qv 0) qa_nil)) qint) (qw_or (qt_not (qt_val (q_call k_law_whole (hr.mono (by decide)) (qa_cons (q_ix (qv 0) qint (fun _ _ => rfl)) qa_nil)))) (qw_or1 (qt_not (qt_val (q_call k_law_whole (hr.mono (by decide)) (qa_cons (q_ix (qv 0) qint (fun _ _ => rfl)) qa_nil))))))))) (qss_one (qs_ret qbl)) qss_nil) (qss_one (qs_ret (qe_or (q_eq hr.units (qv 0) (qe_tup (qa_cons qint (qa_cons qint qa_nil)))) (qe_one (qe_and (q_gt (q_ix (qv 0) qint (fun _ _ => rfl)) qint) (qe_one (q_eq hr.units (q_call k_law_common (hr.mono (by decide)) (qa_cons (q_ix (qv 0) qint (fun _ _ => rfl)) (qa_cons (q_ix (qv 0) qint (fun _ _ => rfl)) qa_nil))) qint)))))))), ob_law_is_fraction⟩)
theorem kn_law_bad_fraction {fa : Addr} {fd : FuncData} (F : Fun K "_law_bad_fraction" "_law_bad_fraction" s_law_bad_fraction fa fd) (hmg : mg "_law_bad_fraction" = some (.ref fa)) (hb : Binds K fd ["_law_fractions_here", "_law_i"] []) (T : Txt mg)  (k_law_is_fraction : Known P w K mg base 2 "_law_is_fraction" f_law_is_fraction)    : Known P w K mg base 3 "_law_bad_fraction" f_law_bad_fraction := by
  have nd := sc_law_bad_fraction.nd
  exact Fun.known F sc_law_bad_fraction hmg hb len_law_bad_fraction (fun cdv A outer s H E hr => ⟨t_law_bad_fraction, (qss_cons (qs_set 2 nd (q_ix (qv 0) (qv 1) (fun _ _ => rfl))) (qss_cons (qs_if (QW.t (qw_or (qt_not (qt_val (q_call k_law_is_fraction (hr.mono (by decide)) (qa_cons (qv 2) qa_nil)))) (qw_or1 (t_ne hr.units (q_eq hr.units (qv 1) qint) (q_eq hr.units (qv 2) (qe_tup (qa_cons qint (qa_cons qint qa_nil)))))))) (qss_one (qs_ret qbl)) qss_nil) (qss_cons (qs_if (t_eq hr.units (qv 1) qint) (qss_one (qs_ret qbl)) qss_nil) (qss_cons (qs_set 3 nd (q_ix (qv 0) (q_sub (qv 1) qint) (fun _ _ => rfl))) (qss_cons (qs_if (t_ne hr.units (q_abs T.abs (qa_cons (q_sub (q_mul (q_ix (qv 3) qint (fun _ _ => rfl)) (q_ix (qv 2) qint (fun _ _ => rfl))) (q_mul (q_ix (qv 3) qint (fun _ _ => rfl)) (q_ix (qv 2) qint (fun _ _ => rfl)))) qa_nil)) qint) (qss_one (qs_ret qbl)) qss_nil) (qss_cons (qs_if (QW.t (qw_and (t_gt (qv 1) qint) (qw_and1 (t_le (q_mul (q_ix (qv 2) qint (fun _ _ => rfl)) (q_ix (qv 3) qint (fun _ _ => rfl))) (q_mul (q_ix (qv 3) qint (fun _ _ => rfl)) (q_ix (qv 2) qint (fun _ _ => rfl))))))) (qss_one (qs_ret qbl)) qss_nil) (qss_one (qs_ret (qe_and (q_eq hr.units (qv 1) (q_sub (q_len T.len (qa_cons (qv 0) qa_nil)) qint)) (qe_one (q_ne hr.units (q_ix (qv 2) qint (fun _ _ => rfl)) qint))))))))))), ob_law_bad_fraction⟩)
theorem kn_law_bad_mark {fa : Addr} {fd : FuncData} (F : Fun K "_law_bad_mark" "_law_bad_mark" s_law_bad_mark fa fd) (hmg : mg "_law_bad_mark" = some (.ref fa)) (hb : Binds K fd ["_law_marks_here", "_law_i"] []) (T : Txt mg)  (k_law_whole : Known P w K mg base 1 "_law_whole" f_law_whole)    : Known P w K mg base 2 "_law_bad_mark" f_law_bad_mark := by
  have nd := sc_law_bad_mark.nd
  exact Fun.known F sc_law_bad_mark hmg hb len_law_bad_mark (fun cdv A outer s H E hr => ⟨t_law_bad_mark, (qss_cons (qs_set 2 nd (q_ix (qv 0) (qv 1) (fun _ _ => rfl))) (qss_cons (qs_if (qt_val (q_isi T.isinstance T.str boot_str' (qv 2))) (qss_one (qs_ret (q_ninL hr.units (qv 2) (qe_lst (qa_cons qstr (qa_cons qstr qa_nil)))))) qss_nil) (qss_cons (qs_if (QW.t (qw_or (qt_not (qt_val (q_call k_law_whole (hr.mono (by decide)) (qa_cons (qv 2) qa_nil)))) (qw_or (t_lt (qv 2) qint) (qw_or (t_ge (qv 2) (q_len T.len (qa_cons (qv 0) qa_nil))) (qw_or1 (t_eq hr.units (qv 2) (qv 1))))))) (qss_one (qs_ret qbl)) qss_nil) (qss_one (qs_ret (qe_or (qe_not (q_call k_law_whole (hr.mono (by decide)) (qa_cons (q_ix (qv 0) (qv 2) (fun _ _ => rfl)) qa_nil))) (qe_one (q_ne hr.units (q_ix (qv 0) (qv 2) (fun _ _ => rfl)) (qv 1))))))))), ob_law_bad_mark⟩)
theorem kn_law_fault {fa : Addr} {fd : FuncData} (F : Fun K "_law_fault" "_law_fault" s_law_fault fa fd) (hmg : mg "_law_fault" = some (.ref fa)) (hb : Binds K fd ["_law_thing_here"] []) (T : Txt mg)  (k_law_bad_fraction : Known P w K mg base 3 "_law_bad_fraction" f_law_bad_fraction) (k_law_bad_mark : Known P w K mg base 2 "_law_bad_mark" f_law_bad_mark)    : Known P w K mg base 4 "_law_fault" f_law_fault := by
  have nd := sc_law_fault.nd
  exact Fun.known F sc_law_fault hmg hb len_law_fault (fun cdv A outer s H E hr => ⟨t_law_fault, (qss_cons (qs_if (QW.t (qw_or (qt_not (qt_val (q_isi T.isinstance T.tuple boot_tuple' (qv 0)))) (qw_or (t_ne hr.units (q_len T.len (qa_cons (qv 0) qa_nil)) qint) (qw_or1 (qt_not (qt_val (q_all T.all (qa_cons (QF.e (qf_comp (N' := ["_law_part"]) (ix := []) rfl (CompOk.of (defScope s_law_fault) rfl rfl (by decide +kernel) (by decide +kernel) (by decide +kernel) (fun j i h => by simp at h) rfl) (by decide) rfl rfl (qv 0) (fun C s H fp pins => qifs_nil) (fun C s H fp pins => (q_isi T.isinstance T.tuple boot_tuple' (qv 0))))) qa_nil)))))))) (qss_one (qs_ret (qe_lst (qa_cons qstr (qa_cons qint qa_nil))))) qss_nil) (qss_cons (qs_asg (qv 0) (qg_tup rfl (qgs_cons (qg_name 1 nd) (qgs_cons (qg_name 2 nd) qgs_nil)))) (qss_cons (qs_if (qt_not (t_lele qint (q_len T.len (qa_cons (qv 1) qa_nil)) qint)) (qss_one (qs_ret (qe_lst (qa_cons qstr (qa_cons qint qa_nil))))) qss_nil) (qss_cons (qs_forR1 PassesOwn.never rfl rfl T.range (qa_cons (q_len T.len (qa_cons (qv 1) qa_nil)) qa_nil) (qg_name 3 nd) (qss_one (qs_if (qt_val (q_call k_law_bad_fraction (hr.mono (by decide)) (qa_cons (qv 1) (qa_cons (qv 3) qa_nil)))) (qss_one (qs_ret (qe_lst (qa_cons qstr (qa_cons (qv 3) qa_nil))))) qss_nil))) (qss_cons (qs_if (t_ninL hr.units (qe_tup (qa_cons qint (qa_cons qint qa_nil))) (qv 1)) (qss_one (qs_ret (qe_lst (qa_cons qstr (qa_cons qint qa_nil))))) qss_nil) (qss_cons (qs_if (t_ne hr.units (q_len T.len (qa_cons (qv 2) qa_nil)) (q_len T.len (qa_cons (qv 1) qa_nil))) (qss_one (qs_ret (qe_lst (qa_cons qstr (qa_cons qint qa_nil))))) qss_nil) (qss_cons (qs_forR1 PassesOwn.never rfl rfl T.range (qa_cons (q_len T.len (qa_cons (qv 2) qa_nil)) qa_nil) (qg_name 3 nd) (qss_one (qs_if (qt_val (q_call k_law_bad_mark (hr.mono (by decide)) (qa_cons (qv 2) (qa_cons (qv 3) qa_nil)))) (qss_one (qs_ret (qe_lst (qa_cons qstr (qa_cons (qv 3) qa_nil))))) qss_nil))) (qss_cons (qs_set 4 nd (q_add (q_mul qint (q_sub (q_len T.len (qa_cons (qv 1) qa_nil)) qint)) (q_len T.len (qa_cons (QF.e (qf_comp (N' := ["_law_mark"]) (ix := []) rfl (CompOk.of (defScope s_law_fault) rfl rfl (by decide +kernel) (by decide +kernel) (by decide +kernel) (fun j i h => by simp at h) rfl) (by decide) rfl rfl (qv 2) (fun C s H fp pins => (qifs_one rfl (t_eq hr.units (qv 0) qstr))) (fun C s H fp pins => (qv 0)))) qa_nil)))) (qss_cons (qs_if (QW.t (qw_or (t_lt (qv 4) qint) (qw_or1 (t_gt (qv 4) qint)))) (qss_one (qs_ret (qe_lst (qa_cons qstr (qa_cons qint qa_nil))))) qss_nil) (qss_one (qs_ret qnon))))))))))), ob_law_fault⟩)
theorem kn_law_changed {fa : Addr} {fd : FuncData} (F : Fun K "_law_changed" "_law_changed" s_law_changed fa fd) (hmg : mg "_law_changed" = some (.ref fa)) (hb : Binds K fd ["_law_row_here", "_law_digits_here"] []) (T : Txt mg)      : Known P w K mg base 1 "_law_changed" f_law_changed := by
  have nd := sc_law_changed.nd
  exact Fun.known F sc_law_changed hmg hb len_law_changed (fun cdv A outer s H E hr => ⟨t_law_changed, (qss_cons (qs_setOwn 0 nd (qf_listOf T.list (qa_cons (qv 0) qa_nil))) (qss_cons (qs_set 2 nd (q_mod (q_ix (qv 1) qint (fun _ _ => rfl)) (q_lenOwn 0 T.len))) (qss_cons (qs_set 3 nd (q_mod (q_ix (qv 1) qint (fun _ _ => rfl)) qint)) (qss_cons (qs_if (t_eq hr.units (qv 3) qint) (qss_one (qs_popI 0 (qv 2))) qss_nil) (qss_cons (qs_if (t_eq hr.units (qv 3) qint) (qss_one (qs_insert 0 (qv 2) (q_ixOwn 0 (qv 2) (fun _ _ => rfl)))) qss_nil) (qss_cons (qs_if (QW.t (qw_and (t_eq hr.units (qv 3) qint) (qw_and1 (t_gt (qv 2) qint)))) (qss_one (qs_asg (qe_tup (qa_cons (q_ixOwn 0 (q_sub (qv 2) qint) (fun _ _ => rfl)) (qa_cons (q_ixOwn 0 (qv 2) (fun _ _ => rfl)) qa_nil))) (qg_tup rfl (qgs_cons (qg_put 0 (qv 2)) (qgs_cons (qg_put 0 (q_sub (qv 2) qint)) qgs_nil))))) qss_nil) (qss_cons (qs_if (QW.t (qw_and (t_eq hr.units (qv 3) qint) (qw_and1 (qt_val (q_isi T.isinstance T.tuple boot_tuple' (q_ixOwn 0 (qv 2) (fun _ _ => rfl))))))) (qss_one (qs_put 0 (qv 2) (qe_tup (qa_cons (q_sub (q_add (q_ix (q_ixOwn 0 (qv 2) (fun _ _ => rfl)) qint (fun _ _ => rfl)) (q_mod (q_ix (qv 1) qint (fun _ _ => rfl)) qint)) qint) (qa_cons (q_sub (q_add (q_ix (q_ixOwn 0 (qv 2) (fun _ _ => rfl)) qint (fun _ _ => rfl)) (q_mod (q_ix (qv 1) qint (fun _ _ => rfl)) qint)) qint) qa_nil))))) qss_nil) (qss_cons (qs_if (t_eq hr.units (qv 3) qint) (qss_cons (qs_set 4 nd (qe_lst (qa_cons qnon (qa_cons qbl (qa_cons qstr (qa_cons qstr (qa_cons qstr (qa_cons qint (qa_cons (q_neg qint) (qa_cons qint (qa_cons (qe_tup (qa_cons qint (qa_cons qint qa_nil))) (qa_cons (qe_lst (qa_cons qint (qa_cons qint qa_nil))) (qa_cons (qe_tup (qa_cons qint (qa_cons qint qa_nil))) (qa_cons (qe_tup (qa_cons qint (qa_cons qint qa_nil))) (qa_cons (qe_tup (qa_cons qstr (qa_cons qstr qa_nil))) qa_nil))))))))))))))) (qss_one (qs_put 0 (qv 2) (q_ix (qv 4) (q_mod (q_ix (qv 1) qint (fun _ _ => rfl)) qint) (fun _ _ => rfl))))) qss_nil) (qss_cons (qs_if (t_eq hr.units (qv 3) qint) (qss_one (qs_freezeM 0 (qs_set 0 nd (q_add (qv 0) (q_sl (q_sl (qe_lst (qa_cons qstr (qa_cons (qe_tup (qa_cons qint (qa_cons qint qa_nil))) (qa_cons qstr qa_nil)))) (qo_some (q_mod (q_ix (qv 1) qint (fun _ _ => rfl)) qint)) qo_none) qo_none (qo_some qint)))))) qss_nil) (qss_cons (qs_if (QW.t (qw_and (t_eq hr.units (qv 3) qint) (qw_and1 (qt_val (q_isi T.isinstance T.tuple boot_tuple' (q_ixOwn 0 (qv 2) (fun _ _ => rfl))))))) (qss_one (qs_put 0 (qv 2) (q_ix (qe_lst (qa_cons (q_listOf T.list (qa_cons (q_ixOwn 0 (qv 2) (fun _ _ => rfl)) qa_nil)) (qa_cons (q_sl (q_ixOwn 0 (qv 2) (fun _ _ => rfl)) qo_none (qo_some qint)) (qa_cons (qe_tup (qa_cons (q_ix (q_ixOwn 0 (qv 2) (fun _ _ => rfl)) qint (fun _ _ => rfl)) (qa_cons qbl qa_nil))) qa_nil)))) (q_mod (q_ix (qv 1) qint (fun _ _ => rfl)) qint) (fun _ _ => rfl)))) qss_nil) (qss_cons (qs_if (t_eq hr.units (qv 3) qint) (qss_one (qs_put 0 (qv 2) (q_sub (q_mod (q_ix (qv 1) qint (fun _ _ => rfl)) (q_add (q_lenOwn 0 T.len) qint)) qint))) qss_nil) (qss_one (qs_freezeM 0 (qs_ret (q_tupleOf T.tuple (qa_cons (qv 0) qa_nil)))))))))))))))), ob_law_changed⟩)
theorem kn_law_found {fa : Addr} {fd : FuncData} (F : Fun K "_law_found" "_law_found" s_law_found fa fd) (hmg : mg "_law_found" = some (.ref fa)) (hb : Binds K fd ["_law_thing_here"] []) (T : Txt mg)  {n : Nm} (TC : Tc K w n)   (kv_look : KnownV P w K mg base 5 "look" fv_look)  : Known P w K mg base 6 "_law_found" f_law_found := by
  have nd := sc_law_found.nd
  exact Fun.known F sc_law_found hmg hb len_law_found (fun cdv A outer s H E hr => ⟨t_law_found, (qss_cons (qs_tryR 1 nd rfl rfl TC.n_NoFan TC.x_NoFan (q_callV kv_look (hr.mono (by decide)) (qa_cons (qv 0) qa_nil)) (fun _ => (qss_cons (qs_set 2 nd (q_isxD "NoFan" (.tup [.cls "Full", .cls "NoFraction", .cls "NoName", .cls "NoPaper", .cls "NoRoot", .cls "NoRow", .cls "NoTable"]) false T.isinstance TC.n_NoFan TC.o_NoFan (.tup (.cons TC.n_Full (.cons TC.n_NoFraction (.cons TC.n_NoName (.cons TC.n_NoPaper (.cons TC.n_NoRoot (.cons TC.n_NoRow (.cons TC.n_NoTable .nil))))))) TC.kt0) (qa_cons (qv 1) (qa_cons (qe_tup (qa_cons (qcls TC.n_Full) (qa_cons (qcls TC.n_NoFraction) (qa_cons (qcls TC.n_NoName) (qa_cons (qcls TC.n_NoPaper) (qa_cons (qcls TC.n_NoRoot) (qa_cons (qcls TC.n_NoRow) (qa_cons (qcls TC.n_NoTable) qa_nil)))))))) qa_nil)))) (qss_cons (qs_set 2 nd (qe_or (qv 2) (qe_one (q_isxD "NoFan" (.tup [.cls "NoText", .cls "NoTurning", .cls "NotIn", .cls "Open", .cls "TooLong", .cls "TooMany"]) false T.isinstance TC.n_NoFan TC.o_NoFan (.tup (.cons TC.n_NoText (.cons TC.n_NoTurning (.cons TC.n_NotIn (.cons TC.n_Open (.cons TC.n_TooLong (.cons TC.n_TooMany .nil)))))) TC.kt1) (qa_cons (qv 1) (qa_cons (qe_tup (qa_cons (qcls TC.n_NoText) (qa_cons (qcls TC.n_NoTurning) (qa_cons (qcls TC.n_NotIn) (qa_cons (qcls TC.n_Open) (qa_cons (qcls TC.n_TooLong) (qa_cons (qcls TC.n_TooMany) qa_nil))))))) qa_nil)))))) (qss_one (qs_if (QW.t (qw_and (qt_val (q_isxD "NoFan" (.cls "FanError") true T.isinstance TC.n_NoFan TC.o_NoFan (.cls TC.n_FanError TC.kt3) (qa_cons (qv 1) (qa_cons (qcls TC.n_FanError) qa_nil)))) (qw_and (qt_val (q_isxD "NoFan" (.ty "ValueError") true T.isinstance TC.n_NoFan TC.o_NoFan (.ty TC.kt2) (qa_cons (qv 1) (qa_cons (qty rfl T.ValueError boot_VE) qa_nil)))) (qw_and1 (qt_not (qt_val (qv 2))))))) (qss_one (qs_ret (qe_lst (qa_cons (q_fldX "NoFan" "where" TC.n_NoFan TC.o_NoFan TC.a_NoFan_where (qv 1)) (qa_cons (q_fldX "NoFan" "at" TC.n_NoFan TC.o_NoFan TC.a_NoFan_at (qv 1)) qa_nil))))) qss_nil)))))) (qss_one (qs_ret (qe_lst (qa_cons qstr (qa_cons qint qa_nil)))))), ob_law_found⟩)
theorem kn_law_thing {fa : Addr} {fd : FuncData} (F : Fun K "_law_thing" "_law_thing" s_law_thing fa fd) (hmg : mg "_law_thing" = some (.ref fa)) (hb : Binds K fd ["_law_fan_here", "_law_digits_here"] []) (T : Txt mg)  (k_law_changed : Known P w K mg base 1 "_law_changed" f_law_changed)    : Known P w K mg base 2 "_law_thing" f_law_thing := by
  have nd := sc_law_thing.nd
  exact Fun.known F sc_law_thing hmg hb len_law_thing (fun cdv A outer s H E hr => ⟨t_law_thing, (qss_cons (qs_set 2 nd (q_mod (q_ix (qv 1) qint (fun _ _ => rfl)) qint)) (qss_cons (qs_if (t_lt (qv 2) qint) (qss_one (qs_ret (qe_tup (qa_cons (q_call k_law_changed (hr.mono (by decide)) (qa_cons (q_ix (qv 0) qint (fun _ _ => rfl)) (qa_cons (qv 1) qa_nil))) (qa_cons (q_ix (qv 0) qint (fun _ _ => rfl)) qa_nil))))) qss_nil) (qss_cons (qs_if (t_lt (qv 2) qint) (qss_one (qs_ret (qe_tup (qa_cons (q_ix (qv 0) qint (fun _ _ => rfl)) (qa_cons (q_call k_law_changed (hr.mono (by decide)) (qa_cons (q_ix (qv 0) qint (fun _ _ => rfl)) (qa_cons (qv 1) qa_nil))) qa_nil))))) qss_nil) (qss_cons (qs_if (t_eq hr.units (qv 2) qint) (qss_one (qs_ret (q_ix (qe_lst (qa_cons (q_listOf T.list (qa_cons (qv 0) qa_nil)) (qa_cons (qe_tup (qa_cons (q_listOf T.list (qa_cons (q_ix (qv 0) qint (fun _ _ => rfl)) qa_nil)) (qa_cons (q_ix (qv 0) qint (fun _ _ => rfl)) qa_nil))) (qa_cons (qe_tup (qa_cons (q_ix (qv 0) qint (fun _ _ => rfl)) (qa_cons (q_listOf T.list (qa_cons (q_ix (qv 0) qint (fun _ _ => rfl)) qa_nil)) qa_nil))) (qa_cons (q_sl (qv 0) qo_none (qo_some qint)) (qa_cons (q_add (qv 0) (qe_tup (qa_cons (qe_tup qa_nil) qa_nil))) (qa_cons (q_ix (qv 0) qint (fun _ _ => rfl)) qa_nil))))))) (q_mod (q_ix (qv 1) qint (fun _ _ => rfl)) qint) (fun _ _ => rfl)))) qss_nil) (qss_one (qs_ret (qe_tup (qa_cons (q_call k_law_changed (hr.mono (by decide)) (qa_cons (q_ix (qv 0) qint (fun _ _ => rfl)) (qa_cons (qv 1) qa_nil))) (qa_cons (q_call k_law_changed (hr.mono (by decide)) (qa_cons (q_ix (qv 0) qint (fun _ _ => rfl)) (qa_cons (q_sl (qv 1) (qo_some qint) qo_none) qa_nil))) qa_nil))))))))), ob_law_thing⟩)
theorem kn_law {fa : Addr} {fd : FuncData} (F : Fun K "law" "law" s_law fa fd) (T : Txt mg)  (k_law_cell : Known P w K mg base 1 "_law_cell" f_law_cell) (k_law_fan : Known P w K mg base 3 "_law_fan" f_law_fan) (k_law_fault : Known P w K mg base 4 "_law_fault" f_law_fault) (k_law_found : Known P w K mg base 6 "_law_found" f_law_found) (k_law_fractions : Known P w K mg base 1 "_law_fractions" f_law_fractions) (k_law_marks : Known P w K mg base 1 "_law_marks" f_law_marks) (k_law_row : Known P w K mg base 2 "_law_row" f_law_row) (k_law_thing : Known P w K mg base 2 "_law_thing" f_law_thing)    : FnOk P w K mg base CX0 7 fa fd ["_law_script"] (spF K (fLaw 63)) := by
  have nd := sc_law.nd
  exact Fun.fnok F sc_law len_law (fun cdv A outer s H E hr => ⟨t_law, (qss_cons (qs_forR1 PassesOwn.never rfl rfl T.range (qa_cons (q_max T.max (qa_cons qint (qa_cons (q_min T.min (qa_cons qint (qa_cons (q_len T.len (qa_cons (qv 0) qa_nil)) qa_nil))) qa_nil))) qa_nil) (qg_name 1 nd) (qss_cons (qs_set 2 nd (q_call k_law_cell (hr.mono (by decide)) (qa_cons (qv 0) (qa_cons (qv 1) qa_nil)))) (qss_cons (qs_set 3 nd (q_call k_law_fan (hr.mono (by decide)) (qa_cons (qv 2) qa_nil))) (qss_cons (qs_set 4 nd (q_call k_law_row (hr.mono (by decide)) (qa_cons (qv 2) (qa_cons qint (qa_cons qint qa_nil))))) (qss_cons (qs_if (t_eq hr.units (q_mod (q_ix (qv 4) qint (fun _ _ => rfl)) qint) qint) (qss_one (qs_set 3 nd (qe_tup (qa_cons (q_call k_law_fractions (hr.mono (by decide)) (qa_cons qint (qa_cons (q_sl (qv 4) qo_none (qo_some qint)) qa_nil))) (qa_cons (q_call k_law_marks (hr.mono (by decide)) (qa_cons qint (qa_cons (q_sl (qv 4) (qo_some qint) qo_none) qa_nil))) qa_nil))))) qss_nil) (qss_one (qs_for PassesOwn.never rfl (qe_lst (qa_cons (qv 3) (qa_cons (q_call k_law_thing (hr.mono (by decide)) (qa_cons (qv 3) (qa_cons (q_sl (qv 4) (qo_some qint) qo_none) qa_nil))) (qa_cons (q_call k_law_thing (hr.mono (by decide)) (qa_cons (qv 3) (qa_cons (q_sl (qv 4) (qo_some qint) qo_none) qa_nil))) qa_nil)))) (qg_name 5 nd) (qss_one (qs_if (t_ne hr.units (q_call k_law_found (hr.mono (by decide)) (qa_cons (qv 5) qa_nil)) (q_call k_law_fault (hr.mono (by decide)) (qa_cons (qv 5) qa_nil))) (qss_one (qs_ret qbl)) qss_nil))))))))) (qss_cons (qs_set 6 nd (qe_lst (qa_cons qnon (qa_cons qint (qa_cons qstr (qa_cons (qe_tup qa_nil) (qa_cons (qe_lst qa_nil) (qa_cons (qe_tup (qa_cons (qe_tup qa_nil) (qa_cons (qe_tup qa_nil) qa_nil))) (qa_cons (qe_tup (qa_cons (qe_tup (qa_cons (qe_tup (qa_cons qint (qa_cons qint qa_nil))) qa_nil)) (qa_cons (qe_tup (qa_cons qstr qa_nil)) qa_nil))) (qa_cons (qe_tup (qa_cons (qe_tup (qa_cons (qe_tup (qa_cons qint (qa_cons qint qa_nil))) (qa_cons (qe_tup (qa_cons qint (qa_cons qint qa_nil))) qa_nil))) (qa_cons (qe_tup (qa_cons qstr (qa_cons qstr qa_nil))) qa_nil))) qa_nil)))))))))) (qss_cons (qs_set 6 nd (q_add (qv 6) (qe_lst (qa_cons (qe_tup (qa_cons (qe_tup (qa_cons (qe_tup (qa_cons qint (qa_cons qint qa_nil))) (qa_cons (qe_tup (qa_cons qint (qa_cons qint qa_nil))) qa_nil))) (qa_cons (qe_tup (qa_cons qint (qa_cons qint qa_nil))) qa_nil))) (qa_cons (qe_tup (qa_cons (qe_tup (qa_cons (qe_tup (qa_cons qint (qa_cons qint qa_nil))) (qa_cons (qe_tup (qa_cons qint (qa_cons qint qa_nil))) qa_nil))) (qa_cons (qe_tup (qa_cons qstr (qa_cons qstr qa_nil))) qa_nil))) qa_nil))))) (qss_cons (qs_set 6 nd (q_add (qv 6) (qe_lst (qa_cons (qe_tup (qa_cons (qe_tup (qa_cons (qe_tup (qa_cons qint (qa_cons qint qa_nil))) (qa_cons (qe_tup (qa_cons qint (qa_cons qint qa_nil))) qa_nil))) (qa_cons (qe_tup (qa_cons qstr (qa_cons qstr qa_nil))) qa_nil))) qa_nil)))) (qss_one (qs_ret (q_all T.all (qa_cons (QF.e (qf_comp (N' := ["_law_thing_here"]) (ix := []) rfl (CompOk.of (defScope s_law) rfl rfl (by decide +kernel) (by decide +kernel) (by decide +kernel) (fun j i h => by simp at h) rfl) (by decide) rfl rfl (qv 6) (fun C s H fp pins => qifs_nil) (fun C s H fp pins => (q_eq hr.units (q_call k_law_found (hr.mono (by decide)) (qa_cons (qv 0) qa_nil)) (q_call k_law_fault (hr.mono (by decide)) (qa_cons (qv 0) qa_nil)))))) qa_nil)))))))), ob_law⟩)
end
theorem all_mk {l : PySem.W.OpenLaw} {w : World} {K : PySem.W.Frag} {h : Heap} {mg : Str → Option Value} {fa f1 f2 f3 f4 f5 f6 f7 f8 f9 f10 f11 f12 f13 f14 f15 f16 f17 f18 f19 f20 f21 f22 f23 f24 f25 f26 f27 f28 f29 : Addr} {c_NoFan : Addr} {c_NoTable : Addr} {c_NoRow : Addr} {c_NoRoot : Addr} {c_NoPaper : Addr} {c_NoName : Addr} {c_NoFraction : Addr} {c_Full : Addr} {c_TooMany : Addr} {c_TooLong : Addr} {c_Open : Addr} {c_NotIn : Addr} {c_NoTurning : Addr} {c_NoText : Addr} {c_FanError : Addr} {a_TOP : Addr} {its_TOP : Array Value} {n_TOP : Nat} {sl_TOP : Array (Option Value)} {t_MOST_PLACES : Tok} {a_NOUGHT : Addr} {its_NOUGHT : Array Value} {n_NOUGHT : Nat} {sl_NOUGHT : Array (Option Value)} {t_MOST_FRACTIONS : Tok} {fi_NoFan : Addr} {oc_NoFan : Value} {kV_NoFan : Value} {dc_NoFan : Value} {pm_NoFan : Value} {cd_NoFan : Value} {ct_NoFan : Value} {od_NoFan : Option Addr} {an_NoFan : Option Addr} {sl_NoFan : Array (Option Value)} {ta_NoFan : Addr} {tn_NoFan : Nat} {ts_NoFan : Array (Option Value)} {tt_NoFan : Tok} (X : K.In h) (G : h.Ns mainGlobals mg) (hfa : mg "law" = some (.ref fa))
    {od1 an1 od2 an2 od3 an3 od4 an4 od5 an5 od6 an6 od7 an7 od8 an8 od9 an9 od10 an10 od11 an11 od12 an12 od13 an13 od14 an14 od15 an15 od16 an16 od17 an17 od18 an18 od19 an19 od20 an20 od21 an21 od22 an22 od23 an23 od24 an24 od25 an25 od26 an26 od27 an27 od28 an28 od29 an29 : Option Addr} {sl1 sl2 sl3 sl4 sl5 sl6 sl7 sl8 sl9 sl10 sl11 sl12 sl13 sl14 sl15 sl16 sl17 sl18 sl19 sl20 sl21 sl22 sl23 sl24 sl25 sl26 sl27 sl28 sl29 : Array (Option Value)} {oc1 kV1 dc1 pm1 cd1 ct1 oc2 kV2 dc2 pm2 cd2 ct2 oc3 kV3 dc3 pm3 cd3 ct3 oc4 kV4 dc4 pm4 cd4 ct4 oc5 kV5 dc5 pm5 cd5 ct5 oc6 kV6 dc6 pm6 cd6 ct6 oc7 kV7 dc7 pm7 cd7 ct7 oc8 kV8 dc8 pm8 cd8 ct8 oc9 kV9 dc9 pm9 cd9 ct9 oc10 kV10 dc10 pm10 cd10 ct10 oc11 kV11 dc11 pm11 cd11 ct11 oc12 kV12 dc12 pm12 cd12 ct12 oc13 kV13 dc13 pm13 cd13 ct13 oc14 kV14 dc14 pm14 cd14 ct14 oc15 kV15 dc15 pm15 cd15 ct15 oc16 kV16 dc16 pm16 cd16 ct16 oc17 kV17 dc17 pm17 cd17 ct17 oc18 kV18 dc18 pm18 cd18 ct18 oc19 kV19 dc19 pm19 cd19 ct19 oc20 kV20 dc20 pm20 cd20 ct20 oc21 kV21 dc21 pm21 cd21 ct21 oc22 kV22 dc22 pm22 cd22 ct22 oc23 kV23 dc23 pm23 cd23 ct23 oc24 kV24 dc24 pm24 cd24 ct24 oc25 kV25 dc25 pm25 cd25 ct25 oc26 kV26 dc26 pm26 cd26 ct26 oc27 kV27 dc27 pm27 cd27 ct27 oc28 kV28 dc28 pm28 cd28 ct28 oc29 kV29 dc29 pm29 cd29 ct29 : Value}
    (a1 : PySem.W.nsIn K mainGlobals "is_whole" = some (some (.ref f1))) (l1 : K.lookup f1 = some ⟨oc1, od1, .func (PySem.W.fnOf "is_whole" "is_whole" (defArgs s_is_whole) (defBody s_is_whole) (defScope s_is_whole) .none kV1 dc1 pm1 an1 cd1 ct1), sl1⟩) (c1 : PySem.W.codeIn K cd1 "is_whole" = true) (k1 : PySem.W.keepIn K (.ref f1) = true)
    (a2 : PySem.W.nsIn K mainGlobals "are_wholes" = some (some (.ref f2))) (l2 : K.lookup f2 = some ⟨oc2, od2, .func (PySem.W.fnOf "are_wholes" "are_wholes" (defArgs s_are_wholes) (defBody s_are_wholes) (defScope s_are_wholes) .none kV2 dc2 pm2 an2 cd2 ct2), sl2⟩) (c2 : PySem.W.codeIn K cd2 "are_wholes" = true) (k2 : PySem.W.keepIn K (.ref f2) = true)
    (a3 : PySem.W.nsIn K mainGlobals "are_two_tuples" = some (some (.ref f3))) (l3 : K.lookup f3 = some ⟨oc3, od3, .func (PySem.W.fnOf "are_two_tuples" "are_two_tuples" (defArgs s_are_two_tuples) (defBody s_are_two_tuples) (defScope s_are_two_tuples) .none kV3 dc3 pm3 an3 cd3 ct3), sl3⟩) (c3 : PySem.W.codeIn K cd3 "are_two_tuples" = true) (k3 : PySem.W.keepIn K (.ref f3) = true)
    (a4 : PySem.W.nsIn K mainGlobals "common_part" = some (some (.ref f4))) (l4 : K.lookup f4 = some ⟨oc4, od4, .func (PySem.W.fnOf "common_part" "common_part" (defArgs s_common_part) (defBody s_common_part) (defScope s_common_part) .none kV4 dc4 pm4 an4 cd4 ct4), sl4⟩) (c4 : PySem.W.codeIn K cd4 "common_part" = true) (k4 : PySem.W.keepIn K (.ref f4) = true)
    (a5 : PySem.W.nsIn K mainGlobals "upright" = some (some (.ref f5))) (l5 : K.lookup f5 = some ⟨oc5, od5, .func (PySem.W.fnOf "upright" "upright" (defArgs s_upright) (defBody s_upright) (defScope s_upright) .none kV5 dc5 pm5 an5 cd5 ct5), sl5⟩) (c5 : PySem.W.codeIn K cd5 "upright" = true) (k5 : PySem.W.keepIn K (.ref f5) = true)
    (a6 : PySem.W.nsIn K mainGlobals "is_fraction" = some (some (.ref f6))) (l6 : K.lookup f6 = some ⟨oc6, od6, .func (PySem.W.fnOf "is_fraction" "is_fraction" (defArgs s_is_fraction) (defBody s_is_fraction) (defScope s_is_fraction) .none kV6 dc6 pm6 an6 cd6 ct6), sl6⟩) (c6 : PySem.W.codeIn K cd6 "is_fraction" = true) (k6 : PySem.W.keepIn K (.ref f6) = true)
    (a7 : PySem.W.nsIn K mainGlobals "are_neighbours" = some (some (.ref f7))) (l7 : K.lookup f7 = some ⟨oc7, od7, .func (PySem.W.fnOf "are_neighbours" "are_neighbours" (defArgs s_are_neighbours) (defBody s_are_neighbours) (defScope s_are_neighbours) .none kV7 dc7 pm7 an7 cd7 ct7), sl7⟩) (c7 : PySem.W.codeIn K cd7 "are_neighbours" = true) (k7 : PySem.W.keepIn K (.ref f7) = true)
    (a8 : PySem.W.nsIn K mainGlobals "is_above" = some (some (.ref f8))) (l8 : K.lookup f8 = some ⟨oc8, od8, .func (PySem.W.fnOf "is_above" "is_above" (defArgs s_is_above) (defBody s_is_above) (defScope s_is_above) .none kV8 dc8 pm8 an8 cd8 ct8), sl8⟩) (c8 : PySem.W.codeIn K cd8 "is_above" = true) (k8 : PySem.W.keepIn K (.ref f8) = true)
    (a9 : PySem.W.nsIn K mainGlobals "is_due_fraction" = some (some (.ref f9))) (l9 : K.lookup f9 = some ⟨oc9, od9, .func (PySem.W.fnOf "is_due_fraction" "is_due_fraction" (defArgs s_is_due_fraction) (defBody s_is_due_fraction) (defScope s_is_due_fraction) .none kV9 dc9 pm9 an9 cd9 ct9), sl9⟩) (c9 : PySem.W.codeIn K cd9 "is_due_fraction" = true) (k9 : PySem.W.keepIn K (.ref f9) = true)
    (a10 : PySem.W.nsIn K mainGlobals "is_due_mark" = some (some (.ref f10))) (l10 : K.lookup f10 = some ⟨oc10, od10, .func (PySem.W.fnOf "is_due_mark" "is_due_mark" (defArgs s_is_due_mark) (defBody s_is_due_mark) (defScope s_is_due_mark) .none kV10 dc10 pm10 an10 cd10 ct10), sl10⟩) (c10 : PySem.W.codeIn K cd10 "is_due_mark" = true) (k10 : PySem.W.keepIn K (.ref f10) = true)
    (a11 : PySem.W.nsIn K mainGlobals "many_places" = some (some (.ref f11))) (l11 : K.lookup f11 = some ⟨oc11, od11, .func (PySem.W.fnOf "many_places" "many_places" (defArgs s_many_places) (defBody s_many_places) (defScope s_many_places) .none kV11 dc11 pm11 an11 cd11 ct11), sl11⟩) (c11 : PySem.W.codeIn K cd11 "many_places" = true) (k11 : PySem.W.keepIn K (.ref f11) = true)
    (a12 : PySem.W.nsIn K mainGlobals "look" = some (some (.ref f12))) (l12 : K.lookup f12 = some ⟨oc12, od12, .func (PySem.W.fnOf "look" "look" (defArgs s_look) (defBody s_look) (defScope s_look) .none kV12 dc12 pm12 an12 cd12 ct12), sl12⟩) (c12 : PySem.W.codeIn K cd12 "look" = true) (k12 : PySem.W.keepIn K (.ref f12) = true)
    (a13 : PySem.W.nsIn K mainGlobals "_law_cell" = some (some (.ref f13))) (l13 : K.lookup f13 = some ⟨oc13, od13, .func (PySem.W.fnOf "_law_cell" "_law_cell" (defArgs s_law_cell) (defBody s_law_cell) (defScope s_law_cell) .none kV13 dc13 pm13 an13 cd13 ct13), sl13⟩) (c13 : PySem.W.codeIn K cd13 "_law_cell" = true) (k13 : PySem.W.keepIn K (.ref f13) = true)
    (a14 : PySem.W.nsIn K mainGlobals "_law_digits" = some (some (.ref f14))) (l14 : K.lookup f14 = some ⟨oc14, od14, .func (PySem.W.fnOf "_law_digits" "_law_digits" (defArgs s_law_digits) (defBody s_law_digits) (defScope s_law_digits) .none kV14 dc14 pm14 an14 cd14 ct14), sl14⟩) (c14 : PySem.W.codeIn K cd14 "_law_digits" = true) (k14 : PySem.W.keepIn K (.ref f14) = true)
    (a15 : PySem.W.nsIn K mainGlobals "_law_mixed" = some (some (.ref f15))) (l15 : K.lookup f15 = some ⟨oc15, od15, .func (PySem.W.fnOf "_law_mixed" "_law_mixed" (defArgs s_law_mixed) (defBody s_law_mixed) (defScope s_law_mixed) .none kV15 dc15 pm15 an15 cd15 ct15), sl15⟩) (c15 : PySem.W.codeIn K cd15 "_law_mixed" = true) (k15 : PySem.W.keepIn K (.ref f15) = true)
    (a16 : PySem.W.nsIn K mainGlobals "_law_row" = some (some (.ref f16))) (l16 : K.lookup f16 = some ⟨oc16, od16, .func (PySem.W.fnOf "_law_row" "_law_row" (defArgs s_law_row) (defBody s_law_row) (defScope s_law_row) .none kV16 dc16 pm16 an16 cd16 ct16), sl16⟩) (c16 : PySem.W.codeIn K cd16 "_law_row" = true) (k16 : PySem.W.keepIn K (.ref f16) = true)
    (a17 : PySem.W.nsIn K mainGlobals "_law_fractions" = some (some (.ref f17))) (l17 : K.lookup f17 = some ⟨oc17, od17, .func (PySem.W.fnOf "_law_fractions" "_law_fractions" (defArgs s_law_fractions) (defBody s_law_fractions) (defScope s_law_fractions) .none kV17 dc17 pm17 an17 cd17 ct17), sl17⟩) (c17 : PySem.W.codeIn K cd17 "_law_fractions" = true) (k17 : PySem.W.keepIn K (.ref f17) = true)
    (a18 : PySem.W.nsIn K mainGlobals "_law_marks" = some (some (.ref f18))) (l18 : K.lookup f18 = some ⟨oc18, od18, .func (PySem.W.fnOf "_law_marks" "_law_marks" (defArgs s_law_marks) (defBody s_law_marks) (defScope s_law_marks) .none kV18 dc18 pm18 an18 cd18 ct18), sl18⟩) (c18 : PySem.W.codeIn K cd18 "_law_marks" = true) (k18 : PySem.W.keepIn K (.ref f18) = true)
    (a19 : PySem.W.nsIn K mainGlobals "_law_fan" = some (some (.ref f19))) (l19 : K.lookup f19 = some ⟨oc19, od19, .func (PySem.W.fnOf "_law_fan" "_law_fan" (defArgs s_law_fan) (defBody s_law_fan) (defScope s_law_fan) .none kV19 dc19 pm19 an19 cd19 ct19), sl19⟩) (c19 : PySem.W.codeIn K cd19 "_law_fan" = true) (k19 : PySem.W.keepIn K (.ref f19) = true)
    (a20 : PySem.W.nsIn K mainGlobals "_law_whole" = some (some (.ref f20))) (l20 : K.lookup f20 = some ⟨oc20, od20, .func (PySem.W.fnOf "_law_whole" "_law_whole" (defArgs s_law_whole) (defBody s_law_whole) (defScope s_law_whole) .none kV20 dc20 pm20 an20 cd20 ct20), sl20⟩) (c20 : PySem.W.codeIn K cd20 "_law_whole" = true) (k20 : PySem.W.keepIn K (.ref f20) = true)
    (a21 : PySem.W.nsIn K mainGlobals "_law_common" = some (some (.ref f21))) (l21 : K.lookup f21 = some ⟨oc21, od21, .func (PySem.W.fnOf "_law_common" "_law_common" (defArgs s_law_common) (defBody s_law_common) (defScope s_law_common) .none kV21 dc21 pm21 an21 cd21 ct21), sl21⟩) (c21 : PySem.W.codeIn K cd21 "_law_common" = true) (k21 : PySem.W.keepIn K (.ref f21) = true)
    (a22 : PySem.W.nsIn K mainGlobals "_law_is_fraction" = some (some (.ref f22))) (l22 : K.lookup f22 = some ⟨oc22, od22, .func (PySem.W.fnOf "_law_is_fraction" "_law_is_fraction" (defArgs s_law_is_fraction) (defBody s_law_is_fraction) (defScope s_law_is_fraction) .none kV22 dc22 pm22 an22 cd22 ct22), sl22⟩) (c22 : PySem.W.codeIn K cd22 "_law_is_fraction" = true) (k22 : PySem.W.keepIn K (.ref f22) = true)
    (a23 : PySem.W.nsIn K mainGlobals "_law_bad_fraction" = some (some (.ref f23))) (l23 : K.lookup f23 = some ⟨oc23, od23, .func (PySem.W.fnOf "_law_bad_fraction" "_law_bad_fraction" (defArgs s_law_bad_fraction) (defBody s_law_bad_fraction) (defScope s_law_bad_fraction) .none kV23 dc23 pm23 an23 cd23 ct23), sl23⟩) (c23 : PySem.W.codeIn K cd23 "_law_bad_fraction" = true) (k23 : PySem.W.keepIn K (.ref f23) = true)
    (a24 : PySem.W.nsIn K mainGlobals "_law_bad_mark" = some (some (.ref f24))) (l24 : K.lookup f24 = some ⟨oc24, od24, .func (PySem.W.fnOf "_law_bad_mark" "_law_bad_mark" (defArgs s_law_bad_mark) (defBody s_law_bad_mark) (defScope s_law_bad_mark) .none kV24 dc24 pm24 an24 cd24 ct24), sl24⟩) (c24 : PySem.W.codeIn K cd24 "_law_bad_mark" = true) (k24 : PySem.W.keepIn K (.ref f24) = true)
    (a25 : PySem.W.nsIn K mainGlobals "_law_fault" = some (some (.ref f25))) (l25 : K.lookup f25 = some ⟨oc25, od25, .func (PySem.W.fnOf "_law_fault" "_law_fault" (defArgs s_law_fault) (defBody s_law_fault) (defScope s_law_fault) .none kV25 dc25 pm25 an25 cd25 ct25), sl25⟩) (c25 : PySem.W.codeIn K cd25 "_law_fault" = true) (k25 : PySem.W.keepIn K (.ref f25) = true)
    (a26 : PySem.W.nsIn K mainGlobals "_law_changed" = some (some (.ref f26))) (l26 : K.lookup f26 = some ⟨oc26, od26, .func (PySem.W.fnOf "_law_changed" "_law_changed" (defArgs s_law_changed) (defBody s_law_changed) (defScope s_law_changed) .none kV26 dc26 pm26 an26 cd26 ct26), sl26⟩) (c26 : PySem.W.codeIn K cd26 "_law_changed" = true) (k26 : PySem.W.keepIn K (.ref f26) = true)
    (a27 : PySem.W.nsIn K mainGlobals "_law_found" = some (some (.ref f27))) (l27 : K.lookup f27 = some ⟨oc27, od27, .func (PySem.W.fnOf "_law_found" "_law_found" (defArgs s_law_found) (defBody s_law_found) (defScope s_law_found) .none kV27 dc27 pm27 an27 cd27 ct27), sl27⟩) (c27 : PySem.W.codeIn K cd27 "_law_found" = true) (k27 : PySem.W.keepIn K (.ref f27) = true)
    (a28 : PySem.W.nsIn K mainGlobals "_law_thing" = some (some (.ref f28))) (l28 : K.lookup f28 = some ⟨oc28, od28, .func (PySem.W.fnOf "_law_thing" "_law_thing" (defArgs s_law_thing) (defBody s_law_thing) (defScope s_law_thing) .none kV28 dc28 pm28 an28 cd28 ct28), sl28⟩) (c28 : PySem.W.codeIn K cd28 "_law_thing" = true) (k28 : PySem.W.keepIn K (.ref f28) = true)
    (a29 : PySem.W.nsIn K mainGlobals "law" = some (some (.ref f29))) (l29 : K.lookup f29 = some ⟨oc29, od29, .func (PySem.W.fnOf "law" "law" (defArgs s_law) (defBody s_law) (defScope s_law) .none kV29 dc29 pm29 an29 cd29 ct29), sl29⟩) (c29 : PySem.W.codeIn K cd29 "law" = true) (k29 : PySem.W.keepIn K (.ref f29) = true)
    (z0 : PySem.W.nsIn K mainGlobals "ValueError" = some none)
    (z1 : PySem.W.nsIn K mainGlobals "abs" = some none)
    (z2 : PySem.W.nsIn K mainGlobals "all" = some none)
    (z3 : PySem.W.nsIn K mainGlobals "bool" = some none)
    (z4 : PySem.W.nsIn K mainGlobals "int" = some none)
    (z5 : PySem.W.nsIn K mainGlobals "isinstance" = some none)
    (z6 : PySem.W.nsIn K mainGlobals "len" = some none)
    (z7 : PySem.W.nsIn K mainGlobals "list" = some none)
    (z8 : PySem.W.nsIn K mainGlobals "max" = some none)
    (z9 : PySem.W.nsIn K mainGlobals "min" = some none)
    (z10 : PySem.W.nsIn K mainGlobals "range" = some none)
    (z11 : PySem.W.nsIn K mainGlobals "str" = some none)
    (z12 : PySem.W.nsIn K mainGlobals "tuple" = some none)
    (g_TOP : PySem.W.nsIn K mainGlobals "TOP" = some (some (.ref a_TOP)))
    (l_TOP : K.lookup a_TOP = some ⟨.type "tuple", none, .seq its_TOP n_TOP, sl_TOP⟩)
    (s_TOP : its_TOP.size ≤ sizeLine)
    (v_TOP : L2.Vals ([1, 0].map L2.V.int) its_TOP.toList)
    (g_MOST_PLACES : PySem.W.nsIn K mainGlobals "MOST_PLACES" = some (some (.int 60 t_MOST_PLACES)))
    (g_NOUGHT : PySem.W.nsIn K mainGlobals "NOUGHT" = some (some (.ref a_NOUGHT)))
    (l_NOUGHT : K.lookup a_NOUGHT = some ⟨.type "tuple", none, .seq its_NOUGHT n_NOUGHT, sl_NOUGHT⟩)
    (s_NOUGHT : its_NOUGHT.size ≤ sizeLine)
    (v_NOUGHT : L2.Vals ([0, 1].map L2.V.int) its_NOUGHT.toList)
    (g_MOST_FRACTIONS : PySem.W.nsIn K mainGlobals "MOST_FRACTIONS" = some (some (.int 22 t_MOST_FRACTIONS)))
    (n_NoFan : PySem.W.nsIn K mainGlobals "NoFan" = some (some (.ref c_NoFan)))
    (n_NoTable : PySem.W.nsIn K mainGlobals "NoTable" = some (some (.ref c_NoTable)))
    (n_NoRow : PySem.W.nsIn K mainGlobals "NoRow" = some (some (.ref c_NoRow)))
    (n_NoRoot : PySem.W.nsIn K mainGlobals "NoRoot" = some (some (.ref c_NoRoot)))
    (n_NoPaper : PySem.W.nsIn K mainGlobals "NoPaper" = some (some (.ref c_NoPaper)))
    (n_NoName : PySem.W.nsIn K mainGlobals "NoName" = some (some (.ref c_NoName)))
    (n_NoFraction : PySem.W.nsIn K mainGlobals "NoFraction" = some (some (.ref c_NoFraction)))
    (n_Full : PySem.W.nsIn K mainGlobals "Full" = some (some (.ref c_Full)))
    (n_TooMany : PySem.W.nsIn K mainGlobals "TooMany" = some (some (.ref c_TooMany)))
    (n_TooLong : PySem.W.nsIn K mainGlobals "TooLong" = some (some (.ref c_TooLong)))
    (n_Open : PySem.W.nsIn K mainGlobals "Open" = some (some (.ref c_Open)))
    (n_NotIn : PySem.W.nsIn K mainGlobals "NotIn" = some (some (.ref c_NotIn)))
    (n_NoTurning : PySem.W.nsIn K mainGlobals "NoTurning" = some (some (.ref c_NoTurning)))
    (n_NoText : PySem.W.nsIn K mainGlobals "NoText" = some (some (.ref c_NoText)))
    (n_FanError : PySem.W.nsIn K mainGlobals "FanError" = some (some (.ref c_FanError)))
    (j_NoFan : PySem.W.findIn K (.ref c_NoFan) "__init__" = some (some (.ref fi_NoFan)))
    (l_NoFan : K.lookup fi_NoFan = some ⟨oc_NoFan, od_NoFan, .func (PySem.W.fnOf "__init__" "NoFan.__init__" (defArgs si_NoFan) (defBody si_NoFan) (defScope si_NoFan) (.ref ta_NoFan) kV_NoFan dc_NoFan pm_NoFan an_NoFan cd_NoFan ct_NoFan), sl_NoFan⟩)
    (q_NoFan : PySem.W.codeIn K cd_NoFan "NoFan.__init__" = true)
    (dl_NoFan : K.lookup ta_NoFan = some ⟨.type "tuple", none, .seq #[.int 0 tt_NoFan] tn_NoFan, ts_NoFan⟩)
    (x_NoFan : excInI K c_NoFan fi_NoFan = true)
    (t_NoFan : PySem.W.typeIn K (.ref fi_NoFan) = some (.type "function"))
    (sa_NoFan : PySem.W.findIn K (.ref c_NoFan) "__setattr__" = some (some (.builtin "object.__setattr__")))
    (a_NoFan_where : PySem.W.findIn K (.ref c_NoFan) "where" = some none)
    (a_NoFan_at : PySem.W.findIn K (.ref c_NoFan) "at" = some none)
    (o1_NoFan : PySem.W.findIn K (.ref c_NoFan) "__getattribute__" = some (some (.builtin "BaseException.__getattribute__")))
    (o2_NoFan : PySem.W.findIn K (.ref c_NoFan) "__getattr__" = some none)
    (o3_NoFan : PySem.W.hasDictIn K c_NoFan = true)
    (o4_NoFan : PySem.W.findIn K (.ref c_NoFan) "__class__" = some (some (.builtin "object.__class__")))
    (o5_NoFan : PySem.W.specialIn K (.builtin "object.__class__") "__get__" = some (some (.builtin "getset_descriptor.__get__")))
    (o6_NoFan : PySem.W.takesIn K (.builtin "object.__class__") = some true)
    (o7_NoFan : PySem.W.mroIn K c_NoFan (.type "object") = some true)
    (o8_NoFan : PySem.W.subIn K (.ref c_NoFan) (.type "BaseException") = some true)
    (kt0 : PySem.W.kitAny K (.ref c_NoFan) [.ref c_Full, .ref c_NoFraction, .ref c_NoName, .ref c_NoPaper, .ref c_NoRoot, .ref c_NoRow, .ref c_NoTable] = some false)
    (kt1 : PySem.W.kitAny K (.ref c_NoFan) [.ref c_NoText, .ref c_NoTurning, .ref c_NotIn, .ref c_Open, .ref c_TooLong, .ref c_TooMany] = some false)
    (kt2 : PySem.W.kitOne K (.ref c_NoFan) (.type "ValueError") = some true)
    (kt3 : PySem.W.kitOne K (.ref c_NoFan) (.ref c_FanError) = some true)
    : ∃ fd : FuncData, (∀ (s : Shared) (v : Value), BindsTo s fd ⟨[v], []⟩ [("_law_script", v)]) ∧ ∀ base : Heap, K.In base → base.Ns mainGlobals mg → FnOk l.prog w K mg base CX0 7 fa fd ["_law_script"] (spF K (fLaw 63)) := by
  have e := hfa.symm.trans (PySem.W.mg_of X G a29)
  cases e
  have T : Txt mg := ⟨PySem.W.mg_none_of X G z0, PySem.W.mg_none_of X G z1, PySem.W.mg_none_of X G z2, PySem.W.mg_none_of X G z3, PySem.W.mg_none_of X G z4, PySem.W.mg_none_of X G z5, PySem.W.mg_none_of X G z6, PySem.W.mg_none_of X G z7, PySem.W.mg_none_of X G z8, PySem.W.mg_none_of X G z9, PySem.W.mg_none_of X G z10, PySem.W.mg_none_of X G z11, PySem.W.mg_none_of X G z12⟩
  have TC : Tc K w ⟨c_NoFan, c_NoTable, c_NoRow, c_NoRoot, c_NoPaper, c_NoName, c_NoFraction, c_Full, c_TooMany, c_TooLong, c_Open, c_NotIn, c_NoTurning, c_NoText, c_FanError, a_TOP, its_TOP, n_TOP, sl_TOP, t_MOST_PLACES, a_NOUGHT, its_NOUGHT, n_NOUGHT, sl_NOUGHT, t_MOST_FRACTIONS, fi_NoFan, oc_NoFan, kV_NoFan, dc_NoFan, pm_NoFan, cd_NoFan, ct_NoFan, od_NoFan, an_NoFan, sl_NoFan, ta_NoFan, tn_NoFan, ts_NoFan, tt_NoFan⟩ := ⟨g_TOP, l_TOP, s_TOP, v_TOP, g_MOST_PLACES, g_NOUGHT, l_NOUGHT, s_NOUGHT, v_NOUGHT, g_MOST_FRACTIONS, n_NoFan, n_NoTable, n_NoRow, n_NoRoot, n_NoPaper, n_NoName, n_NoFraction, n_Full, n_TooMany, n_TooLong, n_Open, n_NotIn, n_NoTurning, n_NoText, n_FanError, j_NoFan, l_NoFan, q_NoFan, dl_NoFan, x_NoFan, t_NoFan, sa_NoFan, a_NoFan_where, a_NoFan_at, o1_NoFan, o2_NoFan, o3_NoFan, o4_NoFan, o5_NoFan, o6_NoFan, o7_NoFan, o8_NoFan, kt0, kt1, kt2, kt3⟩
  have F1 := fun_mk (st := s_is_whole) l1 c1 k1
  have b1 := F1.binds (ps := ["thing"]) fun _ _ _ _ _ _ us hl => match us, hl with | [_], _ => rfl
  have F2 := fun_mk (st := s_are_wholes) l2 c2 k2
  have b2 := F2.binds (ps := ["thing", "many"]) fun _ _ _ _ _ _ us hl => match us, hl with | [_, _], _ => rfl
  have F3 := fun_mk (st := s_are_two_tuples) l3 c3 k3
  have b3 := F3.binds (ps := ["thing"]) fun _ _ _ _ _ _ us hl => match us, hl with | [_], _ => rfl
  have F4 := fun_mk (st := s_common_part) l4 c4 k4
  have b4 := F4.binds (ps := ["p", "q"]) fun _ _ _ _ _ _ us hl => match us, hl with | [_, _], _ => rfl
  have F5 := fun_mk (st := s_upright) l5 c5 k5
  have b5 := F5.binds (ps := ["p", "q"]) fun _ _ _ _ _ _ us hl => match us, hl with | [_, _], _ => rfl
  have F6 := fun_mk (st := s_is_fraction) l6 c6 k6
  have b6 := F6.binds (ps := ["thing"]) fun _ _ _ _ _ _ us hl => match us, hl with | [_], _ => rfl
  have F7 := fun_mk (st := s_are_neighbours) l7 c7 k7
  have b7 := F7.binds (ps := ["one", "other"]) fun _ _ _ _ _ _ us hl => match us, hl with | [_, _], _ => rfl
  have F8 := fun_mk (st := s_is_above) l8 c8 k8
  have b8 := F8.binds (ps := ["one", "other"]) fun _ _ _ _ _ _ us hl => match us, hl with | [_, _], _ => rfl
  have F9 := fun_mk (st := s_is_due_fraction) l9 c9 k9
  have b9 := F9.binds (ps := ["fractions", "at"]) fun _ _ _ _ _ _ us hl => match us, hl with | [_, _], _ => rfl
  have F10 := fun_mk (st := s_is_due_mark) l10 c10 k10
  have b10 := F10.binds (ps := ["marks", "gap"]) fun _ _ _ _ _ _ us hl => match us, hl with | [_, _], _ => rfl
  have F11 := fun_mk (st := s_many_places) l11 c11 k11
  have b11 := F11.binds (ps := ["fan"]) fun _ _ _ _ _ _ us hl => match us, hl with | [_], _ => rfl
  have F12 := fun_mk (st := s_look) l12 c12 k12
  have b12 := F12.binds (ps := ["thing"]) fun _ _ _ _ _ _ us hl => match us, hl with | [_], _ => rfl
  have F13 := fun_mk (st := s_law_cell) l13 c13 k13
  have b13 := F13.binds (ps := ["_law_script", "_law_k"]) fun _ _ _ _ _ _ us hl => match us, hl with | [_, _], _ => rfl
  have F14 := fun_mk (st := s_law_digits) l14 c14 k14
  have b14 := F14.binds (ps := ["_law_cell_here", "_law_base", "_law_many"]) fun _ _ _ _ _ _ us hl => match us, hl with | [_, _, _], _ => rfl
  have F15 := fun_mk (st := s_law_mixed) l15 c15 k15
  have b15 := F15.binds (ps := ["_law_cell_here", "_law_base", "_law_many"]) fun _ _ _ _ _ _ us hl => match us, hl with | [_, _, _], _ => rfl
  have F16 := fun_mk (st := s_law_row) l16 c16 k16
  have b16 := F16.binds (ps := ["_law_cell_here", "_law_base", "_law_many"]) fun _ _ _ _ _ _ us hl => match us, hl with | [_, _, _], _ => rfl
  have F17 := fun_mk (st := s_law_fractions) l17 c17 k17
  have b17 := F17.binds (ps := ["_law_many", "_law_digits_here"]) fun _ _ _ _ _ _ us hl => match us, hl with | [_, _], _ => rfl
  have F18 := fun_mk (st := s_law_marks) l18 c18 k18
  have b18 := F18.binds (ps := ["_law_many", "_law_digits_here"]) fun _ _ _ _ _ _ us hl => match us, hl with | [_, _], _ => rfl
  have F19 := fun_mk (st := s_law_fan) l19 c19 k19
  have b19 := F19.binds (ps := ["_law_cell_here"]) fun _ _ _ _ _ _ us hl => match us, hl with | [_], _ => rfl
  have F20 := fun_mk (st := s_law_whole) l20 c20 k20
  have b20 := F20.binds (ps := ["_law_thing_here"]) fun _ _ _ _ _ _ us hl => match us, hl with | [_], _ => rfl
  have F21 := fun_mk (st := s_law_common) l21 c21 k21
  have b21 := F21.binds (ps := ["_law_one", "_law_other"]) fun _ _ _ _ _ _ us hl => match us, hl with | [_, _], _ => rfl
  have F22 := fun_mk (st := s_law_is_fraction) l22 c22 k22
  have b22 := F22.binds (ps := ["_law_thing_here"]) fun _ _ _ _ _ _ us hl => match us, hl with | [_], _ => rfl
  have F23 := fun_mk (st := s_law_bad_fraction) l23 c23 k23
  have b23 := F23.binds (ps := ["_law_fractions_here", "_law_i"]) fun _ _ _ _ _ _ us hl => match us, hl with | [_, _], _ => rfl
  have F24 := fun_mk (st := s_law_bad_mark) l24 c24 k24
  have b24 := F24.binds (ps := ["_law_marks_here", "_law_i"]) fun _ _ _ _ _ _ us hl => match us, hl with | [_, _], _ => rfl
  have F25 := fun_mk (st := s_law_fault) l25 c25 k25
  have b25 := F25.binds (ps := ["_law_thing_here"]) fun _ _ _ _ _ _ us hl => match us, hl with | [_], _ => rfl
  have F26 := fun_mk (st := s_law_changed) l26 c26 k26
  have b26 := F26.binds (ps := ["_law_row_here", "_law_digits_here"]) fun _ _ _ _ _ _ us hl => match us, hl with | [_, _], _ => rfl
  have F27 := fun_mk (st := s_law_found) l27 c27 k27
  have b27 := F27.binds (ps := ["_law_thing_here"]) fun _ _ _ _ _ _ us hl => match us, hl with | [_], _ => rfl
  have F28 := fun_mk (st := s_law_thing) l28 c28 k28
  have b28 := F28.binds (ps := ["_law_fan_here", "_law_digits_here"]) fun _ _ _ _ _ _ us hl => match us, hl with | [_, _], _ => rfl
  have F29 := fun_mk (st := s_law) l29 c29 k29
  have b29 := F29.binds (ps := ["_law_script"]) fun _ _ _ _ _ _ us hl => match us, hl with | [_], _ => rfl
  refine ⟨PySem.W.fnOf "law" "law" (defArgs s_law) (defBody s_law) (defScope s_law) .none kV29 dc29 pm29 an29 cd29 ct29, fun s v => .of_eq rfl, fun base _ _ => ?_⟩
  have k_is_whole := kn_is_whole (P := l.prog) (w := w) (base := base) F1 (PySem.W.mg_of X G a1) b1 T
  have k_are_wholes := kn_are_wholes (P := l.prog) (w := w) (base := base) F2 (PySem.W.mg_of X G a2) b2 T k_is_whole
  have k_are_two_tuples := kn_are_two_tuples (P := l.prog) (w := w) (base := base) F3 (PySem.W.mg_of X G a3) b3 T
  have k_common_part := kn_common_part (P := l.prog) (w := w) (base := base) F4 (PySem.W.mg_of X G a4) b4 T
  have k_upright := kn_upright (P := l.prog) (w := w) (base := base) F5 (PySem.W.mg_of X G a5) b5 T
  have k_is_fraction := kn_is_fraction (P := l.prog) (w := w) (base := base) F6 (PySem.W.mg_of X G a6) b6 T k_are_wholes k_common_part k_upright
  have k_are_neighbours := kn_are_neighbours (P := l.prog) (w := w) (base := base) F7 (PySem.W.mg_of X G a7) b7 T
  have k_is_above := kn_is_above (P := l.prog) (w := w) (base := base) F8 (PySem.W.mg_of X G a8) b8 T
  have k_is_due_fraction := kn_is_due_fraction (P := l.prog) (w := w) (base := base) F9 (PySem.W.mg_of X G a9) b9 T TC k_are_neighbours k_is_above k_is_fraction
  have k_is_due_mark := kn_is_due_mark (P := l.prog) (w := w) (base := base) F10 (PySem.W.mg_of X G a10) b10 T k_is_whole
  have k_many_places := kn_many_places (P := l.prog) (w := w) (base := base) F11 (PySem.W.mg_of X G a11) b11 T
  have kv_look := knv_look (P := l.prog) (w := w) (base := base) F12 (PySem.W.mg_of X G a12) b12 T TC k_are_two_tuples k_is_due_fraction k_is_due_mark k_many_places
  have k_law_cell := kn_law_cell (P := l.prog) (w := w) (base := base) F13 (PySem.W.mg_of X G a13) b13 T
  have k_law_digits := kn_law_digits (P := l.prog) (w := w) (base := base) F14 (PySem.W.mg_of X G a14) b14 T
  have k_law_mixed := kn_law_mixed (P := l.prog) (w := w) (base := base) F15 (PySem.W.mg_of X G a15) b15 T
  have k_law_row := kn_law_row (P := l.prog) (w := w) (base := base) F16 (PySem.W.mg_of X G a16) b16 T k_law_digits k_law_mixed
  have k_law_fractions := kn_law_fractions (P := l.prog) (w := w) (base := base) F17 (PySem.W.mg_of X G a17) b17 T
  have k_law_marks := kn_law_marks (P := l.prog) (w := w) (base := base) F18 (PySem.W.mg_of X G a18) b18 T
  have k_law_fan := kn_law_fan (P := l.prog) (w := w) (base := base) F19 (PySem.W.mg_of X G a19) b19 T k_law_fractions k_law_marks k_law_row
  have k_law_whole := kn_law_whole (P := l.prog) (w := w) (base := base) F20 (PySem.W.mg_of X G a20) b20 T
  have k_law_common := kn_law_common (P := l.prog) (w := w) (base := base) F21 (PySem.W.mg_of X G a21) b21 T
  have k_law_is_fraction := kn_law_is_fraction (P := l.prog) (w := w) (base := base) F22 (PySem.W.mg_of X G a22) b22 T k_law_common k_law_whole
  have k_law_bad_fraction := kn_law_bad_fraction (P := l.prog) (w := w) (base := base) F23 (PySem.W.mg_of X G a23) b23 T k_law_is_fraction
  have k_law_bad_mark := kn_law_bad_mark (P := l.prog) (w := w) (base := base) F24 (PySem.W.mg_of X G a24) b24 T k_law_whole
  have k_law_fault := kn_law_fault (P := l.prog) (w := w) (base := base) F25 (PySem.W.mg_of X G a25) b25 T k_law_bad_fraction k_law_bad_mark
  have k_law_changed := kn_law_changed (P := l.prog) (w := w) (base := base) F26 (PySem.W.mg_of X G a26) b26 T
  have k_law_found := kn_law_found (P := l.prog) (w := w) (base := base) F27 (PySem.W.mg_of X G a27) b27 T TC  kv_look
  have k_law_thing := kn_law_thing (P := l.prog) (w := w) (base := base) F28 (PySem.W.mg_of X G a28) b28 T k_law_changed
  exact kn_law F29 T k_law_cell k_law_fan k_law_fault k_law_found k_law_fractions k_law_marks k_law_row k_law_thing
end K14
namespace PySem.W.Fast
theorem tw14697871045047662348 : True := trivial
theorem tw14617077539883956795 : True := trivial
theorem tw12368003622041095995 : True := trivial
theorem tw8694796262468131502 : True := trivial
theorem tw11606934473329052386 : True := trivial
theorem tw4842752356919681675 : True := trivial
theorem tw11217235144062380883 : True := trivial
theorem tw16894536693997877782 : True := trivial
theorem tw7635026382537399819 : True := trivial
theorem tw6885192535441353657 : True := trivial
theorem tw932512288383965804 : True := trivial
theorem tw6515910628116403614 : True := trivial
theorem tw4606332888913585150 : True := trivial
theorem tw7505526294323134772 : True := trivial
theorem tw14102281028338029645 : True := trivial
theorem tw4091927986364568583 : True := trivial
theorem tw12893812613468744379 : True := trivial
theorem tw3715962310252325274 : True := trivial
theorem tw6276612494220189859 : True := trivial
theorem tw11323721668541431373 : True := trivial
theorem tw6481205696684355375 : True := trivial
theorem tw7760892232862494261 : True := trivial
theorem tw17979556363792056628 : True := trivial
theorem tw1649010490098308273 : True := trivial
theorem tw5680852705690900046 : True := trivial
theorem tw10559539280652551736 : True := trivial
theorem tw5175087162478072683 : True := trivial
theorem tw9970303977204474931 : True := trivial
theorem tw17747261965221826578 : True := trivial
theorem tw11131255701804989021 : True := trivial
theorem tw6471439564761649955 : True := trivial
theorem tw15952339419013154654 : True := trivial
theorem tw5475669491575513818 : True := trivial
theorem tw12317120234602543193 : True := trivial
theorem tw17801628393246386834 : True := trivial
theorem tw9878257803544946005 : True := trivial
theorem tw143364589522103939 : True := trivial
theorem tw12958548921265543835 : True := trivial
theorem tw13923200607154345411 : True := trivial
theorem tw11971701144124342220 : True := trivial
theorem tw16170688622476956730 : True := trivial
theorem tw1087396957825393182 : True := trivial
theorem tw16298675177957368037 : True := trivial
theorem tw10035832890513133231 : True := trivial
theorem tw18136205918436797046 : True := trivial
theorem tw5299941576901052336 : True := trivial
theorem tw16916756182519018677 : True := trivial
theorem tw11536012224709388911 : True := trivial
theorem tw14130272656443446053 : True := trivial
theorem tw7132899437697076531 : True := trivial
theorem tw15127853861181159337 : True := trivial
theorem tw7371978187031326036 : True := trivial
theorem tw18375455422995521510 : True := trivial
theorem tw2085871492244914735 : True := trivial
theorem tw8269709177412917342 : True := trivial
theorem tw17993614798649313748 : True := trivial
theorem tw15048175763155722883 : True := trivial
theorem tw8877440193679533416 : True := trivial
theorem tw3955121164100479052 : True := trivial
theorem tw16664907769321855502 : True := trivial
theorem tw17777506105638779092 : True := trivial
theorem tw3499281817952918904 : True := trivial
theorem tw13766486094988728388 : True := trivial
theorem tw11715290938518103557 : True := trivial
theorem tw11519708366861983242 : True := trivial
theorem tw1490430034898660459 : True := trivial
theorem tw9246039145178939409 : True := trivial
theorem tw9052914762640126499 : True := trivial
theorem tw17418842179792969269 : True := trivial
theorem tw6221798374735382580 : True := trivial
theorem tw11093378304693183399 : True := trivial
theorem tw5917731756101459375 : True := trivial
theorem tw7198661356141443013 : True := trivial
theorem tw13153414577553736629 : True := trivial
theorem tw11230423294297319987 : True := trivial
theorem tw7178378961427493627 : True := trivial
theorem tw16269454252961386782 : True := trivial
theorem tw707531411953505881 : True := trivial
theorem tw4686330918072816155 : True := trivial
theorem tw15700584777746631243 : True := trivial
theorem tw5132657332193951370 : True := trivial
theorem tw12088999945931882574 : True := trivial
theorem tw11606772530080411253 : True := trivial
theorem tw2523497354118183436 : True := trivial
theorem tw14482731509205749955 : True := trivial
theorem tw6128685203716193087 : True := trivial
theorem tw4802690272025755235 : True := trivial
theorem tw17695398591284480391 : True := trivial
theorem tw4004265666329075746 : True := trivial
theorem tw448830493613666031 : True := trivial
theorem tw15926852837217488582 : True := trivial
theorem tw7495493034514685476 : True := trivial
theorem tw8594797061941795384 : True := trivial
theorem tw16083478558241253568 : True := trivial
theorem tw17618434372240155902 : True := trivial
theorem tw14584185641658643129 : True := trivial
theorem tw7417462921855788154 : True := trivial
theorem tw14079417723917246497 : True := trivial
theorem tw18434736355452826779 : True := trivial
theorem tw3193190108726778628 : True := trivial
theorem tw13798856743603460175 : True := trivial
theorem tw7856274113101393069 : True := trivial
theorem tw17252132762129266905 : True := trivial
theorem tw4640416719405568810 : True := trivial
end PySem.W.Fast
open PySem PySem.W PyProof.Rows
set_option maxRecDepth 100000 in
set_option maxHeartbeats 0 in
theorem PySem.Challenge.cw_fanglue_k14_fans_looked_at_holds : PySem.Challenge.rw_fanglue_k14_fans_looked_at.Holds := by
  w_on; o_law; k_head; (case hw => w_witness2)
  k_fill
  refine L2.walk_of (l := PySem.Challenge.rw_fanglue_k14_fans_looked_at) (n := 63) (k := 7) (x := "_law_script") (CX := fun _ => L2.CX0) (sp := fun w => L2.L3.spF _ (L2.L3.fLaw 63)) rfl (by decide) rfl ⟨rfl, by decide, by decide⟩ (fun w h Y => PySem.W.kIn_of Y) ?F (fun _ _ a ns hl _ hS => L2.L3.law_sp hl hS) (fun _ _ _ _ _ z => z)
  case F =>
    intro w mg fa h KX G hmg
    refine' K14.all_mk KX G hmg ?a1 ?l1 ?c1 ?k1 ?a2 ?l2 ?c2 ?k2 ?a3 ?l3 ?c3 ?k3 ?a4 ?l4 ?c4 ?k4 ?a5 ?l5 ?c5 ?k5 ?a6 ?l6 ?c6 ?k6 ?a7 ?l7 ?c7 ?k7 ?a8 ?l8 ?c8 ?k8 ?a9 ?l9 ?c9 ?k9 ?a10 ?l10 ?c10 ?k10 ?a11 ?l11 ?c11 ?k11 ?a12 ?l12 ?c12 ?k12 ?a13 ?l13 ?c13 ?k13 ?a14 ?l14 ?c14 ?k14 ?a15 ?l15 ?c15 ?k15 ?a16 ?l16 ?c16 ?k16 ?a17 ?l17 ?c17 ?k17 ?a18 ?l18 ?c18 ?k18 ?a19 ?l19 ?c19 ?k19 ?a20 ?l20 ?c20 ?k20 ?a21 ?l21 ?c21 ?k21 ?a22 ?l22 ?c22 ?k22 ?a23 ?l23 ?c23 ?k23 ?a24 ?l24 ?c24 ?k24 ?a25 ?l25 ?c25 ?k25 ?a26 ?l26 ?c26 ?k26 ?a27 ?l27 ?c27 ?k27 ?a28 ?l28 ?c28 ?k28 ?a29 ?l29 ?c29 ?k29 ?z0 ?z1 ?z2 ?z3 ?z4 ?z5 ?z6 ?z7 ?z8 ?z9 ?z10 ?z11 ?z12 ?g_TOP ?l_TOP ?s_TOP ?v_TOP ?g_MOST_PLACES ?g_NOUGHT ?l_NOUGHT ?s_NOUGHT ?v_NOUGHT ?g_MOST_FRACTIONS ?n_NoFan ?n_NoTable ?n_NoRow ?n_NoRoot ?n_NoPaper ?n_NoName ?n_NoFraction ?n_Full ?n_TooMany ?n_TooLong ?n_Open ?n_NotIn ?n_NoTurning ?n_NoText ?n_FanError ?j_NoFan ?l_NoFan ?q_NoFan ?dl_NoFan ?x_NoFan ?t_NoFan ?sa_NoFan ?a_NoFan_where ?a_NoFan_at ?o1_NoFan ?o2_NoFan ?o3_NoFan ?o4_NoFan ?o5_NoFan ?o6_NoFan ?o7_NoFan ?o8_NoFan ?kt0 ?kt1 ?kt2 ?kt3
    (case a1 => k_is)
    (case l1 => k_is)
    (case c1 => k_is)
    (case k1 => k_is)
    (case a2 => k_is)
    (case l2 => k_is)
    (case c2 => k_is)
    (case k2 => k_is)
    (case a3 => k_is)
    (case l3 => k_is)
    (case c3 => k_is)
    (case k3 => k_is)
    (case a4 => k_is)
    (case l4 => k_is)
    (case c4 => k_is)
    (case k4 => k_is)
    (case a5 => k_is)
    (case l5 => k_is)
    (case c5 => k_is)
    (case k5 => k_is)
    (case a6 => k_is)
    (case l6 => k_is)
    (case c6 => k_is)
    (case k6 => k_is)
    (case a7 => k_is)
    (case l7 => k_is)
    (case c7 => k_is)
    (case k7 => k_is)
    (case a8 => k_is)
    (case l8 => k_is)
    (case c8 => k_is)
    (case k8 => k_is)
    (case a9 => k_is)
    (case l9 => k_is)
    (case c9 => k_is)
    (case k9 => k_is)
    (case a10 => k_is)
    (case l10 => k_is)
    (case c10 => k_is)
    (case k10 => k_is)
    (case a11 => k_is)
    (case l11 => k_is)
    (case c11 => k_is)
    (case k11 => k_is)
    (case a12 => k_is)
    (case l12 => k_is)
    (case c12 => k_is)
    (case k12 => k_is)
    (case a13 => k_is)
    (case l13 => k_is)
    (case c13 => k_is)
    (case k13 => k_is)
    (case a14 => k_is)
    (case l14 => k_is)
    (case c14 => k_is)
    (case k14 => k_is)
    (case a15 => k_is)
    (case l15 => k_is)
    (case c15 => k_is)
    (case k15 => k_is)
    (case a16 => k_is)
    (case l16 => k_is)
    (case c16 => k_is)
    (case k16 => k_is)
    (case a17 => k_is)
    (case l17 => k_is)
    (case c17 => k_is)
    (case k17 => k_is)
    (case a18 => k_is)
    (case l18 => k_is)
    (case c18 => k_is)
    (case k18 => k_is)
    (case a19 => k_is)
    (case l19 => k_is)
    (case c19 => k_is)
    (case k19 => k_is)
    (case a20 => k_is)
    (case l20 => k_is)
    (case c20 => k_is)
    (case k20 => k_is)
    (case a21 => k_is)
    (case l21 => k_is)
    (case c21 => k_is)
    (case k21 => k_is)
    (case a22 => k_is)
    (case l22 => k_is)
    (case c22 => k_is)
    (case k22 => k_is)
    (case a23 => k_is)
    (case l23 => k_is)
    (case c23 => k_is)
    (case k23 => k_is)
    (case a24 => k_is)
    (case l24 => k_is)
    (case c24 => k_is)
    (case k24 => k_is)
    (case a25 => k_is)
    (case l25 => k_is)
    (case c25 => k_is)
    (case k25 => k_is)
    (case a26 => k_is)
    (case l26 => k_is)
    (case c26 => k_is)
    (case k26 => k_is)
    (case a27 => k_is)
    (case l27 => k_is)
    (case c27 => k_is)
    (case k27 => k_is)
    (case a28 => k_is)
    (case l28 => k_is)
    (case c28 => k_is)
    (case k28 => k_is)
    (case a29 => k_is)
    (case l29 => k_is)
    (case c29 => k_is)
    (case k29 => k_is)
    (case z0 => k_is)
    (case z1 => k_is)
    (case z2 => k_is)
    (case z3 => k_is)
    (case z4 => k_is)
    (case z5 => k_is)
    (case z6 => k_is)
    (case z7 => k_is)
    (case z8 => k_is)
    (case z9 => k_is)
    (case z10 => k_is)
    (case z11 => k_is)
    (case z12 => k_is)
    (case g_TOP => k_is)
    (case l_TOP => k_is)
    (case s_TOP => exact (by first | decide | simp [PySem.sizeLine_eq]))
    (case v_TOP => exact (.cons ⟨_, rfl⟩ (.cons ⟨_, rfl⟩ .nil)))
    (case g_MOST_PLACES => k_is)
    (case g_NOUGHT => k_is)
    (case l_NOUGHT => k_is)
    (case s_NOUGHT => exact (by first | decide | simp [PySem.sizeLine_eq]))
    (case v_NOUGHT => exact (.cons ⟨_, rfl⟩ (.cons ⟨_, rfl⟩ .nil)))
    (case g_MOST_FRACTIONS => k_is)
    (case n_NoFan => k_is)
    (case n_NoTable => k_is)
    (case n_NoRow => k_is)
    (case n_NoRoot => k_is)
    (case n_NoPaper => k_is)
    (case n_NoName => k_is)
    (case n_NoFraction => k_is)
    (case n_Full => k_is)
    (case n_TooMany => k_is)
    (case n_TooLong => k_is)
    (case n_Open => k_is)
    (case n_NotIn => k_is)
    (case n_NoTurning => k_is)
    (case n_NoText => k_is)
    (case n_FanError => k_is)
    (case j_NoFan => k_is)
    (case l_NoFan => k_is)
    (case q_NoFan => k_is)
    (case dl_NoFan => k_is)
    (case x_NoFan => kernel_rfl)
    (case t_NoFan => k_is)
    (case sa_NoFan => k_is)
    (case a_NoFan_where => k_is)
    (case a_NoFan_at => k_is)
    (case o1_NoFan => k_is)
    (case o2_NoFan => k_is)
    (case o3_NoFan => k_is)
    (case o4_NoFan => k_is)
    (case o5_NoFan => k_is)
    (case o6_NoFan => k_is)
    (case o7_NoFan => k_is)
    (case o8_NoFan => k_is)
    (case kt0 => kit_is)
    (case kt1 => kit_is)
    (case kt2 => kit_is)
    (case kt3 => kit_is)
